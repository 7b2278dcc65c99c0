import Derived.Test.YtmgfijllcdadgaaGreatDoorUW31
set_option linter.all false
set_option maxHeartbeats 8000000
set_option maxRecDepth 100000
namespace Go.Proofs.YtmgfijllcdadgaaGreatDoor
open Go.RowKit
open List
open Go.Proofs.Tryz
open Mk
variable {w:World}{b:Nat}{s:Z}{L:Lay}
def EJ(l:U):Lib.strCells ⟨l.toArray⟩=l.map bv:=by unfold Lib.strCells bv;simp
structure qE(w wx:World)(v:Value)(l:U):Prop where
 cH:Below w.heap.size w wx
 row:wx.ownsRow w.heap.size 5 1 v l.length (l.map bv)
def qE.below{a b:World}{v:Value}{l:U}(h:qE w a v l)(c:Below a.heap.size a b):qE w b v l:=
 ⟨h.cH.trans (c.mono h.cH.size),mo (r:=⟨5,1,v,l.length,l.map bv⟩) h.row λk d=>c.block k (h.row.lt k d).2⟩
def qE.grow{c b:World}{v d:Value}{l m:U}(h:qE w c v l)(f:b.ownsRow w.heap.size 5 1 d (l.length+m.length) (l.map bv++m.map bv))(a:c.grownBy b v.ownBlock):qE w b d (l++m):=by
 refine⟨h.cH.trans ⟨a.os,a.tape,a.output,a.size,λk g=>a.block k (i_ g h.cH.size) λe=>?_⟩,by simpa using f⟩;have:=(h.row.lt k e.symm).1;omega
def qE.slice{w b:World}{v:Value}{l:U}(h:qE w b v l):∃a c,v=.slice a l.length c:=slice_form h.row
def adS(h:bC w b s L)(k:Nat)(d:k<s.I.length):∃g,L.oa=some ⟨g,0,none⟩/\g<w.heap.size/\w.cell? ⟨g,k,none⟩=some (.string ⟨(s.I[k]).toArray⟩):=by
 have hrow:w.ownsRow (b - 1) 9 1 (.slice L.oa s.I.length L.oc) s.I.length (s.I.flatMap λn=>[sv n]):=by
  have:=h.rows.own (eH s L) (by simp[rowsOf]);have e:(s.I.flatMap λn=>[sv n])=s.I.map sv:=by rw[map_eq_flatMap]
  rwa[e]
 obtain⟨g,f,a,c⟩:=vB (m:=1) (l:=s.I) (λn=>[sv n]) (λ_=>rfl) (by decide) hrow k d;refine⟨g,f,a,?_⟩;have:=c 0 (by decide);simpa[sv]using this
def adT(h:bC w b s L)(hW:W s)(hB:Bd s)(hq:0<=s.aj2/\s.aj2<=255)(a2:∀n∈s.I,n.length<=100000000)(hG:Gl w)(hs:2<w.heap.size)(o:(Mk.rest s).length<=1000000000000):
 Calls prog 92 #[.pointer (some ⟨b,0,none⟩)] w λe w' =>∃v,e=.returned v/\qE w w' v (Mk.rest s):=by
 have ab:s.t=0\/oH s.pc s.t:=by
  by_cases hp:0<s.t
  .exact .inr (hW.t hp).2.2.1
  exact .inl (by have:=hW.p0;omega)
 have a0:(bP s).length<=100000000:=by
  rw[bP,uw];cases hl:s.I.getLast? with
  |none=>simp
  |some n=>exact a2 n (CV hl)
 have HP:=Y λn=>adI s.pc s.t ab (w.drewN n);have hc:=h.cell;have be:=h.lt;obtain⟨i0,hi,H,I,N⟩:=lg yR;have HH:=Y h;have HG:=Y hG;have ad:=Y λw' (hb:Below w.heap.size w w')=>adR (EI h hb) hB hq a0;have ae:=Y λw' (hb:Below w.heap.size w w')=>adM s.rp s.rn s.rc (cL hB.rn) hB.r0 hB.r1 w' (hG.below hs hb) (i_ hs hb.size);have af:∀w', Below w.heap.size w w' ->(∀i,w'.cell? ⟨b,i,none⟩=(cellsOf s L)[i]?):=λw' hb=>(EI h hb).cell;have a4:=Y af;have aw:=Y λw' (hb:Below w.heap.size w w') k hk=>adS (EI h hb) k hk;have ax:=Y a2;have bf:=hB.ho;have d:Mk.rest s=iJ s.pc s.t++jP s.rp s.rn s.rc++dD s++gA (qX s)++(if s.I=[]/\s.over=false/\iR s.H=false then[60,97,47,62]else[]):=rfl;have b9:(iJ s.pc s.t).length+(jP s.rp s.rn s.rc).length+(dD s).length<=1000000000000:=by
  rw[d]at o;simp only[bT]at o;omega
 obtain⟨O,hF⟩:=aj8 (Mk.rest s);rw[<-hF]at d o⊢;obtain⟨K,ay,az,b0⟩:∃K:Nat,K<=s.I.length/\qX s=(s.I.take K).reverse/\((kW s.H=true/\(s.I.length:Int) - 1 - 1=(K:Int) - 1)\/(kW s.H=false/\(s.I.length:Int) - 1=(K:Int) - 1)):=by
  cases he:kW s.H
  .exact⟨s.I.length,a_ _,by rw[qX,he,tv];rfl,.inr ⟨rfl,rfl⟩⟩
  have bg:s.H=20\/s.H=21:=by unfold kW at he;simpa using he
  have b1:=hW.o1 (by omega);have ba:0<s.I.length:=length_pos_iff.2 b1;exact⟨s.I.length - 1,by omega,by rw[qX,he,dropLast_eq_take];rfl,.inl ⟨rfl,by omega⟩⟩
 rw[az]at d;have ag:=Y d;have HST:=Y λw=>Jv s.H w;have ah:=Y λw=>adO s.H w;generalize iJ s.pc s.t=pr at *;generalize jP s.rp s.rn s.rc=rr at *;generalize dD s=mr at *;unfold cellsOf at hc;clear h hG af d hF a2 a0 ab;go_enter func92,ntmps92;go_wp2_with fail;go_call(HP.u 0)as e w1 ⟨a1,c1,rfl,y,ai⟩;have R1:qE w w1 (.slice a1 pr.length c1) pr:=⟨ai,y⟩;have aj:=a4.u w1 R1.cH;unfold cellsOf at aj;have a6:=Y R1;clear y ai hc R1 HP;go_wp2_with fail;go_call(ae.u w1 a6.u.cH)as e w2 ⟨rfl,ak⟩;have P:=Y (a6.u.below ak);clear ak a6 ae aj;go_wp2_with(at_builtin;refine Lib.wpList_append_own_string _ rfl (.tmp 11) (.tmp 16) 74 9 rfl w.heap.size 5 i0 underlying74 underlying9 hi H I N (.slice a1 pr.length c1) pr.length (pr.map bv) rfl P.u.row ⟨rr.toArray⟩ rfl (by show pr.length+rr.length<=_;unfold maxLen;omega) (by show pr.length+rr.length<=_;omega) P.u.cH.size ?_;intro v3 w3 a8 al _;rw[EJ]at a8;have z:=Y (P.u.grow (m:=rr) a8 al);obtain⟨l2,Q⟩:=akb (pr++rr);rw[Q]at z;obtain⟨a3,c3,rfl⟩:=z.u.slice;have bh:l2.length<=1000000000000 - mr.length:=(by rw[<-Q];simp;omega);have am:=Y Q;clear a8 al Q);clear P;go_call(ad.u w3 z.u.cH)as e w4 ⟨rfl,an⟩;have R:=Y (z.u.below an);clear an z ad;go_wp2_with(at_builtin;refine Lib.wpList_append_own_string _ rfl (.tmp 18) (.tmp 20) 74 9 rfl w.heap.size 5 i0 underlying74 underlying9 hi H I N (.slice a3 l2.length c3) l2.length (l2.map bv) rfl R.u.row ⟨mr.toArray⟩ rfl (by show l2.length+mr.length<=_;unfold maxLen;omega) (by show l2.length+mr.length<=_;omega) R.u.cH.size ?_;intro v5 w5 a9 ao _;rw[EJ]at a9;have A:=Y (R.u.grow (m:=mr) a9 ao);obtain⟨l3,aa⟩:=akb (l2++mr);rw[aa]at A;obtain⟨a5,c5,rfl⟩:=A.u.slice;have ap:=Y aa;clear aa;have b2:=a4.u w5 A.u.cH;unfold cellsOf at b2;clear a9 ao);clear R;generalize hC:(if s.I=[]/\s.over=false/\iR s.H=false then([60,97,47,62]:U)else[])=C at *;have bi:C.length<=4:=by rw[<-hC];split<;>simp
 have HC:=Y hC;have aq:Hid (qE w w5 (.slice a5 l3.length c5) l3/\O=l3++gA (s.I.take K).reverse++C):=⟨A.u,by rw[ag.u,am.u,ap.u]⟩;clear hC A ag am ap;go_call(ah.u _)as e w6 ⟨rfl,hw⟩;obtain rfl:=hw.symm;clear ah;obtain⟨he,hk⟩|⟨he,hk⟩:=b0;all_goals
  rw[he];go_wp2_with fail;have b3:=Y hk;clear hk;go_loopg [3,5] K λg s3 s5 wx=>∃(wy:World) (a:Option Addr) (c:Nat) (l:U) (k:Nat),wy=wx/\g=k/\k<=s.I.length/\s3=.slice a l.length c/\s5=.int .i64 ((k:Int) - 1)/\Hid (qE w wy (.slice a l.length c) l/\O=l++gA (s.I.take k).reverse++C);case atStart=>exact⟨_,a5,c5,l3,K,rfl,rfl,ay,rfl,by have:=b3.u;first|rfl|(congr 1)|(congr 1;omega),aq⟩
  case round=>
   obtain⟨wy,a,c,l,k,b4,b5,bj,rfl,rfl,x⟩:=hrel;obtain rfl:=b5.symm;subst b4;clear aq;have ar:=x.u.1.cH.size;have B:=a4.u wy x.u.1.cH;unfold cellsOf at B;by_cases h0:0<k
   .obtain⟨j,rfl⟩:∃j,k=j+1:=⟨k - 1,by omega⟩;have hj:j<s.I.length:=by omega
    have b6:((j+1:Nat):Int) - 1=(j:Int):=by omega
    rw[b6];obtain⟨g,hg,bk,b7⟩:=aw.u wy x.u.1.cH j hj;have bl:=ax.u s.I[j] (iZ hj);have hfin:=x.u.2;rw[Ga s.I j hj,reverse_append,reverse_singleton,singleton_append]at hfin;generalize s.I[j]=nm at *;unfold gA at hfin;have b8:l.length+nm.length+3<=1000000000000:=by rw[hfin]at o;simp at o;omega
    rw[hg]at B;clear hg;obtain⟨z1,r⟩:∃z1:U,[60,47]++nm=z1:=⟨_,rfl⟩;obtain⟨G,t⟩:∃G:U,z1++[62]=G:=⟨_,rfl⟩;have bm:(⟨#[60,47]⟩:ByteArray)++(⟨nm.toArray⟩:ByteArray)=⟨z1.toArray⟩:=by rw[<-r];apply rF;simp
    have bn:(⟨z1.toArray⟩:ByteArray)++(⟨#[62]⟩:ByteArray)=⟨G.toArray⟩:=by rw[<-t];apply rF;simp
    have bb:z1.length=nm.length+2:=by rw[<-r];simp<;>omega
    have bc:G.length=nm.length+3:=by rw[<-t];simp<;>omega
    have D:O=(l++G)++gA (s.I.take j).reverse++C:=by rw[hfin,<-t,<-r];simp
    have f:=Y D;have e1:decide (0<=(j:Int))=true:=aj_;have e3:(j:Int)<(s.I.length:Int):=by omega
    clear hfin D r t;go_wp2_with(at_builtin;refine Lib.wpList_append_own_string _ rfl (.tmp 40) (.tmp 49) 74 9 rfl w.heap.size 5 i0 underlying74 underlying9 hi H I N (.slice a l.length c) l.length (l.map bv) rfl x.u.1.row ⟨G.toArray⟩ rfl (by show l.length+G.length<=_;unfold maxLen;omega) (by show l.length+G.length<=_;omega) ar ?_;intro v7 w7 p E _;rw[EJ]at p;have F:=Y (x.u.1.grow (m:=G) p E);obtain⟨l4,au⟩:=akb (l++G);rw[au]at F f;obtain⟨a7,c7,rfl⟩:=F.u.slice;clear p E au);go_roundg j;case measure=>omega
    case rel=>exact⟨_,a7,c7,l4,j,rfl,rfl,by omega,rfl,rfl,⟨F.u,f.u⟩⟩
   obtain rfl:k=0:=by omega
   have hfin:O=l++C:=by have:=x.u.2;simpa[gA]using this
   have f:=Y hfin;clear hfin;have e1:decide (0<=((0:Nat):Int) - 1)=false:=by decide
   have bo:decide ((0:Int)<= -1)=false:=by decide
   by_cases S:s.I=[]
   .have av:s.I.length=0:=by rw[S];rfl
    rw[av]at B;cases T:s.over
    .rw[T]at B;cases X:iR s.H
     .rw[X]at HST;have q:C=[60,97,47,62]:=by rw[<-HC.u,J ⟨S,T,X⟩]
      subst q;have b8:l.length+4<=1000000000000:=by rw[f.u]at o;simpa using o
      go_wp2_with first|(go_at_call 126;go_call(HST.u _)as e w8 ⟨rfl,rfl⟩)|(at_builtin;refine Lib.wpList_append_own_string _ rfl (.tmp 72) (.const (.string ⟨#[60,97,47,62]⟩)) 74 9 rfl w.heap.size 5 i0 underlying74 underlying9 hi H I N (.slice a l.length c) l.length (l.map bv) rfl x.u.1.row ⟨#[60,97,47,62]⟩ rfl (by show l.length+4<=_;unfold maxLen;omega) (by show l.length+4<=_;omega) ar ?_;intro v7 w7 p E _;rw[EJ [60,97,47,62]]at p;have F:=Y (x.u.1.grow (m:=[60,97,47,62]) p E);clear p E)
      go_ret;rw[f.u];exact⟨_,rfl,F.u⟩
     rw[X]at HST;have q:C=[]:=by rw[<-HC.u,M<|by rw[X];simp]
     subst q;go_wp2_with(go_at_call 126;go_call(HST.u _)as e w8 ⟨rfl,rfl⟩);go_ret;rw[f.u,aj1];exact⟨_,rfl,x.u.1⟩
    rw[T]at B;have q:C=[]:=by rw[<-HC.u,M<|by rw[T];simp]
    subst q;go_wp2;go_ret;rw[f.u,aj1];exact⟨_,rfl,x.u.1⟩
   have bd:0<s.I.length:=length_pos_iff.2 S;have e2:((s.I.length:Int)==0)=false:=by simp;omega
   have q:C=[]:=by rw[<-HC.u,M λg=>S g.1]
   subst q;go_wp2;go_ret;rw[f.u,aj1];exact⟨_,rfl,x.u.1⟩
def Re{m:Nat}:∀(l:List U),(∀n∈l,n.length<=m)->nA l<=l.length* (m+3)
 |[],_=>dO _
 |n::r,h=>by
  have a:=Re r λx hx=>h x (iU _ hx);have b:=h n jU;simp only[nA,cT,Nat.add_mul,Nat.one_mul];omega
def Rh(h:W s)(hd:s.od<=64)(d:s.S<=1024):(Mk.rest s).length<=70000/\(∀n∈s.I,n.length<=1024):=by
 have a:∀n∈s.I,n.length<=1024:=λn b=>by have:=(h.xP n b).2;omega
 have e:=Ju h;have f:=Re s.I a;have g:=h.dp;have c:s.I.length<=64:=by omega
 have i:=oO (1024+3) c;exact⟨by omega,a⟩
def adU(h:bC w b s L)(i:s.j=0)(f:W s)(j:Bd s)(hd:s.od<=64)(k:s.S<=1024)(l:Gl w)(m:2<w.heap.size):
 Calls prog 74 #[.pointer (some ⟨b,0,none⟩)] w λe w' =>∃a c,e=.returned (.slice a (Mk.rest s).length c)/\qE w w' (.slice a (Mk.rest s).length c) (Mk.rest s):=by
 have d:=Rh f hd k;have o:=Y (adT h f j f.q0 (λn p=>cL (d.2 n p)) l m (by have:=d.1;omega));have q:=h.cell;have r:=h.lt;have x:(s.j !=0)=false:=by simpa using i
 generalize Mk.rest s=z at *;unfold cellsOf at q;clear h i d;go_enter func74,ntmps74;go_wp2_with fail;go_call o.u as e y ⟨v,rfl,g⟩;obtain⟨a,c,rfl⟩:=g.slice;have t:=Y g;clear g;go_wp2;go_ret;exact⟨a,c,rfl,t.u⟩
