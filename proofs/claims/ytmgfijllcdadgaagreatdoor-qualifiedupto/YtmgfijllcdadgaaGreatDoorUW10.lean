import Derived.Test.YtmgfijllcdadgaaGreatDoorUW08
import Derived.Test.YtmgfijllcdadgaaGreatDoorUW07
set_option linter.all false
set_option maxHeartbeats 8000000
set_option maxRecDepth 100000
namespace Go.Proofs.YtmgfijllcdadgaaGreatDoor
open List
namespace V
open Go.RowKit
open Go.Proofs.Tryz
open Rf
open Mk (U Ev aI)
section
variable {w w' :World}{b:Nat}{s:R}{L:bA}
theorem ZK(s:R):bF s=if s.E s.A==10||s.E s.A==13 then
 (if s.E s.A==13&&decide (s.A+1<s.s.length)&&s.E (s.A+1)==10 then{s with A:=s.A+2}else{s with A:=s.A+1},[10],true)
 else iH s (s.s.length+1) 1:=rfl
def ZL{s:R}{f k:Nat}(h:s.A+k<=s.s.length):iH s (f+1) k=if kr ((s.s.drop s.A).take k)<0 then(Rf.eZ {s with A:=s.A+k - 1} 2,[],false)else if kr ((s.s.drop s.A).take k)=0 then({s with A:=s.A+k},(s.s.drop s.A).take k,true)else iH s f (k+1):=by
 rw[iH,J h]
def ZM{s:R}{f k:Nat}(h:¬s.A+k<=s.s.length):iH s f k=({s with A:=s.s.length,stop:=1},[],false):=by
 cases f with
 |zero=>rfl
 |succ f=>rw[iH,M h]
def zi(h:bD w b s L)(K:iW s)(z:s.A<s.s.length):Calls prog 155 #[.pointer (some ⟨b,0,none⟩)] w (xw w b s L (bF s)):=by
 obtain⟨H,hf,A⟩:=h.zzv;have h1:=K.len;have I:=Y h;have HL:=Y K;obtain⟨y,B,a2,hy⟩:=gP s s.A z;have a3:(s.A:Int)<(s.s.length:Int):=by omega
 have hd:=ZK s;rw[B]at hd;have a4:wrap64 ((s.A:Int)+1)=((s.A+1:Nat):Int):=by unfold wrap64;omega
 unfold aR at H;clear h K hy;by_cases c:(y.toNat:Int)=10;focus
  have j:bF s=({s with A:=s.A+1},[10],true):=by rw[hd,c];rfl
  rw[j];have N:=aka c;have O:((y.toNat:Int)==13)=false:=by simp;omega
  clear j hd B
 rotate_left;focus
  by_cases d:(y.toNat:Int)=13;focus
   have N:=aj7 c;have O:=aka d;rw[d]at hd;by_cases n:s.A+1<s.s.length;focus
    obtain⟨y2,C,a1,P⟩:=gP s (s.A+1) n;rw[C]at hd;have a5:wrap64 ((s.A:Int)+1+1)=((s.A+2:Nat):Int):=by unfold wrap64;omega
    have o:(s.A:Int)+1<(s.s.length:Int):=by omega
    have Q:decide ((s.A:Int)+1<(s.s.length:Int))=true:=aj_;have hn:((s.A:Int)+1).toNat=s.A+1:=by omega
    clear B C P;by_cases x:(y2.toNat:Int)=10
    .have j:bF s=({s with A:=s.A+2},[10],true):=by rw[hd];simp[n,x]
     rw[j];have R:=aka x;clear j hd x c d z h1;go_enter func155,ntmps155;go_wp2;go_quiet(fail);go_wp2;go_quiet(fail);go_wp2;go_ret2;exact⟨rfl,L,(((I.u.start.drewN _).store 5 _ {s with A:=s.A+1} rfl rfl rfl rfl).drewN _).store 5 _ {s with A:=s.A+2} rfl rfl rfl rfl⟩
    have j:bF s=({s with A:=s.A+1},[10],true):=by rw[hd];simp[n,x]
    rw[j];have R:=aj7 x;clear j hd x c d z h1
   rotate_left;focus
    have j:bF s=({s with A:=s.A+1},[10],true):=by rw[hd];simp[n]
    rw[j];have Q:decide ((s.A:Int)+1<(s.s.length:Int))=false:=aj9;clear j hd B
  rotate_left 2
  .have N:=aj7 c;have O:=aj7 d;have j:bF s=iH s (s.s.length+1) 1:=by rw[hd,N,O];rfl
   obtain⟨S,p⟩:=aj8 (bF s);rw[<-p];have HF:=Y (p.trans j);clear j hd B p;go_enter func155,ntmps155;go_wp2;go_quiet(fail);go_wp2_with fail;clear H hf A;go_loopg [5] s.s.length (λg s5 wx=>∃k:Nat,1<=k/\s.A+k<=s.s.length+1/\g=s.s.length+1 - k/\s5=.int .i64 k/\S=iH s (s.s.length+2 - k) k/\bL w b (cO s L) wx s L);case atStart=>exact⟨1,by omega,by omega,by omega,rfl,HF.u,I.u.start.drewN _⟩
   case round=>
    obtain⟨k,D,o,rfl,rfl,hfin,T⟩:=hrel;clear HF;obtain⟨H,hf,A⟩:=T.X.zzv;have q:=Y T;unfold aR at H;clear T I;have a6:wrap64 ((s.A:Int)+(k:Int))=(s.A:Int)+(k:Int):=by unfold wrap64;omega
    by_cases n:s.A+k<=s.s.length
    .have Q:decide ((s.A:Int)+(k:Int)<=(s.s.length:Int))=true:=aj_;have a7:(s.A:Int)+(k:Int)<=(s.s.length:Int):=by omega
     have hn:((s.A:Int)+(k:Int)).toNat=s.A+k:=by omega
     have a8:=pE s.s s.A k;obtain⟨f,r⟩:∃f,s.s.length+2 - k=f+1:=⟨s.s.length+1 - k,by omega⟩;rw[r,ZL n]at hfin;have E:((s.s.drop s.A).take k).length<=1000000000000:=by rw[iB,lm];omega
     generalize(s.s.drop s.A).take k=t at *;have W:=Y λw=>Hr t E w;generalize kr t=gv at *;have l:=Y hfin;have X:=Y (ajN D (ajN o (ajN n r)));clear hfin o n r E c d z;by_cases v:gv<0
     .have a:=l.u;rw[J v]at a;have i:=Y a;have R:=nR v;have hq:(s.A:Int)+(k:Int) - 1=((s.A+k - 1:Nat):Int):=by omega
      have F:=Y λm=>(q.u.drewN m).store 5 (.int .i64 ((s.A:Int)+(k:Int) - 1)) {s with A:=s.A+k - 1} (by rw[hq];rfl) rfl rfl rfl;have HE:=Y λm=>kM (F.u m).X 2;clear a l hq;go_wp2_with fail;go_quiet(fail);go_wp2_with fail;go_quiet(fail)
      go_wp2_with(first
       |(go_at_call 85;go_call(W.u _)as e w1 ⟨rfl,rfl⟩)
       |(go_at_call 83;go_call(HE.u _)as e w1 ⟨rfl,L1,a0⟩))
      go_ret2;rw[i.u];exact⟨rfl,L1,(F.u _).call a0⟩
     have R:=pV v;by_cases G:gv=0
     .have a:=l.u;rw[M v,J G]at a;have i:=Y a;have e5:=aka G;clear a l v;go_wp2_with fail;go_quiet(fail);go_wp2_with fail;go_quiet(fail);go_wp2_with(go_at_call 85;go_call(W.u _)as e w1 ⟨rfl,rfl⟩);go_ret2;rw[i.u];exact⟨rfl,L,(q.u.drewN _).store 5 _ {s with A:=s.A+k} (by simp[aR]) rfl rfl rfl⟩
     have a:=l.u;rw[M v,M G]at a;have i:=Y a;have e5:=aj7 G;have a9:wrap64 ((k:Int)+1)=((k+1:Nat):Int):=by unfold wrap64;omega
     clear a l v G;go_wp2_with fail;go_quiet(fail);go_wp2_with fail;go_quiet(fail);go_wp2_with(go_at_call 85;go_call(W.u _)as e w1 ⟨rfl,rfl⟩);obtain⟨D,o,n,r⟩:=X.u;go_roundg (s.s.length - k);case measure=>omega
     case rel=>exact⟨k+1,by omega,by omega,by omega,by simp,by rw[show s.s.length+2 - (k+1)=f by omega];exact i.u,q.u.drewN _⟩
    have Q:decide ((s.A:Int)+(k:Int)<=(s.s.length:Int))=false:=aj9;rw[ZM n]at hfin;have i:=Y hfin;clear hfin n o c d z;go_wp2_with fail;go_quiet(fail);go_wp2;go_ret2;rw[i.u];exact⟨rfl,L,((q.u.drewN _).store 5 _ {s with A:=s.s.length} rfl rfl rfl rfl).store 6 _ {s with A:=s.s.length,stop:=1} rfl rfl rfl rfl⟩
 all_goals
  go_enter func155,ntmps155;go_wp2;go_quiet(fail);go_wp2;go_quiet(fail);go_wp2;go_ret2;exact⟨rfl,L,((I.u.start.drewN _).store 5 _ {s with A:=s.A+1} rfl rfl rfl rfl).drewN _⟩
end
section
variable {w0 w w' :World}{b:Nat}{s:R}{L:bA}{f0:List Nat}
def qA(L:bA)(e:Ev)(v:Value)(g a:Nat):bA:={L with ea:=some ⟨g,0,none⟩,ec:=a,es:=L.es++[(e,v)]}
def NS(s:R)(L:bA)(e:Ev)(v:Value)(g a:Nat):
 (eP (gS s e) (qA L e v g a)).Perm (jm (gS s e) (qA L e v g a)::bR (e,v)::jo s L::gH s L::(L.es.map bR++L.gs.map jq)):=by
 have b:eP (gS s e) (qA L e v g a)=jm (gS s e) (qA L e v g a)::jo s L::gH s L::((L.es.map bR++[bR (e,v)])++L.gs.map jq):=by
  simp[eP,qA,jo,gH,gS]
 rw[b];refine .cons _ ?_;rw[jB];exact(AX (bR (e,v)) (jo s L::gH s L::L.es.map bR) (L.gs.map jq))
def bL.push(m:bL w0 b f0 w s L)(e:Ev)(v:Value)(p:(bR (e,v)).owned w (b+1))(q:∀k,v.ownBlock=some k->k∉cO s L)
 {g a:Nat} (hown:w'.ownsRow (b+1) 65 5 (.slice (some ⟨g,0,none⟩) (s.y.length+1) a) (s.y.length+1) (dU L.es++fP e v))
 (c:w.grownBy w' (jm s L).v.ownBlock) (r:(Value.slice L.ea s.y.length L.ec).ownBlock=some g\/g=w.heap.size):
 bL w0 b (v.ownBlock.toList++f0) (w'.setCell ⟨b,9,none⟩ (.slice (some ⟨g,0,none⟩) (s.y.length+1) a)) (gS s e) (qA L e v g a):=by
 have D:fJ w (b+1) (bR (e,v)::eP s L):=by
  refine⟨λx hx=>?_,?_⟩
  .rcases mem_cons.1 hx with rfl|hx
   .exact p
   exact m.X.rows.own x hx
  unfold cZ;rw[fF];split
  .exact m.X.rows.nd
  rename_i j E;exact nodup_cons.2 ⟨λF=>q j E F,m.X.rows.nd⟩
 have t:fJ w (b+1) (jm s L::bR (e,v)::jo s L::gH s L::(L.es.map bR++L.gs.map jq)):=D.perm (pY _ _ _);have G:(jm (gS s e) (qA L e v g a)).owned w' (b+1):=by
  show World.ownsRow _ _ _ _ _ _ _;simp only[jm,qA,gS,bT,cT,fB,jV,dU,nB,mQ,Ay,aj1];exact hown
 have f:(jm (gS s e) (qA L e v g a)).v.ownBlock=(jm s L).v.ownBlock\/(jm (gS s e) (qA L e v g a)).v.ownBlock=some w.heap.size:=by
  obtain h|h:=r
  .exact .inl h.symm
  exact .inr (by rw[h];rfl)
 have i:=(t.grow G c f).perm (NS s L e v g a).symm;have u:some b≠(jm s L).v.ownBlock:=λh=>by
  have:=(m.X.rows.own (jm s L)<|by simp[eP]).lt b h.symm;omega
 have l:w'.heap[b]?=some (.cells (aR s L).toArray 111 (0,0)):=(c.block b m.X.lt u).trans m.X.blk;have y:=m.fr.size;refine⟨⟨?_,?_,?_,?_⟩,?_,m.gs⟩
 .have H:(aR s L).set 9 (.slice (some ⟨g,0,none⟩) (s.y.length+1) a)=aR (gS s e) (qA L e v g a):=by simp[aR,qA,gS]
  rw[<-H];simp[World.setCell,rE,l]
 .refine i.keep λk d=>kR _ _ _ _ ?_;have:=(i.lt k d).1;show k≠b;omega
 .simp[qA,gS,m.X.evs]
 .exact m.X.p_
 have hev:∀k,(jm s L).v.ownBlock=some k->k∈cO s L:=λk d=>mem_filterMap.2 ⟨jm s L,by simp[eP],d⟩;refine⟨c.os.trans m.fr.os,c.tape.trans m.fr.tape,c.output.trans m.fr.output,?_,λk d A B=>?_,λk d=>?_⟩
 .have:=c.size;simp[World.setCell];omega
 .rw[kR _ _ _ _<|by show k≠b;exact A];refine(c.block k (by omega) λh=>?_).trans (m.fr.block k d A λh=>B (nS _ h));obtain C|C:=m.fr.aY k (hev k h.symm)
  .exact B (nS _ C)
  omega
 have z:k∈cZ (jm (gS s e) (qA L e v g a)::bR (e,v)::jo s L::gH s L::(L.es.map bR++L.gs.map jq)):=nC (NS s L e v g a) k d;obtain⟨x,hx,o⟩:=mem_filterMap.1 z;have n:k∈cO s L->k∈v.ownBlock.toList++f0\/w0.heap.size<=k:=λh=>(m.fr.aY k h).imp (nS _) id;obtain rfl|hx:=mem_cons.1 hx
 .rcases f with h|h
  .exact n (hev k (h.symm.trans o))
  rw[o]at h;cases h;exact .inr y
 obtain rfl|hx:=mem_cons.1 hx
 .exact .inl (oP _ (by
   have:v.ownBlock=some k:=o
   simp[this]))
 exact n (mem_filterMap.2 ⟨x,by simp only[eP];exact iU _ hx,o⟩)
def qa(e:Ev)(v:Value):Obj:=.cells #[.int .i64 e.kind,.string ⟨e.B.toArray⟩,.string ⟨e.space.toArray⟩,.string ⟨e.val.toArray⟩,v] 65 (0,0)
def vN(h:bD w b s L)(d:Ev)(a:Option Addr)(n c:Nat)(l:(bR (d,.slice a n c)).owned w (b+1))(o:∀k,(Value.slice a n c).ownBlock=some k->k∉cO s L)(T:s.y.length<=1000000000):
 Calls prog 152 #[.pointer (some ⟨b,0,none⟩),.agg #[.int .i64 d.kind,.string ⟨d.B.toArray⟩,.string ⟨d.space.toArray⟩,.string ⟨d.val.toArray⟩,.slice a n c]] w λe w' =>e=.returned (.tuple #[])/\∃H,bL w b ((Value.slice a n c).ownBlock.toList++cO s L) w' (gS s d) H:=by
 have m:=((h.start.alloc (qa d (.slice a n c))).alloc (qa d (.slice a n c))).drew;have j:(bR (d,.slice a n c)).owned ((w.alloc (qa d (.slice a n c))).alloc (qa d (.slice a n c))).drew (b+1):=mo l λk I=>by
  have f:=(World.ownsRow.lt l k I).2;show((w.alloc (qa d (.slice a n c))).alloc (qa d (.slice a n c))).heap[k]?=_;rw[dG _ _ _<|by simp;omega,dG _ _ _ f]
 have D:=Y (m.X.rows.own (jm s L)<|by simp[eP])
 have E:=Y (show((w.alloc (qa d (.slice a n c))).alloc (qa d (.slice a n c))).drew.heap[w.heap.size+1]?=some (qa d (.slice a n c))from by
  have:=dI (w.alloc (qa d (.slice a n c))) (qa d (.slice a n c))
  rw[show(w.alloc (qa d (.slice a n c))).heap.size=w.heap.size+1 by simp]at this
  exact this)
 have v:=Y (show s.y.length+1<=maxLen by unfold maxLen;omega);have p:=Y (show b+1<=((w.alloc (qa d (.slice a n c))).alloc (qa d (.slice a n c))).drew.heap.size by have:=h.lt;simp;omega);have x:=Y m;have q:=Y j;have K:=Y o;have f:=h.lt;have N:∀t F i,((w.alloc t).alloc F).cell? ⟨b,i,none⟩=(aR s L)[i]?:=λt F i=>by
  rw[<-h.cell i];simp only[World.cell?];rw[dG _ _ _<|by simp;omega,dG _ _ _ f]
 have y:∀t i,(w.alloc t).cell? ⟨b,i,none⟩=(aR s L)[i]?:=λt i=>by
  rw[<-h.cell i];simp only[World.cell?];rw[dG _ _ _ f]
 obtain⟨O,P,z,A,B⟩:=lg yT;unfold aR at N y;clear h m l j o;unfold qa at D E p x q;go_enter func152,ntmps152;go_wp2;go_region_law (refine tC _ rfl (.tmp 8) (.tmp 10) 29 rfl (b+1) 65 O _ 5 80 underlying29 P z A B rfl (by decide) (.slice L.ea s.y.length L.ec) s.y.length (dU L.es) (by simp[Act.eval]) D.u ⟨w.heap.size+1,0,none⟩ 1 1 (fP d (.slice a n c)) (by simp[Act.eval]) rfl (jT E.u) (vD _ _ _ _) (by decide) v.u (by omega) p.u (w.heap.size+2) (by simp) ?_;intro g Q w2 hown hgrow C G;obtain⟨R,S⟩:=Hj (x.u.X.grown (r:=jm s L) hgrow<|by simp[eP]);unfold aR at R);all_goals
  go_wp2;go_end0
  exact⟨rfl,_,x.u.push d _ q.u K.u hown hgrow<|by simpa using C⟩
end
end V
open Mk
variable {hd:U}{k:Nat}{s:Z}{r:Mk.Rf}{b:Int}
def Hs(a:Int)(hd:U):Prop:=hd=[]\/(a=7/\(hd=[45]\/hd=[45,45]))\/(a=2/\(hd=[93]\/hd=[93,93]))\/(a=11/\hd=[63])
def Hs.len{a:Int}(h:Hs a hd):hd.length<=2:=by
 obtain rfl|⟨_,rfl|rfl⟩|⟨_,rfl|rfl⟩|⟨_,rfl⟩:=h<;>decide
def Hs.none{a:Int}(h:Hs a hd)(c:a≠7:=by omega)(d:a≠2:=by omega)(b:a≠11:=by omega):hd=[]:=by
 obtain h|⟨e,_⟩|⟨e,_⟩|⟨e,_⟩:=h
 .exact h
 .exact aj6 e c
 .exact aj6 e d
 exact aj6 e b
structure Inv(k:Nat)(s:Z):Prop where
 hx:s.F.length<=k
 ht:s.i.length<=k
 c0:0<=s.G
 c1:s.G<=k
 hl:s.C.length<=7*k
 ho:s.I.length<=k
 ha:s.f.length<=32
 hi:14<=s.H->s.H<=17->s.f.length<=31
 oA:s.oa<=32
 hb:s.m.length<=3*k+1
 hc:s.T.length<=k
 cb:∀c∈s.T,c<=32
 av:∀a∈s.f,a.val.length<=k
 an:∀a∈s.f,a.B.length<=k
 ax:s.attr.length<=k
 bv:∀p∈s.m,p.2.length<=k+36
 hs:Hs s.H s.D
 pt:Pt s.pc s.t
 rn:s.rn.length<=5
 r0:0<=s.rc
 r1:s.rc<=1114111
 m0:0<=s.aW
 m1:s.aW<=k+10
 am:s.am=false
 on:∀y∈s.I,y.length<=k
 hn:s.B.length<=k
 ev:∀e∈s.C,e.val.length<=k+36
 l0:0<=s.K
 l1:s.K<=k+1
 vG:0<=s.aN
 vH:s.aN<=k+1
def Inv.mono{c:Nat}(h:Inv k s)(b:k<=c):Inv c s where
 hx:=cL h.hx b
 ht:=cL h.ht b
 c0:=h.c0
 c1:=by have:=h.c1;omega
 hl:=by have:=h.hl;omega
 ho:=cL h.ho b
 ha:=h.ha
 hi:=h.hi
 oA:=h.oA
 hb:=by have:=h.hb;omega
 hc:=cL h.hc b
 cb:=h.cb
 av:=λa ha=>cL (h.av a ha) b
 an:=λa ha=>cL (h.an a ha) b
 ax:=cL h.ax b
 bv:=λp d=>by have:=h.bv p d;omega
 hs:=h.hs
 pt:=h.pt
 rn:=h.rn
 r0:=h.r0
 r1:=h.r1
 m0:=h.m0
 m1:=by have:=h.m1;omega
 am:=h.am
 on:=λy f=>cL (h.on y f) b
 hn:=cL h.hn b
 ev:=λe g=>by have:=h.ev e g;omega
 l0:=h.l0
 l1:=by have:=h.l1;omega
 vG:=h.vG
 vH:=by have:=h.vH;omega
def Inv.bd(h:Inv k s)(b:k<=90000000):Bd s where
 hx:=by have:=h.hx;omega
 ht:=by have:=h.ht;omega
 c0:=h.c0
 c1:=by have:=h.c1;omega
 hl:=by have:=h.hl;omega
 ho:=by have:=h.ho;omega
 ha:=h.ha
 hh:=h.hs.len
 pt:=h.pt
 rn:=h.rn
 r0:=h.r0
 r1:=h.r1
 m0:=h.m0
 m1:=by have:=h.m1;omega
 am:=h.am
 hb:=by have:=h.hb;omega
 hc:=by have:=h.hc;omega
 cb:=h.cb
 hn:=by have:=h.hn;omega
 an:=λa ha=>by have:=h.an a ha;omega
def tO(h:Inv k s)(c:Int):Inv (k+4) (bV s c):=by
 have a:=Gf s c;have e:=h.hx;have f:=h.ht;have g:=h.c0;have i:=h.c1;have d:=h.mono (show k<=k+4 by omega);unfold bV at a⊢;split
 .rename_i b;rw[J b]at a;exact{d with hx:=by show(s.F++dB c).length<=k+4;have:=a.1;simp only at this;omega}
 rename_i b;rw[M b]at a;exact{d with ht:=by show(s.i++dB c).length<=k+4;have:=a.2.1;simp only at this;omega,c0:=by omega,c1:=by show s.G+1<=((k+4:Nat):Int);omega}
def Na:∀(l:U) {k:Nat} {s:Z} (h:Inv k s),Inv (k+4*l.length) (dW s l)
 |[],k,s,h=>h
 |x::r,k,s,h=>(Na r (tO h x.toNat)).mono (by simp;omega)
def Nb(h:Inv k s)(p:Int×Int)(b:Pt p.1 p.2):Inv (k+4) (gD s p):=by
 unfold gD;have a:Inv k {s with pc:=p.1,t:=p.2}:={h with pt:=b};split
 .exact tO a _
 exact a.mono (by omega)
def vI(h:Inv k s)(x:Int)(a:0<=x)(b:x<=255):Inv (k+12) (cV s x).1:=by
 unfold cV;split
 .exact h.mono (by omega)
 rename_i p c;split
 .have d:=Na s.D h;have e:Inv (k+8) {dW s s.D with D:=[]}:={d.mono (by have:=h.hs.len;omega)with hs:=.inl rfl};exact Nb e p (Wo a b c)
 exact h.mono (by omega)
def yZ(h:Inv k s):Inv k (bH s):={h with ht:=by simp[bH],c0:=by simp[bH],c1:=by simp[bH]}
def Yq(s:Z)(e:Ev):(aX s e).C.length<=s.C.length+2/\(∀y∈(aX s e).C,y∈s.C\/y=e\/y=⟨3,[],[],s.F,[]⟩)/\(aX s e).F=[]\/((aX s e).C.length<=s.C.length+2/\(∀y∈(aX s e).C,y∈s.C\/y=e)/\(aX s e).F=s.F/\s.F.length=0):=by
 unfold aX bK;split
 .rename_i b;refine .inr ⟨by simp,λy a=>?_,rfl,b⟩;obtain a|a:=mem_append.1 a
  .exact .inl a
  simp at a;exact .inr a
 refine .inl ⟨by simp,λy a=>?_,rfl⟩;obtain a|a:=mem_append.1 a
 .rcases mem_append.1 a with a|a
  .exact .inl a
  simp at a;exact .inr (.inr a)
 simp at a;exact .inr (.inl a)
def DD(h:Inv k s)(l:List Ev)(x:U)(hl:l.length<=7*k)(hx:x.length<=k)(hev:∀e∈l,e.val.length<=k+36):Inv k {s with C:=l,F:=x}:={h with hx:=hx,hl:=hl,ev:=hev}
def y_(s:Z)(e:Ev)(m:Nat)(hx:s.F.length<=m)(hev:∀y∈s.C,y.val.length<=m)(f:e.val.length<=m):
 (aX s e).C.length<=s.C.length+2/\(∀y∈(aX s e).C,y.val.length<=m)/\(aX s e).F.length=0:=by
 obtain⟨a,b,c⟩|⟨a,b,c,g⟩:=Yq s e
 .refine⟨a,λy d=>?_,by rw[c];rfl⟩;obtain h|rfl|rfl:=b y d
  .exact hev y h
  .exact f
  exact hx
 refine⟨a,λy d=>?_,by rwa[c]⟩;obtain h|rfl:=b y d
 .exact hev y h
 exact f
def Nc(s:Z)(e:Ev)(h:s.F.length=0):(aX s e).C.length=s.C.length+1:=by
 rw[aX,bK,J h];simp
def Nf(h:Inv k s)(e:Ev)(hev:e.val.length<=k+36):Inv (k+2) (aX s e):=by
 obtain⟨c,a,d⟩:=y_ s e (k+36) (by have:=h.hx;omega) h.ev hev;rw[kI];exact DD (h.mono (show k<=k+2 by omega)) _ _ (by have:=h.hl;omega) (by omega) λy b=>by have:=a y b;omega
def GK(m:Nat):∀(l:List (U×U)) (s:Z),s.F.length<=m->(∀y∈s.C,y.val.length<=m)->(∀p∈l,p.2.length<=m)->
 (gJ s l).C.length<=s.C.length+l.length+1/\(∀y∈(gJ s l).C,y.val.length<=m)/\(gJ s l).F.length<=s.F.length/\(s.F.length=0->(gJ s l).C.length<=s.C.length+l.length)
 |[],s,hx,hev,_=>⟨by show s.C.length<=_;simp,hev,a_ _,λ_=>a_ _⟩
 |p::r,s,hx,hev,a=>by
  obtain⟨h,b,c⟩:=y_ s ⟨6,p.1,[],p.2,[]⟩ m hx hev (a p jU);obtain⟨i,d,j,e⟩:=GK m r (aX s ⟨6,p.1,[],p.2,[]⟩) (by omega) b λq f=>a q (iU _ f);have k:=e c;refine⟨?_,d,?_,λg=>?_⟩
  .show(gJ (aX s _) r).C.length<=_;simp only[cT];omega
  .show(gJ (aX s _) r).F.length<=_;omega
  have:=Nc s ⟨6,p.1,[],p.2,[]⟩ g;show(gJ (aX s _) r).C.length<=_;simp only[cT];omega
def Ng(m:Nat):∀(l:List (U×U)) (s:Z),s.F.length<=m->(∀y∈s.C,y.val.length<=m)->
 (iV s l).C.length<=s.C.length+l.length+1/\(∀y∈(iV s l).C,y.val.length<=m)/\(iV s l).F.length<=s.F.length/\(s.F.length=0->(iV s l).C.length<=s.C.length+l.length)
 |[],s,hx,hev=>⟨by show s.C.length<=_;simp,hev,a_ _,λ_=>a_ _⟩
 |p::r,s,hx,hev=>by
  obtain⟨f,a,b⟩:=y_ s ⟨7,p.1,[],[],[]⟩ m hx hev (by simp);obtain⟨g,c,h,d⟩:=Ng m r (aX s ⟨7,p.1,[],[],[]⟩) (by omega) a;have i:=d b;refine⟨?_,c,?_,λe=>?_⟩
  .show(iV (aX s _) r).C.length<=_;simp only[cT];omega
  .show(iV (aX s _) r).F.length<=_;omega
  have:=Nc s ⟨7,p.1,[],[],[]⟩ e;show(iV (aX s _) r).C.length<=_;simp only[cT];omega
def GL(h:∀c∈s.T,c<=32):(dZ s).length<=32:=by
 rw[dZ,Mk.oM,lm];split
 .omega
 rename_i c a;have:=h c (CV a);split<;>omega
def Bh(h:Inv k s)(hd:s.D=[]):Inv k (iy s):={h with hs:=.inl hd,hi:=λa _=>by exfalso;revert a;show ¬(14:Int)<=(if s.I.length=0 then 0 else 1);split<;>decide}
def Nh(s:Z)(e:Ev):(aX s e).D=s.D/\(aX s e).I=s.I/\(aX s e).B=s.B:=by unfold aX bK;split<;>exact⟨rfl,rfl,rfl⟩
def Ni(h:Inv k s):Inv (k+6) (bX s):=by
 have b:=GL h.cb;obtain⟨n,c,o,q⟩:=GK (k+36) (dZ s) s (by have:=h.hx;omega) h.ev λp d=>h.bv p (yL d);obtain⟨e,f,r⟩:=y_ (gK s) ⟨1,s.B,Mk.bQ s s.B,[],s.f⟩ (k+36) (by show(gJ s (dZ s)).F.length<=_;have:=h.hx;omega) c (by simp);have g:(aX (gK s) ⟨1,s.B,Mk.bQ s s.B,[],s.f⟩).C.length<=(gJ s (dZ s)).C.length+2:=e;have i:Inv (k+6) {s with C:=(aX (gK s) ⟨1,s.B,Mk.bQ s s.B,[],s.f⟩).C,F:=(aX (gK s) ⟨1,s.B,Mk.bQ s s.B,[],s.f⟩).F}:=
  DD (h.mono (show k<=k+6 by omega)) _ _ (by have:=h.hl;omega) (by omega) λy j=>by have:=f y j;omega
 have l:aX (gK s) ⟨1,s.B,Mk.bQ s s.B,[],s.f⟩={s with C:=(aX (gK s) ⟨1,s.B,Mk.bQ s s.B,[],s.f⟩).C,F:=(aX (gK s) ⟨1,s.B,Mk.bQ s s.B,[],s.f⟩).F}:=by
  have m:gK s={s with C:=(gK s).C,F:=(gK s).F}:=(Dr (dZ s) s);rw[(kI (gK s) ⟨1,s.B,Mk.bQ s s.B,[],s.f⟩),m]
 rw[bX,l];exact{i with ha:=by simp,hi:=λ_ _=>by simp,av:=(λa ha=>by cases ha),an:=(λa ha=>by cases ha)}
def Yr(h:Inv k s):Inv k (nO s):=
 {h with hb:=by have:=h.hb;show(s.m.take _).length<=_;rw[iB];omega,hc:=by have:=h.hc;show s.T.dropLast.length<=_;simp;omega,cb:=λc hc=>h.cb c (FO _ hc),bv:=λp a=>h.bv p (tG a)}
def Nj(h:Inv k s)(hd:s.D=[])(n:U):Inv (k+6) (bZ s n):=by
 have d:=GL h.cb;have e0:=kI s ⟨2,n,Mk.bQ s n,[],[]⟩;obtain⟨o,e,f⟩:=y_ s ⟨2,n,Mk.bQ s n,[],[]⟩ (k+36) (by have:=h.hx;omega) h.ev (by simp);have g:dZ (aX s ⟨2,n,Mk.bQ s n,[],[]⟩)=dZ s:=by rw[e0];rfl
 obtain⟨p,i,q,j⟩:=Ng (k+36) (dZ s).reverse (aX s ⟨2,n,Mk.bQ s n,[],[]⟩) (by omega) e;have l:=j f;rw[length_reverse]at l;have b:jb (aX s ⟨2,n,Mk.bQ s n,[],[]⟩)={s with C:=(jb (aX s ⟨2,n,Mk.bQ s n,[],[]⟩)).C,F:=(jb (aX s ⟨2,n,Mk.bQ s n,[],[]⟩)).F}:=by
  rw[jb,(yX (dZ (aX s ⟨2,n,Mk.bQ s n,[],[]⟩)).reverse (aX s ⟨2,n,Mk.bQ s n,[],[]⟩)),e0]
 have a:jb (aX s ⟨2,n,Mk.bQ s n,[],[]⟩)=iV (aX s ⟨2,n,Mk.bQ s n,[],[]⟩) (dZ s).reverse:=by rw[jb,g]
 have m:Inv (k+6) (jb (aX s ⟨2,n,Mk.bQ s n,[],[]⟩)):=by
  rw[b];refine DD (h.mono (show k<=k+6 by omega)) _ _ ?_ ?_ ?_
  .rw[a];have:=h.hl;omega
  .rw[a];omega
  intro y c;rw[a]at c;have:=i y c;omega
 unfold bZ;refine Bh (s:={nO (jb (aX s ⟨2,n,Mk.bQ s n,[],[]⟩))with over:=decide (s.I.length=0)}) {Yr m with} ?_;rwa[b]
def GM(m:Nat):∀(e:List aI) (b:List (U×U)) (c:Nat),(∀p∈b,p.2.length<=m)->(∀a∈e,a.val.length<=m)->∀p∈(iG e b c).1,p.2.length<=m
 |[],b,c,f,_=>f
 |a::r,b,c,f,g=>by
  unfold iG;split
  .exact GM m r b c f λx hx=>g x (iU _ hx)
  split
  .exact f
  refine GM m r _ _ (λp d=>?_) λx hx=>g x (iU _ hx);obtain d|d:=mem_append.1 d
  .exact f p d
  simp at d;subst d;exact g a jU
def Nk(h:Inv k s):Inv (k+11) (cG s).1:=by
 obtain⟨d,b⟩:=Bb s;have i:=Dt s.f s.m 0;have e:=GM (k+36) s.f s.m 0 h.bv λa f=>by have:=h.av a f;omega
 have j:=h.ha;rw[d];refine{h.mono (show k<=k+11 by omega)with hb:=?_,hc:=?_,cb:=?_,bv:=?_}
 .have:=h.hb;show(iG s.f s.m 0).1.length<=_;omega
 .show(cG s).1.T.length<=_;have:=h.hc;obtain b|b:=b<;>rw[b]<;>simp<;>omega
 .show ∀c∈(cG s).1.T,c<=32;intro c hc;obtain b|b:=b<;>rw[b]at hc
  .exact h.cb c hc
  obtain hc|hc:=mem_append.1 hc
  .exact h.cb c hc
  simp at hc;omega
 intro p g;have:=e p g;omega
def Yt(h:Inv k s):Inv (k+11) (Mk.dY s).1:=by
 obtain e|e:=Mw s<;>rw[e]
 .exact h.mono (by omega)
 exact Nk h
def Yu(s:Z):(cG s).1.D=s.D/\(cG s).1.I=s.I/\(cG s).1.B=s.B/\(cG s).1.H=s.H:=by
 rw[(Bb s).1];exact⟨rfl,rfl,rfl,rfl⟩
def Nl(h:Inv k s)(x:Int):Inv (k+4) (fS s x).1:=by
 unfold fS;split
 .exact tO h x
 exact h.mono (by omega)
def Yv(h:Inv k s)(hd:s.D=[])(x:Int):Inv (k+6) (gL s x):=by
 unfold gL;split
 .exact{(h.mono (show k<=k+6 by omega))with hs:=.inl hd,hi:=λ_ h=>by simp at h}
 have b:=Ni h;refine Bh (s:={bX s with I:=s.I++[s.B],B:=[]}) {b with ho:=?_,on:=?_,hn:=by simp} ?_
 .have:=h.ho;simp;omega
 .intro y a;obtain a|a:=mem_append.1 a
  .have:=h.on y a;omega
  simp at a;subst a;have:=h.hn;omega
 show(bX s).D=[];rwa[(oW s)]
def GN(h:Inv k s)(hd:s.D=[])(x:Int):Inv (k+12) (dR s x).1:=by
 have g:=h.mono (show k<=k+12 by omega);unfold dR;split
 .exact{g with hs:=.inl hd,hi:=by simp}
 split
 .unfold Mk.ia;split
  .split
   .exact(Yt h).mono (by omega)
   rename_i l t;obtain⟨u,i⟩:=Gq t;have j:=Nk h;obtain⟨m,n,v,o⟩:=Yu s;have q:=Gp (cG s).1.m k s.f [] l i;have L:=h.ha;simp only[fB,jV]at q;rw[u];have f:Inv (k+11) {(cG s).1 with f:=l}:=by
    refine{j with ha:=?_,hi:=?_,av:=?_,an:=?_}
    .show l.length<=32;omega
    .intro a b;show l.length<=31;have w:(14:Int)<=s.H:=by rwa[<-o]
     have z:s.H<=17:=by rwa[<-o]
     have:=h.hi w z;omega
    .intro a ha;have:=(q.2 (λa ha=>by cases ha) h.av) a ha;omega
    intro a ha;have:=((Du (cG s).1.m k s.f [] l i).2 (λa ha=>by cases ha) h.an) a ha;omega
   unfold gL;split
   .exact{f.mono (show k+11<=k+12 by omega)with hs:=.inl<|by show(cG s).1.D=[];rwa[m],hi:=λ_ h=>by simp at h}
   have c:(cG s).1.C=s.C/\(cG s).1.F=s.F:=by rw[(Bb s).1];exact⟨rfl,rfl⟩
   have r:=oW {(cG s).1 with f:=l};have A:=GL (s:={(cG s).1 with f:=l}) j.cb;obtain⟨N,B,O,P⟩:=GK (k+47) (dZ {(cG s).1 with f:=l}) {(cG s).1 with f:=l} (by show(cG s).1.F.length<=_;rw[c.2];have:=h.hx;omega) (λy d=>by have:=f.ev y d;omega) λp C=>by have:=f.bv p (yL C);omega
   obtain⟨D,E,F⟩:=y_ (gK {(cG s).1 with f:=l}) ⟨1,(cG s).1.B,Mk.bQ {(cG s).1 with f:=l} (cG s).1.B,[],l⟩ (k+47) (by show(gJ _ _).F.length<=_;have:({(cG s).1 with f:=l}:Z).F.length<=k:=(by show(cG s).1.F.length<=k;rw[c.2];exact h.hx);omega) B (by simp);have G:(bX {(cG s).1 with f:=l}).C.length<=(gJ {(cG s).1 with f:=l} (dZ {(cG s).1 with f:=l})).C.length+2:=D;have H:(gJ {(cG s).1 with f:=l} (dZ {(cG s).1 with f:=l})).C.length<=s.C.length+33:=by
    have:({(cG s).1 with f:=l}:Z).C.length=s.C.length:=by show(cG s).1.C.length=_;rw[c.1]
    omega
   have I:Inv (k+12) (bX {(cG s).1 with f:=l}):=by
    rw[r];refine{DD (f.mono (show k+11<=k+12 by omega)) (bX {(cG s).1 with f:=l}).C (bX {(cG s).1 with f:=l}).F ?_ ?_ ?_ with ha:=by simp,hi:=λ_ _=>by simp,av:=(λa ha=>by cases ha),an:=(λa ha=>by cases ha)}
    .have:=h.hl;omega
    .have K:(bX {(cG s).1 with f:=l}).F.length=0:=F;omega
    intro y d;have:=E y d;omega
   refine Bh (s:={bX {(cG s).1 with f:=l}with I:=(cG s).1.I++[(cG s).1.B],B:=[]}) {I with ho:=?_,on:=?_,hn:=by simp} ?_
   .have:=h.ho;show((cG s).1.I++[(cG s).1.B]).length<=_;rw[n];simp;omega
   .intro y d;have e:y∈(cG s).1.I++[(cG s).1.B]:=d;rw[n,v]at e;obtain d|d:=mem_append.1 e
    .have:=h.on y d;omega
    simp at d;subst d;have:=h.hn;omega
   show(bX {(cG s).1 with f:=l}).D=[];rw[r];rwa[m]
  exact(Yv h hd x).mono (by omega)
 exact g
def GQ{x:Int}(i:0<=x)(j:0<=s.rc)(h:dJ ⟨s.rp,s.rn,s.rc⟩ x=some r):0<=r.code/\r.code<=1114111/\r.B.length<=5:=by
 have b:∀a place r,(a=10\/a=16)->iN s.rc x a place=some r->0<=r.code/\r.code<=1114111/\r.B.length<=5:=by
  intro a place r d h;unfold iN at h;split at h
  .cases h
  rename_i v k;split at h
  .cases h
  cases h;have:=Dm i (by omega) k;have e:0<=s.rc*a:=Int.mul_nonneg j (by omega);simp;omega
 have f:∀a place r,(a=10\/a=16)->jl s.rc x a place=some r->0<=r.code/\r.code<=1114111/\r.B.length<=5:=by
  intro a place r d h;unfold jl at h;split at h
  .split at h
   .rename_i m;cases h;have:=LZ m;simp;omega
   cases h
  exact b a place r d h
 have n:∀l r,(∀q∈l,0<=q.2/\q.2<=1114111/\q.1.length<=5)->jI (s.rn++[Mk.u8 x]) l=some r->0<=r.code/\r.code<=1114111/\r.B.length<=5:=by
  intro l;induction l with
  |nil=>intro r _ h;cases h
  |cons q l ih=>
   intro r g h;obtain⟨o,p⟩:=q;have e:=g (o,p) jU;unfold jI at h;split at h
   .cases h;simp;omega
   split at h
   .rename_i hpre;cases h;have:=(isPrefixOf_iff_prefix.1 hpre).length_le;simp only;exact⟨by decide,by decide,cL this e.2.2⟩
   exact ih r (λq c=>g q (iU _ c)) h
 have t:∀r,pP s.rn x=some r->0<=r.code/\r.code<=1114111/\r.B.length<=5:=λr h=>n _ r (by decide) h;unfold dJ at h;repeat' split at h
 all_goals first
  |(cases h;done)
  |(cases h;simp;done)
  |exact t r h
  |exact b _ _ r (.inl rfl) h
  |exact b _ _ r (.inr rfl) h
  |exact f _ _ r (.inl rfl) h
  |exact f _ _ r (.inr rfl) h
def GR(h:Inv k s)(r:Mk.Rf)(a:0<=r.code/\r.code<=1114111/\r.B.length<=5):Inv k (kZ s r):={h with rn:=a.2.2,r0:=a.1,r1:=a.2.1}
section
variable {k:Nat}{s:Z}
def Np(h:Inv k s):Inv (k+4) (kG s):=by
 unfold kG;have a:Inv k (bH {s with D:=[]}):=yZ {h with hs:=.inl rfl};exact Bh (s:={aX (bH {s with D:=[]}) ⟨5,s.B,[],s.i,[]⟩with B:=[]}) {(Nf a ⟨5,s.B,[],s.i,[]⟩<|by have:=h.ht;show s.i.length<=k+36;omega).mono (show k+2<=k+4 by omega)with hn:=by simp} ((Nh (bH {s with D:=[]}) ⟨5,s.B,[],s.i,[]⟩).1.trans rfl)
def Yw(h:Inv k s):Inv (k+4) (mS s):=by
 unfold mS;have a:Inv k (bH {s with D:=[]}):=yZ {h with hs:=.inl rfl};exact Bh ((Nf a ⟨4,[],[],s.i,[]⟩<|by have:=h.ht;show s.i.length<=k+36;omega).mono (by omega)) ((Nh (bH {s with D:=[]}) ⟨4,[],[],s.i,[]⟩).1.trans rfl)
def Yx(h:Inv k s)(x:Int)(a:0<s.t):Inv (k+12) (fT s x).1:=by
 unfold fT;split
 .exact h.mono (by omega)
 rename_i p b;exact(Nb h p (L_ h.pt a b)).mono (by omega)
def Yy(h:Inv k s)(x:Int)(b:0<=x):Inv (k+12) (fD s x).1:=by
 unfold fD;split
 .exact h.mono (by omega)
 rename_i r c;have a:=GR h r (GQ b h.r0 c);split
 .exact a.mono (by omega)
 exact(tO a _).mono (by omega)
def Yz(h:Inv k s)(x:Int)(b:0<=x)(c:x<=255)(a:s.H=7):Inv (k+12) (fu s x).1:=by
 unfold fu;split
 .exact(Yw h).mono (by omega)
 split
 .exact h.mono (by omega)
 split
 .rename_i f d g;refine{h.mono (show k<=k+12 by omega)with hs:=?_};obtain e|⟨_,e|e⟩|⟨e,_⟩|⟨e,_⟩:=h.hs
  .rw[e];exact .inr (.inl ⟨a,.inl rfl⟩)
  .rw[e];exact .inr (.inl ⟨a,.inr rfl⟩)
  .exact aj6 e d
  .omega
  omega
 exact vI h x b c
def YA(h:Inv k s)(x:Int)(b:0<=x)(c:x<=255)(a:s.H=2):Inv (k+12) (fH s x).1:=by
 unfold fH;split
 .exact{h.mono (show k<=k+12 by omega)with hs:=.inl rfl,hi:=by simp}
 split
 .exact(tO h _).mono (by omega)
 split
 .rename_i g d f;refine{h.mono (show k<=k+12 by omega)with hs:=?_};obtain e|⟨e,_⟩|⟨_,e|e⟩|⟨e,_⟩:=h.hs
  .rw[e];exact .inr (.inr (.inl ⟨a,.inl rfl⟩))
  .omega
  .rw[e];exact .inr (.inr (.inl ⟨a,.inr rfl⟩))
  .exact aj6 ⟨f,e⟩ d
  omega
 exact vI h x b c
def Nq(h:Inv k s)(x:Int)(b:0<=x)(c:x<=255)(a:s.H=11):Inv (k+12) (dN s x).1:=by
 unfold dN;split
 .exact(Np h).mono (by omega)
 split
 .split
  .exact(tO h _).mono (by omega)
  exact h.mono (by omega)
 split
 .exact{h.mono (show k<=k+12 by omega)with hs:=.inr (.inr (.inr ⟨a,rfl⟩))}
 exact vI h x b c
def YB(h:Inv k s)(hd:s.D=[])(x:Int)(a:0<=x)(b:x<=255):Inv (k+12) (fw s x).1:=by
 have c:=h.mono (show k<=k+12 by omega);unfold fw;split
 .exact{c with hs:=.inl hd,hi:=by simp}
 split
 .exact GR (s:={s with bG:=0}) {c with} _ (by simp)
 split
 .split
  .exact{c with}
  exact vI (s:={s with bG:=0}) {h with} x a b
 split
 .exact vI (s:={s with bG:=if s.bG==0 then 1 else 2}) {h with} x a b
 exact vI (s:={s with bG:=0}) {h with} x a b
def YC(h:Inv k s)(hd:s.D=[])(x:Int):Inv (k+12) (h_ s x).1:=by
 have a:=h.mono (show k<=k+12 by omega);unfold h_;repeat' split
 all_goals first|exact a|exact{a with hs:=.inl hd,hi:=by simp}
def YD(h:Inv k s)(d:s.H=17)(hd:s.D=[])(x:Int)(e:0<=x)(f:x<=255):Inv (k+12) (fA s x).1:=by
 have c:=h.mono (show k<=k+12 by omega);unfold fA;split
 .unfold Mk.yA
  exact{(yZ c)with ha:=(by have:=h.hi (by omega) (by omega);show(s.f++[_]).length<=32;simp;omega),hi:=by simp,hs:=.inl hd,av:=(by
   intro a ha
   have b:a∈s.f++[⟨s.attr,[],s.i⟩]:=ha
   obtain ha|ha:=mem_append.1 b
   .have:=h.av a ha;omega
   .simp at ha;subst ha;have:=h.ht;show s.i.length<=k+12;omega),an:=(by
   intro a ha
   have b:a∈s.f++[⟨s.attr,[],s.i⟩]:=ha
   obtain ha|ha:=mem_append.1 b
   .have:=h.an a ha;omega
   simp at ha;subst ha;have:=h.ax;show s.attr.length<=k+12;omega),ax:=by simp}
 split
 .exact c
 split
 .split
  .exact GR c _ (by simp)
  exact c
 split
 .exact vI h 32 (by decide) (by decide)
 exact vI h x e f
def YE(h:Inv k s)(hd:s.D=[])(x:Int):Inv (k+12) (eG s x).1:=by
 have a:=h.mono (show k<=k+12 by omega);unfold eG;split
 .exact{a with hs:=.inl hd,hi:=by simp}
 split
 .exact{a with hs:=.inl hd,hi:=by simp}
 split
 .exact{a with hs:=.inl hd,hi:=by simp,m0:=by simp,m1:=by simp;omega}
 split
 .unfold Mk.mg;split
  .exact a
  exact(tO (s:={s with H:=12}) {h with hs:=.inl hd,hi:=by simp} x).mono (by omega)
 exact a
def YF(h:Inv k s)(hd:s.D=[])(x:Int):Inv (k+12) (gF s x).1:=by
 have a:=h.mono (show k<=k+12 by omega);unfold gF;split
 .exact{a with hs:=.inl hd,hi:=by simp}
 split
 .exact{a with hs:=.inl hd,hi:=by simp,m0:=by simp,m1:=by simp;omega}
 exact a
def YG(h:Inv k s)(hd:s.D=[])(x:Int):Inv (k+12) (iO s x).1:=by
 have a:=h.mono (show k<=k+12 by omega);unfold iO;split
 .exact{a with hs:=.inl hd,hi:=by simp}
 exact a
def YH(h:Inv k s)(hd:s.D=[])(x:Int):Inv (k+12) (dQ s x).1:=by
 have a:=h.mono (show k<=k+12 by omega);have m0:=h.m0;have m1:=h.m1;unfold dQ;split
 .exact a
 split
 .exact{a with hs:=.inl hd,hi:=by simp,m0:=by simp;omega,m1:=by simp;omega}
 exact{a with m0:=by simp;omega,m1:=by simp;omega}
def YI(h:Inv k s)(hd:s.D=[])(x:Int):Inv (k+12) (cN s x).1:=by
 have a:=h.mono (show k<=k+12 by omega);unfold cN;split
 .exact a
 split
 .exact(Nl h x).mono (by omega)
 split
 .exact a
 split
 .exact a
 exact{yZ a with hs:=.inl hd,hn:=a.ht,hi:=λb _=>by exfalso;revert b;show ¬(14:Int)<=(if(x==63)=true then 9 else 10);split<;>decide}
def YJ(h:Inv k s)(hd:s.D=[])(x:Int)(a:0<=x)(b:x<=255):Inv (k+12) (jK s x).1:=by
 unfold jK;split
 .exact h.mono (by omega)
 exact Nq (s:={s with H:=11}) {h with hs:=.inl hd,hi:=by simp} x a b rfl
def YK(h:Inv k s)(x:Int):Inv (k+12) (jD s x).1:=by
 unfold jD;split
 .exact(Np h).mono (by omega)
 exact h.mono (by omega)
def Nr(h:Inv k s)(hd:s.D=[])(x:Int):Inv (k+12) (gh s x).1:=by
 have a:=h.mono (show k<=k+12 by omega);unfold gh;split
 .exact{a with hs:=.inl hd,hi:=by simp}
 split
 .unfold Mk.kH;have b:Inv k {s with I:=s.I.dropLast}:={h with ho:=by have:=h.ho;simp;omega,on:=λy c=>h.on y (FO _ c)};exact(Nj b hd _).mono (by omega)
 exact a
def Ns(h:Inv k s):(bP s).length<=k:=by
 unfold bP;by_cases a:s.I=[]
 .simp[a]
 rw[uw,rG a];exact h.on _ (getLast_mem a)
def YL(h:Inv k s)(hd:s.D=[])(x:Int):Inv (k+12) (iC s x).1:=by
 have a:=h.mono (show k<=k+12 by omega);have b:=Ns h;have m0:=h.m0;unfold iC;split
 .split
  .exact a
  exact{a with m0:=by simp;omega,m1:=by simp;omega}
 split
 .exact a
 exact Nr h hd x
def Nu(h:Inv k s)(a:14<=s.H)(b:s.H<=17)(hd:s.D=[])(x:Int):Inv k (fI s x).1:=by
 unfold fI;repeat' split
 all_goals first|exact h|exact{h with hs:=.inl hd,hi:=λ_ _=>h.hi a b}
def YM(h:Inv k s)(hd:s.D=[])(x:Int):Inv (k+12) (dV s x).1:=by
 have b:=h.mono (show k<=k+12 by omega);unfold dV;split
 .unfold Mk.iP;split
  .exact(Nl h x).mono (by omega)
  exact GN (s:={bH s with B:=s.i}) {yZ h with hn:=h.ht} hd x
 split
 .unfold Mk.gV;split
  .exact GN h hd x
  split
  .exact b
  rename_i d;exact(tO (s:={s with H:=14}) {h with hs:=.inl hd,hi:=λ_ _=>by have:=h.oA;show s.f.length<=31;omega} x).mono (by omega)
 split
 .rename_i a;have a:s.H=14:=by simpa using a
  unfold Mk.fU;split
  .unfold Mk.mh;split
   .split
    .exact(tO h x).mono (by omega)
    exact(tO h x).mono (by omega)
   exact b
  split
  .exact b
  split
  .exact b
  exact Nu (s:={bH s with attr:=s.i}) {yZ b with ax:=b.ht} (by show(14:Int)<=s.H;omega) (by show s.H<=17;omega) hd x
 split
 .rename_i a;have a:s.H=15:=by simpa using a
  exact Nu b (by omega) (by omega) hd x
 split
 .rename_i a;have a:s.H=16:=by simpa using a
  unfold Mk.gW;split
  .exact b
  split
  .exact{b with hs:=.inl hd,hi:=λ_ _=>h.hi (by omega) (by omega)}
  exact b
 split
 .exact GN h hd x
 unfold Mk.jL;split
 .exact b
 have e:=Ni h;have f:=Nj e (by rwa[(oW s)]) s.B;have c:=f.mono (show k+6+6<=k+12 by omega);generalize bZ (bX s) s.B=z at c⊢;exact{c with hn:=by simp}
def YN(h:Inv k s)(hd:s.D=[])(x:Int)(a:0<=x)(b:x<=255):Inv (k+12) (bU s x).1:=by
 unfold bU;repeat' split
 all_goals first
  |exact YE h hd x
  |exact YF h hd x
  |exact YG h hd x
  |exact YH h hd x
  |exact YI h hd x
  |exact YK h x
  |exact YJ h hd x a b
  |exact YL h hd x
  |exact Nr h hd x
  |exact YM h hd x
def GU(h:Inv k s)(x:Int)(b:0<=x)(c:x<=255):Inv (k+12) (aP s x).1:=by
 unfold aP;split
 .exact Yx h x (by assumption)
 split
 .exact Yy h x b
 split
 .rename_i a;have a:s.H=0:=by simpa using a
  exact YC h (h.hs.none) x
 split
 .rename_i a;have a:s.H=1:=by simpa using a
  exact YB h (h.hs.none) x b c
 split
 .rename_i a;have a:s.H=2:=by simpa using a
  exact YA h x b c a
 split
 .rename_i a;have a:s.H=7:=by simpa using a
  exact Yz h x b c a
 split
 .rename_i a;have a:s.H=11:=by simpa using a
  exact Nq h x b c a
 split
 .rename_i a;have a:s.H=17:=by simpa using a
  exact YD h a (h.hs.none) x b c
 rename_i f g i j d e;simp at f g i j d e;exact YN h (h.hs.none) x b c
def Nv(h:Inv k s)(x:Int)(b:0<=x)(c:x<=255):Inv (k+12) (eY s x).1:=by
 unfold eY;have a:=GU h x b c;have d:=MY s x;have e:=MZ s x;have f:=h.l0;have g:=h.l1;have i:=h.vG;have j:=h.vH;split
 .unfold Mk.gX;split
  .exact{a with l0:=by show 0<=(aP s x).1.K+1;omega,l1:=by show(aP s x).1.K+1<=((k+12:Nat):Int)+1;omega,vG:=by show(0:Int)<=1;decide,vH:=by show(1:Int)<=((k+12:Nat):Int)+1;omega}
  split
  .exact{a with vG:=by show 0<=(aP s x).1.aN+1;omega,vH:=by show(aP s x).1.aN+1<=((k+12:Nat):Int)+1;omega}
  exact a
 exact a
def YO(h:Inv k s)(x:Int)(a:0<=x)(b:x<=255):Inv (k+12) (kE s x).1:=by
 unfold kE;split
 .exact{h.mono (show k<=k+12 by omega)with}
 split
 .exact Nv (s:={s with O:=true}) {h with} 10 (by decide) (by decide)
 exact Nv (s:={s with O:=false}) {h with} x a b
end
def oH(c l:Int):Prop:=(l=1/\2<=c/\(c<864\/895<c)/\c<=17407)\/(l=2/\0<=c/\c<=271)\/(l=3/\0<=c/\c<=4)
def zG:List U:=[[108],[108,116],[103],[103,116],[97],[97,109],[97,109,112],[113],[113,117],[113,117,111],[113,117,111,116],[97,112],[97,112,111],[97,112,111,115]]
def vY(p:Int)(n:U)(c:Int):Prop:=
 (p=1/\n=[])\/(p=2/\n∈zG)\/((p=3\/p=4)/\c=0)\/((p=5\/p=6)/\0<=c/\c<=1114111)
def qV(t:Int)(n:U):Prop:=(∀x∈n,eD (x.toNat:Int)=true)/\(n.length:Int)<=t
structure W(s:Z):Prop where
 st:0<=s.H/\s.H<=21
 o0:s.H=0->s.I=[]
 o1:(s.H=1\/s.H=2\/s.H=6\/s.H=20\/s.H=21)->s.I≠[]
 ov:s.over=true->s.I=[]/\¬(12<=s.H/\s.H<=19)
 p0:0<=s.t
 t:0<s.t->(s.H=1\/s.H=2\/s.H=7\/s.H=11\/s.H=17)/\s.D=[]/\oH s.pc s.t/\aZ s.rp=false
 rf:aZ s.rp=true->(s.H=1\/s.H=17)/\vY s.rp s.rn s.rc
 hs:Hs s.H s.D
 m6:s.H=6->0<=s.aW/\s.aW<6
 rQ:s.H=20->0<=s.aW/\s.aW<=(bP s).length
 tk:s.H≠7->s.H≠8->s.H≠11->s.H≠12->s.H≠14->s.H≠17->s.i=[]/\s.G=0
 c8:(s.H=8\/s.H=12\/s.H=14)->s.G=s.i.length
 lN:s.H=14->(Mk.gM s s.i=true->s.G+1<=s.S)/\s.f.length<s.oa
 uS:s.H=17->s.aj2=34\/s.aj2=39
 bd:1<=s.od/\8<=s.S/\s.oa<=32
 jv:¬(13<=s.H/\s.H<=19)->s.f=[]
 xP:∀n∈s.I,qV s.S n
 mZ:s.H=12->qV s.S s.i
 qd:13<=s.H->s.H<=19->qV s.S s.B
 dp:(s.I.length:Int)<=s.od
 pJ:12<=s.H->s.H<=19->(s.I.length:Int)<s.od
 q0:0<=s.aj2/\s.aj2<=255
def W.zzt(h:W s)(a:s.H≠7:=by omega)(b:s.H≠8:=by omega)(c:s.H≠11:=by omega)(d:s.H≠12:=by omega)(e:s.H≠14:=by omega)(f:s.H≠17:=by omega):s.i=[]/\s.G=0:=h.tk a b c d e f
def sN(s:Z)(n:U):bZ s n={s with C:=(bZ s n).C,F:=(bZ s n).F,m:=(bZ s n).m,T:=(bZ s n).T,over:=decide (s.I.length=0),H:=if s.I.length=0 then 0 else 1}:=by
 unfold bZ jb iy;rw[(yX (dZ (aX s ⟨2,n,Mk.bQ s n,[],[]⟩)).reverse (aX s ⟨2,n,Mk.bQ s n,[],[]⟩)),(kI s ⟨2,n,Mk.bQ s n,[],[]⟩)];rfl
def sO(b:Int)(h:b<128):dB b=[Mk.u8 b]:=by rw[dB,Mk.jf,J h];rfl
def Jj(h:bI s=true)(c:Int):bV s c={s with F:=s.F++dB c}:=by rw[bV,J h]
def pK(h:bI s=false)(c:Int):bV s c={s with i:=s.i++dB c,G:=s.G+1}:=by rw[bV,h];rfl
def zH(s:Z)(c:Int):∃x t n,bV s c={s with F:=x,i:=t,G:=n}/\((s.H=1\/s.H=2)->t=s.i/\n=s.G):=by
 cases h:bI s
 .refine⟨s.F,_,_,pK h c,λa=>?_⟩;exfalso;unfold bI at h;obtain a|a:=a<;>simp[a]at h
 exact⟨_,s.i,s.G,Jj h c,λ_=>⟨rfl,rfl⟩⟩
def Jk:∀(l:U) (s:Z),∃x t n,dW s l={s with F:=x,i:=t,G:=n}/\((s.H=1\/s.H=2)->t=s.i/\n=s.G)
 |[],s=>⟨s.F,s.i,s.G,rfl,λ_=>⟨rfl,rfl⟩⟩
 |y::r,s=>by
  obtain⟨x,t,n,a,b⟩:=zH s y.toNat;obtain⟨d,e,f,g,h⟩:=Jk r (bV s y.toNat);refine⟨d,e,f,?_,λc=>?_⟩
  .show dW (bV s y.toNat) r=_;rw[g,a]
  have:=h (by rwa[a]);rw[a]at this;exact⟨this.1.trans (b c).1,this.2.trans (b c).2⟩
def Qu(h:W {s with t:=0,pc:=0})(e:s.H=1\/s.H=2\/s.H=7\/s.H=11\/s.H=17)(f:s.D=[])(l:aZ s.rp=false)(p:Int×Int)(c:p.2=0\/oH p.1 p.2):W (gD s p):=by
 have a:=h;unfold gD;split
 .rename_i b;have b:p.2=0:=by simpa using b
  obtain⟨x,t,n,d,m⟩:=zH {s with pc:=p.1,t:=p.2} p.1;rw[d]
  exact{h with
   p0:=by show 0<=p.2;omega
   t:=λf=>by exfalso;have:0<p.2:=f;omega
   tk:=λi o j r u k=>by
    have v:s.H=1\/s.H=2:=by have w:s.H≠7:=i;have y:s.H≠11:=j;have z:s.H≠17:=k;omega
    have:=m v
    have q:=h.tk i o j r u k
    exact⟨this.1.trans q.1,this.2.trans q.2⟩
   c8:=λg=>by exfalso;have g:s.H=8\/s.H=12\/s.H=14:=g;omega
   lN:=λg=>by exfalso;have g:s.H=14:=g;omega
   mZ:=λg=>by exfalso;have g:s.H=12:=g;omega}
 rename_i b;have b:p.2≠0:=by simpa using b
 have d:oH p.1 p.2:=by obtain c|c:=c;exact aj6 c b;exact c
 exact{h with
  p0:=by show 0<=p.2;unfold oH at d;omega
  t:=λ_=>⟨e,f,d,l⟩}
def acA{p:Int×Int}(a:0<=b)(h:eF b=some p):p.2=0\/oH p.1 p.2:=by
 unfold eF at h;unfold oH;split at h
 .cases h;exact .inl rfl
 split at h
 .cases h;exact .inr (.inl ⟨rfl,by dsimp only;omega⟩)
 split at h
 .cases h;exact .inr (.inr (.inl ⟨rfl,by dsimp only;omega⟩))
 split at h
 .cases h;exact .inr (.inr (.inr ⟨rfl,by dsimp only;omega⟩))
 cases h
def Qv{c l:Int}{p:Int×Int}(a:oH c l)(h:eO c l b=some p):p.2=0\/oH p.1 p.2:=by
 unfold eO at h;split at h
 .cases h
 split at h
 .rename_i e d;cases h;unfold Mk.gU at d;unfold oH at a⊢;obtain⟨rfl,a⟩|⟨rfl,a⟩|⟨rfl,a⟩:=a
  .exact .inl rfl
  .simp at d;refine .inr (.inl ⟨by omega,by dsimp only;omega⟩)
  simp at d;refine .inr (.inr (.inl ⟨by omega,by dsimp only;omega⟩))
 cases h
def vZ(h:W s)(c:s.H=1\/s.H=2\/s.H=7\/s.H=11\/s.H=17)(i:aZ s.rp=false)(b:Int)(j:0<=b)(a:(cV s b).2=0):W (cV s b).1:=by
 unfold cV at a⊢;split at a
 .simp at a
 rename_i p k;split at a
 .rename_i l;rw[J l];obtain⟨x,t,n,m,o⟩:=Jk s.D s;rw[m];refine Qu (s:={s with F:=x,i:=t,G:=n,D:=[]}) ?_ c rfl i p (acA j k)
  exact{h with
   p0:=vq _
   t:=λg=>aj6 (show(0:Int)<0 from g) (by decide)
   hs:=.inl rfl
   tk:=λd r e u v f=>by
    have w:s.H=1\/s.H=2:=by have y:s.H≠7:=d;have z:s.H≠11:=e;have A:s.H≠17:=f;omega
    have:=o w
    have q:=h.tk d r e u v f
    exact⟨this.1.trans q.1,this.2.trans q.2⟩
   c8:=λg=>by exfalso;have g:s.H=8\/s.H=12\/s.H=14:=g;omega
   lN:=λg=>by exfalso;have g:s.H=14:=g;omega
   mZ:=λg=>by exfalso;have g:s.H=12:=g;omega}
 simp at a
def acB(h:W s)(c:0<s.t)(b:Int)(a:(fT s b).2=0):W (fT s b).1:=by
 obtain⟨d,e,f,i⟩:=h.t c;unfold fT at a⊢;split at a
 .simp at a
 rename_i p j;refine Qu ?_ d e i p (Qv f j);exact{h with p0:=vq _,t:=λg=>aj6 (show(0:Int)<0 from g) (by decide)}
def Qw{n:U}(v:n=[]\/n∈zG)(h:pP n b=some r)(g:aZ r.place=true):vY r.place r.B r.code:=by
 unfold pP at h;have i:∀(l:List (U×Int)) (m:U),(∀q∈l,m.isPrefixOf q.1=true->m≠q.1->m≠[]->m∈zG)->m≠[]->∀r,jI m l=some r->aZ r.place=true->vY r.place r.B r.code:=by
  intro l m;induction l with
  |nil=>intro _ _ r h;cases h
  |cons q t ih=>
   intro a o r h g;obtain⟨w,x⟩:=q;unfold jI at h;split at h
   .cases h;exact aj6 (show aZ 7=true from g) (by decide)
   split at h
   .rename_i c p;cases h;exact .inr (.inl ⟨rfl,a _ jU p (λe=>c e.symm) o⟩)
   exact ih (λq j=>a q (iU _ j)) o r h g
 refine i _ _ ?_ (by simp) r h g;intro q a hpre u s;have d:∀q∈fG,∀k<6,q.1.take k≠q.1->q.1.take k≠[]->q.1.take k∈zG:=by decide
 have f:∀q∈fG,q.1.length<6:=by decide
 have c:=prefix_iff_eq_take.1 (isPrefixOf_iff_prefix.1 hpre);have p:=(isPrefixOf_iff_prefix.1 hpre).length_le;have y:=f q a;rw[c];exact d q a _ (by omega) (by rwa[<-c]) (by rwa[<-c])
def acC{p:Int}{n:U}{c:Int}(s:0<=b)(m:vY p n c)(h:dJ ⟨p,n,c⟩ b=some r)(i:aZ r.place=true):vY r.place r.B r.code:=by
 have l:∀(a v:Int),0<a->nN b a=some v->0<=v:=by
  intro a v k hd;unfold nN at hd;split at hd
  .cases hd
  cases hd;unfold Mk.Ap tj;repeat' split
  all_goals simp_all
  all_goals omega
 have d:∀(a e:Int),(e=5\/e=6)->0<a->0<=c->∀r,iN c b a e=some r->vY r.place r.B r.code:=by
  intro a e g k j r h;unfold iN at h;split at h
  .cases h
  rename_i v o;split at h
  .cases h
  cases h;have:=l a v k o;have t:0<=c*a:=Int.mul_nonneg j (by omega);exact .inr (.inr (.inr ⟨g,by dsimp only;omega,by dsimp only;omega⟩))
 have f:∀(a e:Int),(e=5\/e=6)->0<a->0<=c->∀r,jl c b a e=some r->aZ r.place=true->vY r.place r.B r.code:=by
  intro a e g k j r h i;unfold jl at h;split at h
  .split at h
   .cases h;exact aj6 (show aZ 7=true from i) (by decide)
   cases h
  exact d a e g k j r h
 unfold dJ at h;obtain⟨rfl,rfl⟩|⟨rfl,q⟩|⟨rfl|rfl,rfl⟩|⟨rfl|rfl,j⟩:=m
 .simp at h;split at h
  .cases h;exact .inr (.inr (.inl ⟨.inl rfl,rfl⟩))
  exact Qw (.inl rfl) h i
 .simp at h;exact Qw (.inr q) h i
 .simp at h;split at h
  .cases h;exact .inr (.inr (.inl ⟨.inr rfl,rfl⟩))
  exact d 10 5 (.inl rfl) (by decide) (by decide) r h
 .simp at h;exact d 16 6 (.inr rfl) (by decide) (by decide) r h
 .simp at h;exact f 10 5 (.inl rfl) (by decide) j.1 r h i
 simp at h;exact f 16 6 (.inr rfl) (by decide) j.1 r h i
def acD(h:W s)(e:aZ s.rp=true)(f:s.t=0)(b:Int)(i:0<=b)(c:(fD s b).2=0):W (fD s b).1:=by
 obtain⟨j,k⟩:=h.rf e;unfold fD at c⊢;split at c
 .simp at c
 rename_i r l;split
 .rename_i a
  exact{h with
   t:=λg=>by have g:0<s.t:=g;omega
   rf:=λ_=>⟨j,acC i k l a⟩}
 rename_i a;obtain⟨x,t,n,m,o⟩:=zH (kZ s r) r.code;rw[m]
 exact{h with
  t:=λg=>by have g:0<s.t:=g;omega
  rf:=λg=>aj6 g a
  tk:=λp u v w y d=>by
   have z:s.H=1:=by have d:s.H≠17:=d;omega
   have:=o (.inl z)
   have q:=h.tk p u v w y d
   exact⟨this.1.trans q.1,this.2.trans q.2⟩
  c8:=λg=>by exfalso;have g:s.H=8\/s.H=12\/s.H=14:=g;omega
  lN:=λg=>by exfalso;have g:s.H=14:=g;omega
  mZ:=λg=>by exfalso;have g:s.H=12:=g;omega}
structure Wq(s:Z):Prop extends W s where
 q:s.t=0
 r:aZ s.rp=false
def oI(h:Wq s)(f:s.D=[])(c:s.i=[]/\s.G=0)(i:s.f=[])(st:Int)(j:0<=st/\st<=21)(k:st=0->s.I=[])(l:(st=1\/st=2\/st=6\/st=20\/st=21)->s.I≠[])
 (n:s.over=true->s.I=[]) (m:Int) (o:st=6->0<=m/\m<6:=by omega) (d:st=20->0<=m/\m<=(bP s).length:=by omega) (e:¬(12<=st/\st<=19):=by omega):Wq {s with H:=st,aW:=m}:=
 {h with
  st:=j
  o0:=k
  o1:=l
  ov:=λg=>⟨n g,e⟩
  t:=λg=>by have g:0<s.t:=g;have:=h.q;omega
  rf:=λg=>aj6 (h.r.symm.trans g) (by decide)
  hs:=.inl f
  m6:=o
  rQ:=d
  tk:=λ_ _ _ _ _ _=>c
  c8:=λ_=>by rw[c.1,c.2];rfl
  lN:=λg=>by exfalso;have g:st=14:=g;omega
  uS:=λg=>by exfalso;have g:st=17:=g;omega
  jv:=λ_=>i
  mZ:=λg=>by exfalso;have g:st=12:=g;omega
  qd:=λa b=>by exfalso;have a:13<=st:=a;have b:st<=19:=b;omega
  pJ:=λa b=>by exfalso;have a:12<=st:=a;have b:st<=19:=b;omega}
def Wq.told(h:Wq s)(l:List Ev)(x:U):Wq {s with C:=l,F:=x}:={h with}
def Qx(h:Wq s)(a:s.D=[])(b:s.i=[]/\s.G=0)(c:s.f=[])(d:s.over=true->s.I=[]):Wq (iy s):=by
 have e:(s.I.length=0)↔s.I=[]:=length_eq_zero_iff;unfold iy;refine oI h a b c _ (by split<;>omega) (λg=>?_) (λg=>?_) d s.aW (λg=>?_) (λg=>?_) ?_;all_goals split at * <;>first|omega|simp_all
def Qy(h:Wq s)(e:Ev):Wq (aX s e):=by rw[kI];exact h.told _ _
def ED(s:Z)(e:Ev):(aX s e).D=s.D/\(aX s e).i=s.i/\(aX s e).G=s.G/\(aX s e).f=s.f/\(aX s e).over=s.over/\(aX s e).I=s.I/\(aX s e).H=s.H:=by
 rw[kI];exact⟨rfl,rfl,rfl,rfl,rfl,rfl,rfl⟩
def zI(h:Wq s)(b:s.D=[])(a:s.H≠14):Wq (bH s):=
 {h with
  tk:=λ_ _ _ _ _ _=>⟨rfl,rfl⟩
  c8:=λ_=>rfl
  lN:=λg=>aj6 g a
  mZ:=λ_=>⟨λx hx=>(by cases hx),by show(0:Int)<=s.S;have:=h.bd;omega⟩}
def zJ(h:Wq s)(hd:U)(hs:Hs s.H hd):Wq {s with D:=hd}:={h with hs:=hs,t:=λg=>by have g:0<s.t:=g;have:=h.q;omega}
def acE(h:Wq s)(a:s.H=7):Wq (mS s):=by
 have b:Wq (bH {s with D:=[]}):=zI (zJ h [] (.inl rfl)) rfl (by show s.H≠14;omega);have f:=ED (bH {s with D:=[]}) ⟨4,[],[],s.i,[]⟩;exact Qx (Qy b ⟨4,[],[],s.i,[]⟩) (f.1) ⟨f.2.1,f.2.2.1⟩ (f.2.2.2.1.trans (h.jv<|by omega)) (λg=>by rw[f.2.2.2.2.2.1];rw[f.2.2.2.2.1]at g;exact(h.ov g).1)
def BN(h:Wq s)(n:U)(a:13<=s.H->s.H<=19->qV s.S n):Wq {s with B:=n}:={h with qd:=a}
def Qz{t:Int}(h:8<=t):qV t []:=⟨λx hx=>(by cases hx),by simp;omega⟩
def QA(h:Wq s)(b:s.H=9\/s.H=11):Wq (kG s):=by
 have c:Wq (bH {s with D:=[]}):=zI (zJ h [] (.inl rfl)) rfl (by show s.H≠14;omega);have a:=Qy c ⟨5,s.B,[],s.i,[]⟩;have f:=ED (bH {s with D:=[]}) ⟨5,s.B,[],s.i,[]⟩;exact Qx (BN a [] λ_ _=>Qz a.bd.2.1) (f.1) ⟨f.2.1,f.2.2.1⟩ (f.2.2.2.1.trans (h.jv<|by omega)) (λg=>by show(aX (bH {s with D:=[]}) ⟨5,s.B,[],s.i,[]⟩).I=[];rw[f.2.2.2.2.2.1];have g:(aX (bH {s with D:=[]}) ⟨5,s.B,[],s.i,[]⟩).over=true:=g;rw[f.2.2.2.2.1]at g;exact(h.ov g).1)
def acF(h:Wq s)(a:s.H=7)(b:Int)(i:0<=b)(c:(fu s b).2=0):W (fu s b).1:=by
 unfold fu at c⊢;split at c
 .rename_i g;rw[J g];exact(acE h a).toW
 rename_i g;rw[M g];split at c
 .simp at c
 rename_i f;rw[M f];split at c
 .rename_i d;rw[J d];refine(zJ h _ ?_).toW;obtain e|⟨_,e|e⟩|⟨e,_⟩|⟨e,_⟩:=h.hs
  .rw[e];exact .inr (.inl ⟨a,.inl rfl⟩)
  .rw[e];exact .inr (.inl ⟨a,.inr rfl⟩)
  .exact aj6 e f
  .omega
  omega
 rename_i d;rw[M d];exact vZ h.toW (by omega) h.r b i c
def acG(h:Wq s)(a:s.H=2)(b:Int)(j:0<=b)(c:(fH s b).2=0):W (fH s b).1:=by
 have i:bI s=true:=by unfold bI;simp[a]
 unfold fH at c⊢;split at c
 .rename_i g;rw[J g];exact(oI (zJ h [] (.inl rfl)) rfl (h.zzt) (h.jv<|by omega) 1 (by omega) (by omega) (λ_=>(h.o1<|by omega)) (λg=>(h.ov g).1) s.aW).toW
 rename_i g;rw[M g];split at c
 .rename_i d;rw[J d,Jj i];exact{h with}
 rename_i d;rw[M d];split at c
 .rename_i f;rw[J f];refine(zJ h _ ?_).toW;obtain e|⟨e,_⟩|⟨_,e|e⟩|⟨e,_⟩:=h.hs
  .rw[e];exact .inr (.inr (.inl ⟨a,.inl rfl⟩))
  .omega
  .rw[e];exact .inr (.inr (.inl ⟨a,.inr rfl⟩))
  .exact aj6 ⟨f,e⟩ d
  omega
 rename_i f;rw[M f];exact vZ h.toW (by omega) h.r b j c
def QB(h:Wq s)(a:s.H=11)(b:Int)(i:0<=b)(c:(dN s b).2=0):W (dN s b).1:=by
 have e:bI s=false:=by unfold bI;simp[a]
 unfold dN at c⊢;split at c
 .rename_i g;rw[J g];exact(QA h<|by omega).toW
 rename_i g;rw[M g];split at c
 .rename_i f;rw[J f];split at c
  .rename_i d;rw[J d,pK e]
   exact{h with
    tk:=λk l j m n o=>aj6 a j
    c8:=λg=>by exfalso;have g:s.H=8\/s.H=12\/s.H=14:=g;omega
    lN:=λg=>by exfalso;have g:s.H=14:=g;omega
    mZ:=λg=>by exfalso;have g:s.H=12:=g;omega}
  simp at c
 rename_i f;rw[M f];split at c
 .rename_i d;rw[J d];exact(zJ h _ (.inr (.inr (.inr ⟨a,rfl⟩)))).toW
 rename_i d;rw[M d];exact vZ h.toW (by omega) h.r b i c
def uf(h:eD b=true):0<=b/\b<128:=by
 unfold eD dP Mk.fq tj at h;simp at h;omega
def EE(h:dP b=true):0<=b/\b<128:=uf (by rw[eD,h];rfl)
def acH(h:Wq s)(c:s.H=8)(b:Int)(a:(cN s b).2=0):W (cN s b).1:=by
 have e:bI s=false:=by unfold bI;simp[c]
 have i:s.D=[]:=h.hs.none;unfold cN at a⊢;split at a
 .simp at a
 rename_i g;rw[M g];split at a
 .rename_i d;rw[J d];unfold fS at a⊢;split at a
  .rename_i f;rw[J f,pK e,sO b (uf d).2]
   exact{h with
    tk:=λm k n o p q=>aj6 c k
    c8:=λ_=>by have:=h.c8 (.inl c);show s.G+1=((s.i++[_]).length:Int);simp;omega
    lN:=λg=>by exfalso;have g:s.H=14:=g;omega
    mZ:=λg=>by exfalso;have g:s.H=12:=g;omega}
  simp at a
 rename_i d;rw[M d];split at a
 .simp at a
 rename_i f;rw[M f];split at a
 .simp at a
 rename_i l;rw[M l];exact(oI (BN (zI h i<|by omega) s.i (λj d=>by exfalso;have j:13<=s.H:=j;omega)) i ⟨rfl,rfl⟩ (h.jv<|by omega) _ (by split<;>omega) (by split<;>omega) (by split<;>omega) (λg=>(h.ov g).1) s.aW (by split<;>omega) (by split<;>omega) (by split<;>omega)).toW
def acI(h:Wq s)(c:s.H=10)(b:Int)(d:0<=b)(a:(jK s b).2=0):W (jK s b).1:=by
 unfold jK at a⊢;split at a
 .rename_i g;rw[J g];exact h.toW
 rename_i g;rw[M g];refine QB ?_ rfl b d a;exact oI h (h.hs.none) (h.zzt) (h.jv<|by omega) 11 (by omega) (by omega) (by omega) (λg=>(h.ov g).1) s.aW
def acJ(h:Wq s)(c:s.H=0)(b:Int)(a:(h_ s b).2=0):W (h_ s b).1:=by
 unfold h_ at a⊢;split at a
 .rename_i g;rw[J g];exact h.toW
 rename_i g;rw[M g];split at a
 .rename_i d;rw[J d];exact(oI h (h.hs.none) (h.zzt) (h.jv<|by omega) 3 (by omega) (by omega) (by omega) (λg=>(h.ov g).1) s.aW).toW
 simp at a
def v_(h:Wq s)(n:Int):Wq {s with bG:=n}:={h with}
def acK(h:Wq s)(c:s.H=1)(b:Int)(e:0<=b)(a:(fw s b).2=0):W (fw s b).1:=by
 unfold fw at a⊢;split at a
 .rename_i g;rw[J g];exact(oI (v_ h 0) (h.hs.none) (h.zzt) (h.jv<|by omega) 3 (by omega) (by omega) (by omega) (λg=>(h.ov g).1) s.aW).toW
 rename_i g;rw[M g];split at a
 .rename_i f;rw[J f]
  exact{v_ h 0 with
   rf:=λ_=>⟨.inl c,.inl ⟨rfl,rfl⟩⟩
   t:=λg=>by have g:0<s.t:=g;have:=h.q;omega}
 rename_i f;rw[M f];split at a
 .rename_i i;rw[J i];split at a
  .simp at a
  rename_i d;rw[M d];exact vZ (v_ h 0).toW (.inl c) h.r b e a
 rename_i i;rw[M i];split at a
 .rename_i d;rw[J d];exact vZ (v_ h (if s.bG==0 then 1 else 2)).toW (.inl c) h.r b e a
 rename_i d;rw[M d];exact vZ (v_ h 0).toW (.inl c) h.r b e a
