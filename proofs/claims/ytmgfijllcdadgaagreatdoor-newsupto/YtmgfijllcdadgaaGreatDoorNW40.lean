import Derived.Test.YtmgfijllcdadgaaGreatDoorNW39
import Derived.Test.YtmgfijllcdadgaaGreatDoorNW32
import Derived.Test.YtmgfijllcdadgaaGreatDoorNW30
import Derived.Test.YtmgfijllcdadgaaGreatDoorNW37
import Derived.Test.YtmgfijllcdadgaaGreatDoorNW00
import Derived.Test.YtmgfijllcdadgaaGreatDoorNW12
set_option linter.unusedVariables false
set_option linter.unusedSimpArgs false
set_option maxHeartbeats 4000000
set_option maxRecDepth 100000
namespace Go.Proofs.YtmgfijllcdadgaaGreatDoor.U
open Go.RowKit
open Mk (Bs Ev aD)
open V
open Go.Proofs.Tryz
open Rf (fT Pz)
variable {i:Nat}{w:World}
section
variable {w:World}{O:Nat→Nat×Nat}{b:Nat}{pl:List (Pl×PA)}{hl:List HA}{pa ha:Option Addr}{pc hc:Nat}
def uI(iB:Bool)(l m:List Bs)(i:Nat)(S:Bool):Prop:=(S=true→l.length=m.length∧iB=decide (l.drop i=m.drop i))∧(S=false→iB=false)
theorem uI.step{a:Bool}{l m:List Bs}(h:uI a l m i true)(c:i<l.length)(d:i<m.length):uI a l m (i+1) (l[i]==m[i]):=by
 obtain⟨f,b⟩:=h.1 rfl;rw[List.drop_eq_getElem_cons c,List.drop_eq_getElem_cons d]at b;refine⟨fun q=>⟨f,?_⟩,fun q=>?_⟩
 .have e:l[i]=m[i]:=by simpa using q
  rw[b];exact decide_eq_decide.2 (by rw[e];simp only[List.cons.injEq,true_and])
 have e:l[i]≠m[i]:=by simpa using q
 rw[b];exact decide_eq_false fun q=>e (List.cons.inj q).1
theorem xY{d w' :World}{O' :Nat→Nat×Nat}{hl' :List HA}{ha' :Option Addr}{hc' :Nat}(f:Below w.heap.size w d){a:Option Addr}(i:∀k,w.heap.size≤k→O k=fr)(c:∀k,aT a k→w.heap.size≤k)(g:WI w' O' b pl hl' pa pc ha' hc')(h:bF (aT a) O O' d w'):kW w O b pl hl'.length pa pc w' :=
 ⟨O', hl', ha', hc', g,rfl,(bF.of_below _ f).trans h fun q j e=>by have:=c q e;omega⟩
theorem RR(h:WI w O b pl hl pa pc ha hc){K:Nat}(hi:i<pl.length)(l:eM K pl[i].1)(hK:K≤7000000)(hG:Gt w O)(hn:hl.length≤17000000000000):
 Calls Tryz.prog 50 #[.pointer (some ⟨b,0,none⟩),.pointer (some ⟨pl[i].2.xb,0,none⟩)] w fun e w' =>e=.returned (.bool (rF pl[i].1))∧kW w O b pl (hl.length+1) pa pc w' :=by
 have hP:=h.ps i hi;have HC:=aB (Go.Proofs.YtmgfijllcdadgaaGreatDoor.IA hP.rd (by have:=l.inv.ho;omega));have HX:=aB hP.blk;have HW:=aB h;obtain⟨m,Q,D⟩:=aM hP.blk;obtain⟨a0,f⟩:∃x,x=rF pl[i].1:=⟨_,rfl⟩;rw[←f];unfold rF at f;have HR:=aB (fun(W:World) (hb:Below w.heap.size w W)=>V.lu (on:=pl[i].1.on) l.d1 l.d2 l.a1 l.a2 l.t1 l.t2 (show pl[i].1.aS.length≤100000000 by have:=l.fd;omega) W (hG.gr.below hb));have a9:pl[i].1.s.opn.length≤1000000000:=by have:=l.inv.ho;omega
 unfold dL at m;clear h l hG hP;generalize pl[i]=q at *;obtain⟨⟨od,oa,ot,on,st,aS,said⟩,⟨xb,pb,L⟩⟩:=q;clear hi;dsimp only at f m Q D HC HR HX a9⊢;generalize Rf.read od oa ot on aS=A at *;have HF:=aB f;clear f;generalize st.opn=a at *;go_enter func50,ntmps50
 go_wp2_with fail
 refine(aA HC).mono ?_;rintro e w1 ⟨E,p,rfl,hrow,F⟩;clear m Q D;have a6:=(F.block _ (cE (aA HX))).trans (aA HX);obtain⟨m,Q,D⟩:=aM a6;unfold dL at m;have a3:=aB (fun(W:World) (hb:Below w1.heap.size w1 W)=>aA HR W (F.trans (hb.mono F.size)));have G:=aB (And.intro F hrow);clear a6 HC HR HX F hrow;have aa:∀o j,(w1.alloc o).cell? ⟨xb,j,none⟩=(#[.pointer (some ⟨pb,0,none⟩),.int .i64 od,.int .i64 oa,.int .i64 ot,.bool on,.string ⟨aS.toArray⟩,.int .i64 said]:Array Value)[j]?:=fun o j=>by rw[←m j];exact fU (Below.heap_alloc _ _ _ D)
 go_wp2_with fail
 go_cut [6] (fun s6 wx=>Hid (pZ w1 wx s6 A))
 case first=>
  have a4:Below w1.heap.size w1 w1.drew:=⟨rfl,rfl,rfl,Nat.le_refl _,fun _ _=>rfl⟩;have ab:∀o,Below w1.heap.size w1 (w1.alloc o).drew:=fun o=>⟨rfl,rfl,rfl,by simp,fun k l=>Below.heap_alloc _ _ _ l⟩
  go_region_with (go_at_call 45;first
   |(refine(aA a3 _ a4).mono ?_;rintro e w4 ⟨v4,rfl,H,I⟩;obtain⟨ea,ec,R,oc,rfl,J⟩:=uy (W0:=w1) (W:=w1.drew) a4 H I;have ad:=uq w4 A ea ec R oc;have HO:=aB J;clear J H I)
   |(refine(aA a3 _ (ab _)).mono ?_;rintro e w4 ⟨v4,rfl,H,I⟩;obtain⟨ea,ec,R,oc,rfl,HZ,J⟩:=uz (W0:=w1) (W:=w1.drew) a4 H I;have ad:=uw w4 w1.heap.size A ea ec R oc HZ;have HO:=aB J;clear J H I HZ))
  all_goals
   go_wp2_with fail
   go_meet
   exact HO
 case rest=>
 obtain⟨g,ea,ec,R,oc,rfl,hg,a7,hL,a5⟩:=aA hcut;rename World=>w2
 obtain⟨ae,ak,al⟩:=aM a7;unfold fZ at ae;have a8:=(aA G).1.trans (a5.mono (aA G).1.size);have r:w2.ownsRow w.heap.size 9 1 (.slice E a.length p) a.length (a.map sv):=gY (aA G).2 fun k q=>a5.block k (World.ownsRow.lt (aA G).2 k q).2
 have Z:=aB (And.intro a8 (And.intro r hL.nm));have am:A.opn.length≤9223372036854775807:=kO hL.nm;have T:=aB (fun k (l:k<a.length)=>ou (i:=k) (nM r (Nat.zero_le _)) l);have X:=aB (fun k (l:k<A.opn.length)=>ou (i:=k) (nM hL.nm (Nat.zero_le _)) l);clear m Q D a7 hcut aa a5 a3 G hL a8 r;go_wp2_with fail
 go_loopg [7,8] a.length (fun g7 s7 s8 wx=>∃(i:Nat) (S:Bool),i≤a.length∧g7=a.length - i∧s7=.bool S∧s8=.int .i64 i∧Hid (uI a0 a A.opn i S)∧∃n,wx=w2.drewN n)
 case atStart=>
  refine⟨0,_,Nat.zero_le _,rfl,rfl,rfl,aB ⟨fun q=>⟨by have M:=q;simp at M;omega,by rw[aA HF];rfl⟩,fun q=>?_⟩,0,rfl⟩;have:a.length≠A.opn.length:=by have M:=q;simp at M;omega
  rw[aA HF];simp;intro e;exact this (by rw[e])
 case round=>
  obtain⟨i,S,hi,rfl,rfl,rfl,HN,nd,rfl⟩:=hrel;by_cases N:i<a.length
  .have e1:decide ((i:Int)<(a.length:Int))=true:=by simp;omega
   have e2:(i:Int)<(a.length:Int):=by omega
   cases S with
   |true=>
    have af:=((aA HN).1 rfl).1;obtain⟨P,rfl,l1,c1⟩:=aA T i N;obtain⟨g2,rfl,l2,c2⟩:=aA X i (by omega);have e4:(i:Int)<(A.opn.length:Int):=by omega
    have hs:=(aA HN).step N (by omega);rw[show(a.map sv)[i]?=some (.string ⟨a[i].toArray⟩) by simp[sv,N]]at c1;rw[show(A.opn.map sv)[i]?=some (.string ⟨(A.opn[i]'(by omega)).toArray⟩) by simp[sv]]at c2;have HS:=aB hs;clear HN hs T X;generalize a[i]=x at *;generalize A.opn[i]'_=y at *;clear af;go_wp2_with fail
    go_quiet(fail)
    go_wp2_with fail
    go_roundg (a.length - (i+1))
    case measure=>omega
    case rel=>exact⟨i+1,_,by omega,rfl,rfl,by simp,HS,nd+nq,by first|rfl|rw[mh]⟩
   |false=>
    have hf:a0=false:=(aA HN).2 rfl;have e3:decide (i<a.length)=true:=by simp;omega
    clear T X HN HF;subst hf;have t:=(aA Z).1.trans ((V.below_drewN w2 nd).mono (aA Z).1.size);have d:(w2.drewN nd).ownsRow w.heap.size 9 (jU 2) (.slice E a.length p) a.length (a.map sv):=gY (aA Z).2.1 fun k _=>by rw[heap_drewN]
    have u:∀k,aT E k→w.heap.size≤k:=fun k q=>(World.ownsRow.lt d k (kx q)).1
    have HK:=aB (ow ((aA HW).below t) (c:=2) (by decide) d (fun k q=>(aA HW).nw k (u k q)) hn);rw[CB]at HK;have HT:=aB (fun w5 O5 v z=>xY (w' :=w5) (O' :=O5) (ha' :=v) (hc' :=z) (hl' :=hl++[⟨(w2.drewN nd).heap.size,2,E,p,p⟩]) (pl:=pl) (pa:=pa) (pc:=pc) (b:=b) t (aA HW).nw u);have B:(E=none∧p=0∧a.length=0)∨∃P,E=some ⟨P,0,none⟩∧a.length≤p∧p≤9223372036854775807:=by
     rcases d.2 with⟨C,h2⟩|⟨P,cap,ag,C,_,_,h4,Y,_⟩
     .injection C with C _ Y;exact .inl ⟨C,Y,h2⟩
     injection C with C _ Y;subst Y;exact .inr ⟨P,C,h4,by assumption⟩
    have ah:(a.length:Int)≤(p:Int):=by omega
    clear t d u Z hi;rcases B with⟨rfl,rfl,-⟩|⟨P,rfl,ai,aj⟩;all_goals try(exfalso;omega)
    all_goals
     clear N;go_wp2_with fail
     refine(aA HK).mono ?_;rintro e w5 ⟨rfl,O5,v,z,q1,q2⟩;have HD:=aB (aA HT w5 O5 v z q1 q2);clear q1 q2 HT HK;go_wp2_with fail
     go_ret;refine⟨rfl,?_⟩;have M:=aA HD;rw[List.length_append]at M;exact M
  have e1:decide ((i:Int)<(a.length:Int))=false:=by simp;omega
  have e3:decide (i<a.length)=false:=by simp;omega
  have hf:a0=S:=by
   cases S with
   |false=>exact(aA HN).2 rfl
   |true=>
    have M:=(aA HN).1 rfl;rw[M.2,List.drop_of_length_le (by omega),List.drop_of_length_le (by omega)];rfl
  clear T X HN HF;subst hf;have t:=(aA Z).1.trans ((V.below_drewN w2 nd).mono (aA Z).1.size);have d:(w2.drewN nd).ownsRow w.heap.size 9 (jU 2) (.slice E a.length p) a.length (a.map sv):=gY (aA Z).2.1 fun k _=>by rw[heap_drewN]
  have u:∀k,aT E k→w.heap.size≤k:=fun k q=>(World.ownsRow.lt d k (kx q)).1
  have HK:=aB (ow ((aA HW).below t) (c:=2) (by decide) d (fun k q=>(aA HW).nw k (u k q)) hn);rw[CB]at HK;have HT:=aB (fun w5 O5 v z=>xY (w' :=w5) (O' :=O5) (ha' :=v) (hc' :=z) (hl' :=hl++[⟨(w2.drewN nd).heap.size,2,E,p,p⟩]) (pl:=pl) (pa:=pa) (pc:=pc) (b:=b) t (aA HW).nw u);have B:(E=none∧p=0∧a.length=0)∨∃P,E=some ⟨P,0,none⟩∧a.length≤p∧p≤9223372036854775807:=by
   rcases d.2 with⟨C,h2⟩|⟨P,cap,ag,C,_,_,h4,Y,_⟩
   .injection C with C _ Y;exact .inl ⟨C,Y,h2⟩
   injection C with C _ Y;subst Y;exact .inr ⟨P,C,h4,by assumption⟩
  have ah:(a.length:Int)≤(p:Int):=by omega
  clear t d u Z hi;rcases B with⟨rfl,rfl,-⟩|⟨P,rfl,ai,aj⟩;all_goals try(exfalso;omega)
  all_goals
   clear N;go_wp2_with fail
   refine(aA HK).mono ?_;rintro e w5 ⟨rfl,O5,v,z,q1,q2⟩;have HD:=aB (aA HT w5 O5 v z q1 q2);clear q1 q2 HT HK;go_wp2_with fail
   go_ret;refine⟨rfl,?_⟩;have M:=aA HD;rw[List.length_append]at M;exact M
end
def jH(s:Mk.St):Bs:=if s.ended=0 then Mk.rest s else[]
def rG(p:Pl):Bool:=if p.said=0 then Rf.sU p.od p.oa p.ot p.on p.aS (jH p.s)else jH p.s==[]
theorem RS{b:Nat}{s:Mk.St}{L:Lay}(h:aK w b s L)(g:s.ended=0→W s)(i:Bd s)(hd:s.od≤64)(j:s.ot≤1024)(f:Gl w)(k:2<w.heap.size):
 Calls Tryz.prog 74 #[.pointer (some ⟨b,0,none⟩)] w fun e w' =>∃a c,e=.returned (.slice a (jH s).length c)∧jG w w' (.slice a (jH s).length c) (jH s):=by
 by_cases d:s.ended=0
 .have e:jH s=Mk.rest s:=by unfold jH;rw[if_pos d]
  rw[e];exact RO h d (g d) i hd j f k
 have e:jH s=[]:=by unfold jH;rw[if_neg d]
 rw[e];have hc:=h.cell;have l:=h.lt;have m:(s.ended !=0)=true:=by simpa using d
 unfold cellsOf at hc;clear h d e f;go_enter func74,ntmps74
 go_wp2_with fail
 go_ret;exact⟨none,0,rfl,Below.refl _ _,World.ownsRow_nil _ _ _ _⟩
theorem RU{s:Mk.St}(a:s.ended=0→W s)(hd:s.od≤64)(b:s.ot≤1024):(jH s).length≤70000:=by
 unfold jH;split
 .rename_i h;exact(Dk (a h) hd b).1
 simp
section
variable {w:World}{O:Nat→Nat×Nat}{b:Nat}{pl:List (Pl×PA)}{hl:List HA}{pa ha:Option Addr}{pc hc:Nat}
theorem kW.below{n:Nat}{w1 w2:World}(h:kW w O b pl n pa pc w1)(a:Below w1.heap.size w1 w2):kW w O b pl n pa pc w2:=by
 obtain⟨O', hl', ha', hc', c,d,e⟩:=h;exact⟨O', hl', ha', hc', c.below a,d,e.trans (bF.of_below (fun _=>False) a) fun _ _ q=>q⟩
theorem RV(h:WI w O b pl hl pa pc ha hc){K:Nat}(N:i<pl.length)(g:eM K pl[i].1)(hK:K≤7000000)(G:Gt w O)(hn:hl.length≤17000000000000):
 Calls Tryz.prog 51 #[.pointer (some ⟨b,0,none⟩),.pointer (some ⟨pl[i].2.xb,0,none⟩)] w fun e w' =>e=.returned (.bool (rG pl[i].1))∧kW w O b pl (hl.length+1) pa pc w' :=by
 have P:=h.ps i N;have Q:=aB (RS P.rd g.w (Inv.bd g.inv (by omega)) g.sd g.st G.gl G.lt);have R:=aB h;have S:=RU g.w g.sd g.st;obtain⟨n,u,v⟩:=aM P.blk;obtain⟨a5,a⟩:∃x,x=rG pl[i].1:=⟨_,rfl⟩;rw[←a];unfold rG at a;have T:=aB (fun(W:World) (X:bG W)=>RF (on:=pl[i].1.on) (rest:=jH pl[i].1.s) g.d1 g.d2 g.a1 g.a2 g.t1 g.t2 (show pl[i].1.aS.length+(jH pl[i].1.s).length≤100000000 by have:=g.fd;omega) W X);have Y:=aB G;have o:=aB (fun(f:World) (p:Nat→Nat×Nat) (Z:List HA) (j:Option Addr) (l:Nat) (q:WI f p b pl Z pa pc j l)=>(q.ps i N).blk);unfold dL at n o;clear h g G P;generalize pl[i]=q at *;obtain⟨⟨od,oa,ot,on,st,aS,said⟩,⟨xb,pb,L⟩⟩:=q;clear N;dsimp only at a n u v Q T o S⊢;have H:=aB a;clear a;generalize jH st=z at *;go_enter func51,ntmps51
 go_wp2_with fail
 refine(aA Q).mono ?_;rintro e w1 ⟨D,B,rfl,d⟩;have a0:=lT d.row;have r:∀k,aT D k→w.heap.size≤k:=fun k q=>(World.ownsRow.lt d.row k (kx q)).1
 have HK:=aB (ow ((aA R).below d.aU) (c:=3) (by decide) d.row (fun k q=>(aA R).nw k (r k q)) hn);rw[um]at HK;have HT:=aB (fun f p j l=>xY (w' :=f) (O' :=p) (ha' :=j) (hc' :=l) (hl' :=hl++[⟨w1.heap.size,3,D,B,B⟩]) (pl:=pl) (pa:=pa) (pc:=pc) (b:=b) d.aU (aA R).nw r);have E:=aB (fun f p (q:bF (aT D) O p w1 f)=>((aA Y).gA ((bF.of_below (fun _=>False) d.aU)) fun _ _ e=>e).gA q fun k t h2=>by have:=r k h2;have:=(aA Y).lt;omega);have y:(D=none∧B=0∧z.length=0)∨∃I,D=some ⟨I,0,none⟩∧z.length≤B∧B≤9223372036854775807:=by
  rcases d.row.2 with⟨t,h2⟩|⟨I,cap,a6,t,_,_,h4,J,_⟩
  .injection t with t _ J;exact .inl ⟨t,J,h2⟩
  injection t with t _ J;subst J;exact .inr ⟨I,t,h4,by assumption⟩
 have a7:(z.length:Int)≤(B:Int):=by omega
 clear d r Q n u v Y;rcases y with⟨rfl,rfl,-⟩|⟨I,rfl,a8,a9⟩;all_goals
  go_wp2_with fail
  refine(aA HK).mono ?_;rintro e f ⟨rfl,p,j,l,q1,q2⟩;have HD:=aA HT f p j l q1 q2;rw[List.length_append]at HD;have F:=aB HD;obtain⟨n,u,v⟩:=aM (aA o f p _ j l q1);have A:=aB (fun(W:World) (X:Below f.heap.size f W)=>aA T W ((aA E f p q2).gr.below X));clear q1 q2 HT HK HD o T a0 E;by_cases M:said=0
  .subst M;have C:=aA H;rw[if_pos rfl]at C;have e0:((0:Int) !=0)=false:=rfl;rw[←C]at A;clear H C;have a3:Below f.heap.size f f.drew:=⟨rfl,rfl,rfl,Nat.le_refl _,fun _ _=>rfl⟩;go_wp2_with fail
   go_region_with (go_at_call 75;refine(aA A _ a3).mono ?_;rintro e w6 ⟨rfl,m⟩;have a4:=aB (show Below f.heap.size f w6 from⟨m.os,m.tape,m.output,m.size,m.block⟩);clear m)
   all_goals
    go_wp2_with fail
    go_ret;exact⟨rfl,(aA F).below (aA a4)⟩
  have C:=aA H;rw[if_neg M]at C;subst C;have e0:(said !=0)=true:=by simpa using M
  clear H M A;go_wp2_with fail
  go_ret;refine⟨?_,aA F⟩;first
   |rfl
   |exact Pq (by cases z<;>rfl)
end
theorem RX{N O:Value}{l m:List aD}{Y E Z F:Nat}(G:cJ Y Z w N l)(H:cJ E F w O m):
 Calls Tryz.prog 213 #[N,O] w fun e w' =>e=.returned (.bool (fT l m))∧∃n,w' =w.drewN n:=by
 have hl:=G.len;have a0:=H.len;obtain⟨a1,c1,rfl,o⟩:=G.form;obtain⟨a2,c2,rfl,p⟩:=H.form;have i:=aB o;have j:=aB p;obtain⟨a,c⟩:∃a,a=fT l m:=⟨_,rfl⟩;rw[←c];clear G H o p;by_cases d:l.length=m.length
 .have e0:((l.length:Int) !=(m.length:Int))=false:=by simp[d]
  have I:=aB (show a=fT (l.drop 0) (m.drop 0)from c);have q:=aB d;clear c d;go_enter func213,ntmps213
  go_wp2_with fail
  go_loopg [5] l.length (fun g s5 wx=>∃k:Nat,k≤l.length∧g=l.length - k∧s5=.int .i64 k∧Hid (a=fT (l.drop k) (m.drop k))∧∃n,wx=w.drewN n)
  case atStart=>exact⟨0,by omega,rfl,rfl,I,0,rfl⟩
  case round=>
   obtain⟨k,hk,rfl,rfl,f,n,rfl⟩:=hrel;have d:=aA q;by_cases r:k<l.length
   .have e1:decide ((k:Int)<(l.length:Int))=true:=by simp;omega
    have h:k<m.length:=by omega
    have hfin:=aA f;rw[BQ l m k r h]at hfin;obtain⟨g1,o1,f1,⟨_,_,_⟩,C⟩:=(aA i) k r;obtain⟨g2,o2,f2,⟨_,_,_⟩,D⟩:=(aA j) k h;subst f1 f2;have s:=C 0 (by decide);have t:=C 1 (by decide);have u:=C 2 (by decide);have v:=D 0 (by decide);have z:=D 1 (by decide);have A:=D 2 (by decide);simp[bZ]at s t u v z A;clear C D i j f I q;generalize l[k]=x at *;generalize m[k]=y at *;obtain⟨P,Q,R⟩:=x;obtain⟨S,T,X⟩:=y;simp only at s t u v z A hfin;by_cases J:P=S
    .subst J;by_cases K:Q=T
     .subst K;by_cases L:R=X
      .subst L;simp only[decide_true,Bool.true_and]at hfin;have M:=aB hfin;clear hfin;go_wp2_with fail
       go_quiet(fail)
       go_wp2_with fail
       go_roundg (l.length - (k+1))
       case measure=>omega
       case rel=>exact⟨k+1,by omega,rfl,by simp,M,n+nq,by first|rfl|rw[mh]⟩
      have b:a=false:=by rw[hfin];simp[L]
      have B:(R==X)=false:=by simpa using L
      clear hfin;subst b;go_wp2_with fail
      go_quiet(fail)
      go_wp2_with fail
      go_ret;exact⟨rfl,n+nq,by first|rfl|rw[mh]⟩
     have b:a=false:=by rw[hfin];simp[K]
     have B:(Q==T)=false:=by simpa using K
     clear hfin;subst b;go_wp2_with fail
     go_quiet(fail)
     go_wp2_with fail
     go_ret;exact⟨rfl,n+nq,by first|rfl|rw[mh]⟩
    have b:a=false:=by rw[hfin];simp[J]
    have B:(P==S)=false:=by simpa using J
    clear hfin;subst b;go_wp2_with fail
    go_quiet(fail)
    go_wp2_with fail
    go_ret;exact⟨rfl,n+nq,by first|rfl|rw[mh]⟩
   have e1:decide ((k:Int)<(l.length:Int))=false:=by simp;omega
   have a3:decide ((k:Int)<(m.length:Int))=false:=by simp;omega
   have hfin:=aA f;rw[List.drop_of_length_le (by omega:l.length≤k),List.drop_of_length_le (by omega:m.length≤k)]at hfin;have b:a=true:=hfin;clear i j f I hfin;subst b;go_wp2_with fail
   go_ret;exact⟨rfl,n,rfl⟩
 have e0:((l.length:Int) !=(m.length:Int))=true:=by simp;omega
 have b:a=false:=by rw[c];exact xq d
 clear c;subst b;go_enter func213,ntmps213
 go_wp2_with fail
 go_ret;exact⟨rfl,0,rfl⟩
theorem M_{B k C l:Nat}{r s:Value}(x y:Ev)(m:cJ B C w r x.aC)(n:cJ k l w s y.aC):
 Calls Tryz.prog 173 #[.agg #[.int .i64 x.kind,.string ⟨x.name.toArray⟩,.string ⟨x.space.toArray⟩,.string ⟨x.val.toArray⟩,r],.agg #[.int .i64 y.kind,.string ⟨y.name.toArray⟩,.string ⟨y.space.toArray⟩,.string ⟨y.val.toArray⟩,s]] w fun e w' =>e=.returned (.bool (Pz x y))∧Below w.heap.size w w' :=by
 have HA:=aB (fun(W:World) (t:Below w.heap.size w W)=>RX (m.below t) (n.below t));obtain⟨G,H,rfl,-⟩:=m.form;obtain⟨I,J,rfl,-⟩:=n.form;clear m n;obtain⟨c,a⟩:∃c,c=Pz x y:=⟨_,rfl⟩;rw[←a];unfold Pz at a;obtain⟨g,h,i,j,D⟩:=x;obtain⟨u,v,z,A,E⟩:=y;dsimp only at a HA⊢;generalize fT D E=F at *;by_cases d:g=u
 .subst d;by_cases o:h=v
  .subst o;by_cases p:i=z
   .subst p;by_cases q:j=A
    .subst q;have b:c=F:=by rw[a];simp
     clear a;subst b;have K:(g==g)=true:=by simp
     have L:(h==h)=true:=by simp
     have M:(i==i)=true:=by simp
     have N:(j==j)=true:=by simp
     go_enter func173,ntmps173
     go_wp2_with(go_at_call 213;refine(aA HA _ (jD _ _ _)).mono ?_;rintro e w' ⟨rfl,nq,rfl⟩)
     go_ret;exact⟨rfl,ol _ _ _ _⟩
    have b:c=false:=by rw[a];simp[q]
    have f:(j==A)=false:=by simpa using q
    clear a HA;subst b;go_enter func173,ntmps173
    go_wp2_with fail
    go_ret;exact⟨rfl,jD _ _ _⟩
   have b:c=false:=by rw[a];simp[p]
   have f:(i==z)=false:=by simpa using p
   clear a HA;subst b;go_enter func173,ntmps173
   go_wp2_with fail
   go_ret;exact⟨rfl,jD _ _ _⟩
  have b:c=false:=by rw[a];simp[o]
  have f:(h==v)=false:=by simpa using o
  clear a HA;subst b;go_enter func173,ntmps173
  go_wp2_with fail
  go_ret;exact⟨rfl,jD _ _ _⟩
 have b:c=false:=by rw[a];simp[d]
 have f:(g==u)=false:=by simpa using d
 clear a HA;subst b;go_enter func173,ntmps173
 go_wp2_with fail
 go_ret;exact⟨rfl,jD _ _ _⟩
theorem Na{v1 v2:Value}{l m:List Ev}{lo S hi T:Nat}(Q:bN lo hi w v1 l)(R:bN S T w v2 m):
 Calls Tryz.prog 119 #[v1,v2] w fun e w' =>e=.returned (.bool (Rf.same l m))∧Below w.heap.size w w' :=by
 have hl:=Q.len;have a3:=R.len;obtain⟨a1,c1,i,-⟩:=Q.form;obtain⟨a2,c2,j,-⟩:=R.form;subst i j;have q:=aB Q;have r:=aB R;obtain⟨d,b⟩:∃d,d=Rf.same l m:=⟨_,rfl⟩;rw[←b];clear Q R;by_cases f:l.length=m.length
 .have e0:((l.length:Int) !=(m.length:Int))=false:=by simp[f]
  have X:=aB (show d=Rf.same (l.drop 0) (m.drop 0)from b);have L:=aB f;clear b f;go_enter func119,ntmps119
  go_wp2_with fail
  go_loopg [5] l.length (fun g s5 wx=>∃k:Nat,k≤l.length∧g=l.length - k∧s5=.int .i64 k∧Hid (d=Rf.same (l.drop k) (m.drop k))∧Hid (Below w.heap.size w wx))
  case atStart=>exact⟨0,by omega,rfl,rfl,X,aB (Below.refl _ _)⟩
  case round=>
   obtain⟨k,hk,rfl,rfl,o,c⟩:=hrel;have f:=aA L;by_cases M:k<l.length
   .have e1:decide ((k:Int)<(l.length:Int))=true:=by simp;omega
    have p:k<m.length:=by omega
    have s:(k:Int)<(l.length:Int):=by omega
    have t:(k:Int)<(m.length:Int):=by omega
    have hfin:=aA o;rw[BR l m k M p]at hfin;have N:=(aA c).size;obtain⟨b1,d1,i,s⟩:=((aA q).below (aA c)).form;obtain⟨b2,d2,j,t⟩:=((aA r).below (aA c)).form;injection i with i _ Y;injection j with j _ Z;subst i j Y Z;obtain⟨g1,o1,a4,f1,a5,I,r1⟩:=s k M;obtain⟨g2,o2,a6,f2,pq,J,r2⟩:=t k p;subst f1 f2;have u:=I 0 (by decide);have v:=I 1 (by decide);have z:=I 2 (by decide);have A:=I 3 (by decide);have B:=I 4 (by decide);have C:=J 0 (by decide);have D:=J 1 (by decide);have E:=J 2 (by decide);have F:=J 3 (by decide);have G:=J 4 (by decide);simp[bP]at u v z A B C D E F G;have K:=aB (fun n=>M_ l[k] m[k] (r1.drewN n) (r2.drewN n));obtain⟨a7,a8,O,-⟩:=r1.form;obtain⟨a9,aa,P,-⟩:=r2.form;subst O P;clear I J s t q r o X L r1 r2;generalize l[k]=x at *;generalize m[k]=y at *;cases h:Pz x y with
    |false=>
     rw[h,Bool.false_and]at hfin;rw[h]at K;subst hfin;clear h;go_wp2_with fail
     go_region_with (go_at_call 173;refine(aA K 1).mono ?_;rintro e w2 ⟨rfl,a⟩;have HN:=aB ((aA c).trans (Below.mono (show Below wr.heap.size wr w2 from⟨a.os,a.tape,a.output,a.size,a.block⟩) N));clear a K c u v z A B C D E F G)
     all_goals
      go_wp2
      go_ret;exact⟨rfl,aA HN⟩
    |true=>
     rw[h,Bool.true_and]at hfin;rw[h]at K;have a0:=aB hfin;clear h hfin f;go_wp2_with fail
     go_region_with (go_at_call 173;refine(aA K 1).mono ?_;rintro e w2 ⟨rfl,a⟩;have HN:=aB ((aA c).trans (Below.mono (show Below wr.heap.size wr w2 from⟨a.os,a.tape,a.output,a.size,a.block⟩) N));clear a K c u v z A B C D E F G)
     all_goals
      go_wp2
      go_roundg (l.length - (k+1))
      case measure=>omega
      case rel=>exact⟨k+1,by omega,rfl,by simp,a0,HN⟩
   have e1:decide ((k:Int)<(l.length:Int))=false:=by simp;omega
   have ab:decide ((k:Int)<(m.length:Int))=false:=by simp;omega
   have hfin:=aA o;rw[List.drop_of_length_le (by omega:l.length≤k),List.drop_of_length_le (by omega:m.length≤k)]at hfin;have H:d=true:=hfin;clear q r o X hfin;subst H;go_wp2_with fail
   go_ret;exact⟨rfl,aA c⟩
 have e0:((l.length:Int) !=(m.length:Int))=true:=by simp;omega
 have H:d=false:=by rw[b];exact xu f
 clear b;subst H;go_enter func119,ntmps119
 go_wp2_with fail
 go_ret;exact⟨rfl,Below.refl _ _⟩
end Go.Proofs.YtmgfijllcdadgaaGreatDoor.U
namespace Go.Proofs.YtmgfijllcdadgaaGreatDoor
open Mk (St Bs Ev aD)
def chars(l:Bs):Nat:=l.countP fun x=>x<128||191<x
def Nb(t:Int)(a:aD):Prop:=(a.name.length:Int)≤t∧(chars a.val:Int)≤t
def Names(l:List aD):List Bs:=l.map (·.name)
structure V(s:St):Prop where
 on:s.on=false
 cn:s.cnt=[]
 ct:(s.state=7∨s.state=8∨s.state=11∨s.state=12∨s.state=14∨s.state=17)→s.count=chars s.token∧s.count≤s.ot
 tn:s.state=14→(s.token.length:Int)≤s.ot
 nP:∀a∈s.aC,Nb s.ot a
 xZ:(Names s.aC).Nodup
 Ph:(s.aC.length:Int)≤s.oa
 an:(s.state=15∨s.state=16∨s.state=17)→(s.attr.length:Int)≤s.ot∧s.attr∉Names s.aC∧(s.aC.length:Int)<s.oa
 al:s.state=14→(s.aC.length:Int)<s.oa
 nm:(9≤s.state∧s.state≤11)→(s.name.length:Int)≤s.ot
 pc:0<s.pl→s.count+1≤s.ot∨s.state=1∨s.state=2
 rp:Mk.isOpen s.rp=true→s.state=17→s.count+1≤s.ot
structure Sh where
 opn:List Bs
 kQ:Nat
 jT:Nat
 tok:Nat
 out:Nat
 pt:Bool
variable {d a t:Int}
end Go.Proofs.YtmgfijllcdadgaaGreatDoor
namespace Go.Proofs.YtmgfijllcdadgaaGreatDoor
open Mk (St Bs Ev aD)
variable {d:List (Bs×Bs)}{a:List Nat}{t:List Ev}
end Go.Proofs.YtmgfijllcdadgaaGreatDoor
namespace Go.Proofs.YtmgfijllcdadgaaGreatDoor
open Mk (St Bs Ev aD)
variable {d a t:Int}
end Go.Proofs.YtmgfijllcdadgaaGreatDoor
namespace Go.Proofs.YtmgfijllcdadgaaGreatDoor
open Mk (St Bs Ev aD)
variable {d a t:Int}
end Go.Proofs.YtmgfijllcdadgaaGreatDoor
namespace Go.Proofs.YtmgfijllcdadgaaGreatDoor
open Mk (St Bs Ev aD)
variable {d a t:Int}
end Go.Proofs.YtmgfijllcdadgaaGreatDoor
namespace Go.Proofs.YtmgfijllcdadgaaGreatDoor
open Mk (St Bs Ev aD)
open Mk (jm)
def jI(b:UInt8):Bs:=if b=60 then[38,108,116,59]else if b=62 then[38,103,116,59]else if b=38 then[38,97,109,112,59]else if b=13 then[38,35,49,51,59]else[]
def kz(b:UInt8):Bs:=if b=34 then[38,113,117,111,116,59]else if b=9 then[38,35,57,59]else if b=10 then[38,35,49,48,59]else jI b
def either(b:UInt8)(r:Bs):Bs:=if r=[]then[b]else r
def iI(v:Bs):Bs:=v.flatMap fun b=>either b (jI b)
def iJ(v:Bs):Bs:=v.flatMap fun b=>either b (kz b)
def gh(n v:Bs):Bs:=32::n++[61,34]++iJ v++[34]
def iZ(p:Bs):Bs:=if p=[]then jm else jm++[58]++p
def jX(e:Ev)(bs:List Ev):Bs:=60::e.name++bs.flatMap (fun b=>gh (iZ b.name) b.val)++e.aC.flatMap (fun a=>gh a.name a.val)++[62]
def iK(e:Ev):Bs:=
 if e.kind=2 then[60,47]++e.name++[62]
 else if e.kind=3 then iI e.val
 else if e.kind=4 then[60,33,45,45]++e.val++[45,45,62]
 else if e.kind=5 then[60,63]++e.name++(if e.val=[]then[]else 32::e.val)++[63,62]
 else[]
def jk(bs:List Ev):List Ev→Bs
 |[]=>[]
 |e::r=>if e.kind=6 then jk (bs++[e]) r else if e.kind=1 then jX e bs++jk [] r else iK e++jk [] r
def fo(l:List Ev):Bs:=jk [] l
structure Vv where
 od:Int
 oa:Int
 ot:Int
 st:Int
 op:List Bs
 ov:Bool
 tk:Bs
 ct:Int
 nm:Bs
 an:Bs
 ats:List aD
 hd:Bs
 li:List Ev
 tx:Bs
 qt:Int
 mt:Int
 pt:Option (Int×Int)
 rf:Option Mk.Rf
def Nc(s:St):Option (Int×Int)→Prop
 |none=>s.pl=0
 |some p=>s.pc=p.1∧s.pl=p.2∧0<p.2
def Nf(s:St):Option Mk.Rf→Prop
 |none=>Mk.isOpen s.rp=false
 |some r=>s.rp=r.place∧s.rn=r.name∧s.rc=r.code∧Mk.isOpen r.place=true
structure Is(s:St)(v:Vv):Prop where
 en:s.ended=0
 rt:s.ret=false
 on:s.on=false
 cn:s.cnt=[]
 od:s.od=v.od
 oa:s.oa=v.oa
 ot:s.ot=v.ot
 st:s.state=v.st
 op:s.opn=v.op
 ov:s.over=v.ov
 tk:s.token=v.tk
 ct:s.count=v.ct
 nm:s.name=v.nm
 an:s.attr=v.an
 ats:s.aC=v.ats
 hd:s.held=v.hd
 li:s.list=v.li
 tx:s.text=v.tx
 qt:s.quote=v.qt
 mt:s.matched=v.mt
 pt:Nc s v.pt
 rf:Nf s v.rf
def Quiet(v:Vv):Prop:=v.pt=none∧v.rf=none
def inT(v:Vv):Bool:=v.st==1||v.st==2
def pv(v:Vv)(c:Int):Vv:=if inT v then{v with tx:=v.tx++Mk.encode c}else{v with tk:=v.tk++Mk.encode c,ct:=v.ct+1}
theorem Ng(a b:Bs):iI (a++b)=iI a++iI b:=List.flatMap_append
theorem Nh(a b:Bs):iJ (a++b)=iJ a++iJ b:=List.flatMap_append
variable {d a t:Int}{o:List Bs}{ov:Bool}{li:List Ev}{tx:Bs}{q m:Int}
end Go.Proofs.YtmgfijllcdadgaaGreatDoor
namespace Go.Proofs.YtmgfijllcdadgaaGreatDoor
open Mk (St Bs Ev aD)
end Go.Proofs.YtmgfijllcdadgaaGreatDoor
