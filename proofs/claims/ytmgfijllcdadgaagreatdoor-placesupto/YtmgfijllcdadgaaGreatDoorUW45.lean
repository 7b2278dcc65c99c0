import Derived.Test.YtmgfijllcdadgaaGreatDoorUW44
set_option linter.all false
set_option maxHeartbeats 8000000
set_option maxRecDepth 100000
namespace Go.Proofs.YtmgfijllcdadgaaGreatDoor
namespace U
open Go.RowKit
open V
open V Q
open Go.ChangeShapes Go.WideShapes Go.ChangeAt Go.RowKit Go.Deep
open List
open Go.Proofs.Tryz
open Rf hiding R aU
open Mk hiding Rf rest
variable {K n:Nat}{v:Value}{w:World}{c:Int}{p:Pl}
section
variable {w:World}{O:Nat->Nat×Nat}{b:Nat}{pl:List (Pl×PA)}{hl:List HA}{pa ha:Option Addr}{pc hc:Nat}
def SN(o:eU){m:Nat}(h:0<m):vS o.n m=((lS o m:Nat):Int):=by
 have:=Qa o.n m (by omega);unfold lS;omega
def agI(h:WI w O b pl hl pa pc ha hc)(o:eU)(v:Value)(hv:∃a n c,v=.slice a n c)(n0: -9223372036854775808<=o.n)(n1:o.n<=9223372036854775807)(a8:∀p∈pl,jA K p.1)(hK:K+o.s.length<=7000000)(hG:Gt w O)(hn:hl.length<=15000000000000)(av:pl.length<=1000000000)
 (a9:∀p∈pl,(Rf.aU p.1.od p.1.oa p.1.S p.1.on p.1.aU o.s).A<=(p.1.aU++o.s).length) (k2:2<=o.k) (k7:o.k<=7) (a2:0<pl.length):
 Calls prog 29 #[.pointer (some ⟨b,0,none⟩),.agg #[.int .i64 o.k,.int .i64 o.n,.int .i64 o.od,.int .i64 o.oa,.int .i64 o.S,.bool o.on,.string ⟨o.s.toArray⟩,v]] w λe w' =>e=.returned (.bool (nL (pl.map (·.1)) o))/\g_ w O b (mL (pl.map (·.1)) o) (hl.length+84* (K+o.s.length)+5) w' :=by
 obtain⟨va,vn,vc,rfl⟩:=hv;have r:=jG w (.cells #[.int .i64 o.k,.int .i64 o.n,.int .i64 o.od,.int .i64 o.oa,.int .i64 o.S,.bool o.on,.string ⟨o.s.toArray⟩,.slice va vn vc] 60);obtain⟨t,a1⟩:=aj8 ((w.alloc (.cells #[.int .i64 o.k,.int .i64 o.n,.int .i64 o.od,.int .i64 o.oa,.int .i64 o.S,.bool o.on,.string ⟨o.s.toArray⟩,.slice va vn vc] 60)));rw[<-a1]at r;have y:=zU o a2;have i:=h.below r;have aa:=hG.ny (eT.of_below (O:=O) (λ_=>False) r) λ_ _ e=>e;have a3:ru (pl.map (·.1)) o=true:=by
  rw[ru,iM,show decide (2<=o.k)=true by simp;omega,show decide (o.k<=7)=true by simp;omega,show decide (0<pl.length)=true by simp;omega];rfl
 have hN:=SL (o:=o) a2;obtain⟨R,d⟩:=aj8 (nL (pl.map (·.1)) o);obtain⟨S,f⟩:=aj8 (mL (pl.map (·.1)) o);rw[<-d,<-f];unfold nL at d;unfold mL at f;rw[M,J a3,hN]at d;rw[M,J a3,hN,iM]at f;have a4:=Y λW=>Qc o.n pl.length n0 n1 (by omega) (by omega) W;rw[SN o a2]at a4;have a0:pl[lS o pl.length]∈pl:=iZ y;have hk:=a8 _ a0;obtain⟨g,ak,al,ab⟩:=xO i.pr y;rw[show(qD pl)[lS o pl.length]?=some (.pointer (some ⟨pl[lS o pl.length].2.xb,0,none⟩)) by simp[qD,y]]at ab;obtain⟨am,an,ao⟩:=bN i.blk;subst ak;have T:=λ(W:World) (z:Below t.heap.size t W)=>aa.ny (eT.of_below (O:=O) (λ_=>False) z) λ_ _ e=>e;have HF:=Y λ(W:World) (z:Below t.heap.size t W)=>IZ (i.below z) y hk o.s hK (T W z) (by omega) (a9 _ a0);have HC:=Y λ(W:World) (z:Below t.heap.size t W)=>Rj (i.below z) y hk (by omega) (T W z);have HA:=Y λ(W:World) (z:Below t.heap.size t W)=>ND ((i.below z).ps _ y).X;have ad:=Y λ(W:World) (z:Below t.heap.size t W)=>adW (i.below z) y hk (by omega) (T W z);have HO:=Y λ(W:World) (z:Below t.heap.size t W)=>adX (i.below z) y hk (by omega) (T W z) (by omega);have HR:=Y λ(W:World) (z:Below t.heap.size t W)=>ad0 (i.below z) y hk (by omega) (T W z) (by omega);have hev:=SF hk.inv o.s;have HW:=Y (ajN h (ajN r i));have a5:=Y λW (z:Below t.heap.size t W)=>((i.below z).ps _ y).blk;unfold ju at a5;have ae:=Y (ajN d f);have ap:=Y hev;clear h r i aa a3 hN d f a0 hk hG a8 a9 T hev;generalize pl[lS o pl.length]=q at *;generalize aq:lS o pl.length=ii at *;clear aq;obtain⟨⟨B,C,D,E,st,aU,x⟩,⟨xb,pb,L⟩⟩:=q;obtain⟨k,n,od,oa,ot,on,s,l⟩:=o;dsimp only at *;obtain⟨a6,af,a7⟩:=bN (dI w (.cells #[.int .i64 k,.int .i64 n,.int .i64 od,.int .i64 oa,.int .i64 ot,.bool on,.string ⟨s.toArray⟩,.slice va vn vc] 60));rw[<-a1]at a6 af a7;have A:Below t.heap.size t t.drew:=⟨rfl,rfl,rfl,a_ _,λ_ _=>rfl⟩;have e1:(k==1)=false:=by simp;omega
 have e2:(k==8)=false:=by simp;omega
 have e3:decide (k<2)=false:=aj9;have e4:decide (7<k)=false:=aj9;have e5:((pl.length:Int)==0)=false:=akc;have e6:(ii:Int)<(pl.length:Int):=by omega
 go_enter func29,ntmps29;have ag:=a1.symm;clear a1;go_wp2_with fail;go_cut [5] λs5 wx=>s5=.pointer (some ⟨xb,0,none⟩)/\wx=t.drew
 case first=>
  go_region_with (go_at_call 46;go_call(a4.u _)as e w2 ⟨rfl,rfl⟩);all_goals
   go_wp2_with fail;go_meet
   exact⟨rfl,rfl⟩
 case rest=>
 obtain⟨rfl,rfl⟩:=hcut;obtain⟨h,r,i⟩:=HW.u;obtain⟨d,f⟩:=ae.u;have ah:Below w.heap.size w t.drew:=⟨r.os,r.tape,r.output,r.size,r.block⟩;have X:=Y ah;have ai:=Y (i.below A);have aj:=a5.u t.drew A;have ar:=Y aj;have aw:∀j,t.drew.cell? ⟨w.heap.size,j,none⟩=(#[.int .i64 k,.int .i64 n,.int .i64 od,.int .i64 oa,.int .i64 ot,.bool on,.string ⟨s.toArray⟩,.slice va vn vc]:Array Value)[j]?:=a6;have ax:w.heap.size<t.drew.heap.size:=a7;have F:=Y (HF.u _ A);have G:=Y (HC.u _ A);have H:=Y (HA.u _ A);have I:=Y (ad.u _ A);have N:=Y (HO.u _ A);have P:=Y (HR.u _ A);clear h r i HW ae aj a5 HF HC HA ad HO HR a6 af a7 am an ao ab al ah a4 ag A;generalize t.drew=wd at *;have au:k=2\/k=3\/k=4\/k=5\/k=6\/k=7:=by omega
 clear e1 e2 e3 e4 k2 k7;obtain rfl|rfl|rfl|rfl|rfl|rfl:=au
 .have ha:R=(jH ⟨B,C,D,E,st,aU,x⟩ s).2:=by rw[d];rfl
  have hp:S=(pl.map (·.1)).set ii (jH ⟨B,C,D,E,st,aU,x⟩ s).1:=by rw[f];rfl
  subst ha hp;have t2:((2:Int)==2)=true:=rfl;clear d f;go_wp2_with fail;go_call F.u as e w9 ⟨rfl,Q⟩;have HQ:=Y (g_.back X.u (g_.agE (m:=hl.length+84* (K+s.length)+5) Q<|by have:=ap.u;omega));clear Q F G H I N P;go_wp2_with fail;go_ret;exact⟨rfl,HQ.u⟩
 .have ha:R=(kD ⟨B,C,D,E,st,aU,x⟩).2:=by rw[d];rfl
  have hp:S=(pl.map (·.1)).set ii (kD ⟨B,C,D,E,st,aU,x⟩).1:=by rw[f];rfl
  subst ha hp;have t2:((3:Int)==2)=false:=rfl;have t3:((3:Int)==3)=true:=rfl;clear d f;go_wp2_with fail;go_call G.u as e w9 ⟨rfl,Q⟩;have HQ:=Y (g_.back X.u (g_.agD (n:=hl.length+84* (K+s.length)+5) Q<|by omega));clear Q F G H I N P;go_wp2_with fail;go_ret;exact⟨rfl,HQ.u⟩
 .have ha:R=(st.A==(aU.length:Int)):=by rw[d];rfl
  have hp:S=pl.map (·.1):=by rw[f];rfl
  subst ha hp;have t2:((4:Int)==2)=false:=rfl;have t3:((4:Int)==3)=false:=rfl;have t4:((4:Int)==4)=true:=rfl;obtain⟨ay,az,b0⟩:=bN ar.u;have HQ:=Y (g_.back X.u (g_.of_below ai.u (Below.refl _ _) (show hl.length<=hl.length+84* (K+s.length)+5 by omega)));clear d f;go_wp2_with fail;go_call H.u as e w9 ⟨rfl,rfl⟩;clear F G H I N P;go_wp2_with fail;go_ret;exact⟨rfl,HQ.u⟩
 .have ha:R=uT ⟨B,C,D,E,st,aU,x⟩:=by rw[d];rfl
  have hp:S=pl.map (·.1):=by rw[f];rfl
  subst ha hp;have t2:((5:Int)==2)=false:=rfl;have t3:((5:Int)==3)=false:=rfl;have t4:((5:Int)==4)=false:=rfl;have t5:((5:Int)==5)=true:=rfl;clear d f;go_wp2_with fail;go_call I.u as e w9 ⟨rfl,Q⟩;have HQ:=Y (g_.back X.u (g_.of_below ai.u Q (show hl.length<=hl.length+84* (K+s.length)+5 by omega)));clear Q F G H I N P;go_wp2_with fail;go_ret;exact⟨rfl,HQ.u⟩
 .have ha:R=uU ⟨B,C,D,E,st,aU,x⟩:=by rw[d];rfl
  have hp:S=pl.map (·.1):=by rw[f];rfl
  subst ha hp;have t2:((6:Int)==2)=false:=rfl;have t3:((6:Int)==3)=false:=rfl;have t4:((6:Int)==4)=false:=rfl;have t5:((6:Int)==5)=false:=rfl;have t6:((6:Int)==6)=true:=rfl;clear d f;go_wp2_with fail;go_call N.u as e w9 ⟨rfl,Q⟩;have HQ:=Y (g_.back X.u (g_.Kh Q (show hl.length+1<=hl.length+84* (K+s.length)+5 by omega)));clear Q F G H I N P;go_wp2_with fail;go_ret;exact⟨rfl,HQ.u⟩
 have ha:R=uV ⟨B,C,D,E,st,aU,x⟩:=by rw[d];rfl
 have hp:S=pl.map (·.1):=by rw[f];rfl
 subst ha hp;have t2:((7:Int)==2)=false:=rfl;have t3:((7:Int)==3)=false:=rfl;have t4:((7:Int)==4)=false:=rfl;have t5:((7:Int)==5)=false:=rfl;have t6:((7:Int)==6)=false:=rfl;clear d f;go_wp2_with fail;go_call P.u as e w9 ⟨rfl,Q⟩;have HQ:=Y (g_.back X.u (g_.Kh Q (show hl.length+1<=hl.length+84* (K+s.length)+5 by omega)));clear Q F G H I N P;go_wp2_with fail;go_ret;exact⟨rfl,HQ.u⟩
end
def yc(b:List Pl)(o:eU)(a:Int):Bool:=if a=2\/o.k=1\/o.k=8\/b.length=0 then true else(oL b o).on==(a==1)
section
variable {w:World}{O:Nat->Nat×Nat}{b:Nat}{pl:List (Pl×PA)}{hl:List HA}{pa ha:Option Addr}{pc hc:Nat}
def g_.more{m:Nat}{i:List Pl}{w' :World}(h:g_ w O b i n w')(p:n<=m):g_ w O b i m w' :=by
 obtain⟨j,a,c,d,e,f,g,k,l,q,o⟩:=h;exact⟨j,a,c,d,e,f,g,k,l,by omega,o⟩
def EH(h:WI w O b pl hl pa pc ha hc)(o:eU){z A:Nat}(u:fL z A w v o.l)(d:x_ o)(q:∀p∈pl,jA K p.1)(B:K+o.s.length<=7000000)(r:Gt w O)(C:hl.length<=15000000000000)(j:pl.length<=1000000000)
 (t:∀p∈pl,(Rf.aU p.1.od p.1.oa p.1.S p.1.on p.1.aU o.s).A<=(p.1.aU++o.s).length):
 Calls prog 29 #[.pointer (some ⟨b,0,none⟩),.agg #[.int .i64 o.k,.int .i64 o.n,.int .i64 o.od,.int .i64 o.oa,.int .i64 o.S,.bool o.on,.string ⟨o.s.toArray⟩,v]] w λe w' =>e=.returned (.bool (nL (pl.map (·.1)) o))/\g_ w O b (mL (pl.map (·.1)) o) (hl.length+84* (K+o.s.length)+o.l.length+5) w' :=by
 have m:∃a n c,v=.slice a n c:=by obtain⟨a,c,m,_⟩:=u.form;exact⟨a,_,c,m⟩
 by_cases x:o.k=1
 .exact(agF h o v m r j x).mono λe w' ⟨f,g⟩=>⟨f,g.more<|by omega⟩
 by_cases y:o.k=8
 .exact(agG h o u d r (by omega) y).mono λe w' ⟨f,g⟩=>⟨f,g.more<|by omega⟩
 cases i:ru (pl.map (·.1)) o with
 |false=>exact(agH h o v m x y i).mono λe w' ⟨f,g⟩=>⟨f,g.more<|by omega⟩
 |true=>
  unfold ru at i;simp at i;exact(agI h o v m d.n0 d.n1 q B r C j t i.1.1 i.1.2 i.2).mono λe w' ⟨f,g⟩=>⟨f,g.more<|by omega⟩
def agJ(h:WI w O b pl hl pa pc ha hc)(o:eU)(v:Value)(hv:∃a n c,v=.slice a n c)(n0: -9223372036854775808<=o.n)(n1:o.n<=9223372036854775807)(r:Int)(a2:pl.length<=1000000000):
 Calls prog 28 #[.pointer (some ⟨b,0,none⟩),.agg #[.int .i64 o.k,.int .i64 o.n,.int .i64 o.od,.int .i64 o.oa,.int .i64 o.S,.bool o.on,.string ⟨o.s.toArray⟩,v],.int .i64 r] w λe w' =>e=.returned (.bool (yc (pl.map (·.1)) o r))/\Below w.heap.size w w' :=by
 obtain⟨va,vn,vc,rfl⟩:=hv;obtain⟨B,y⟩:=aj8 (w.alloc (.cells #[.int .i64 o.k,.int .i64 o.n,.int .i64 o.od,.int .i64 o.oa,.int .i64 o.S,.bool o.on,.string ⟨o.s.toArray⟩,.slice va vn vc] 60));have C:Below w.heap.size w B:=by rw[y];exact jG w _
 have z:=h.below C;obtain⟨a3,d⟩:=aj8 (yc (pl.map (·.1)) o r);rw[<-d];rw[yc,iM]at d;obtain⟨a4,a5,a6⟩:=bN z.blk;have I:=Y C;have i:0<pl.length->∃g,pa=some ⟨g,0,none⟩/\g<B.heap.size/\B.cell? ⟨g,lS o pl.length,none⟩=some (.pointer (some ⟨(pl.getD (lS o pl.length) (xZ,⟨0,0,L0 0⟩)).2.xb,0,none⟩))/\B.heap[(pl.getD (lS o pl.length) (xZ,⟨0,0,L0 0⟩)).2.xb]?=some (.cells (ju (oL (pl.map (·.1)) o) (pl.getD (lS o pl.length) (xZ,⟨0,0,L0 0⟩)).2.pb) 57 (0,0)):=λf=>by
  have A:=zU o f;obtain⟨g,Q,K,L⟩:=xO z.pr A;rw[SL f];have e9:pl.getD (lS o pl.length) (xZ,⟨0,0,L0 0⟩)=pl[lS o pl.length]:=by simp[List.getD,A]
  rw[e9];exact⟨g,Q,K,by rw[L];simp[qD,A],(z.ps _ A).blk⟩
 have t:=Y λ(f:0<pl.length) (W:World)=>(Qc o.n pl.length n0 n1 (by omega) (by omega) W);have j:=λ(f:0<pl.length)=>SN o f;have m:=λ(f:0<pl.length)=>zU o f;obtain⟨k,n,E,F,G,H,s,l⟩:=o;dsimp only at *;obtain⟨R,S,T⟩:=bN (dI w (.cells #[.int .i64 k,.int .i64 n,.int .i64 E,.int .i64 F,.int .i64 G,.bool H,.string ⟨s.toArray⟩,.slice va vn vc] 60));rw[<-y]at R S T;have a1:=y.symm;clear y z h C;by_cases ha:r=2
 .have t1:=aka ha;rw[J (.inl ha)]at d;subst d;clear ha i t j m;go_enter func28,ntmps28;go_wp2_with fail;go_ret;exact⟨rfl,I.u⟩
 have t1:=aj7 ha;by_cases D:k=1
 .have t2:=aka D;rw[J (.inr (.inl D))]at d;subst d;clear ha D i t j m;go_enter func28,ntmps28;go_wp2_with fail;go_ret;exact⟨rfl,I.u⟩
 have t2:=aj7 D;by_cases x:k=8
 .have t3:=aka x;rw[J (.inr (.inr (.inl x)))]at d;subst d;clear ha D x i t j m;go_enter func28,ntmps28;go_wp2_with fail;go_ret;exact⟨rfl,I.u⟩
 have t3:=aj7 x;by_cases hd:pl.length=0
 .have t4:((pl.length:Int)==0)=true:=by rw[hd];rfl
  rw[J (.inr (.inr (.inr hd)))]at d;subst d;clear ha D x hd i t j m;go_enter func28,ntmps28;go_wp2_with fail;go_ret;exact⟨rfl,I.u⟩
 have t4:((pl.length:Int)==0)=false:=akc;rw[M<|by rintro(q|q|q|q)<;>contradiction]at d;have f:0<pl.length:=by omega
 obtain⟨g,rfl,K,L,N⟩:=i f;have HP:=Y (t.u f);rw[j f]at HP;have e6:=m f;have e7:((lS ⟨k,n,E,F,G,H,s,l⟩ pl.length:Nat):Int)<(pl.length:Int):=by omega
 have a7:Below B.heap.size B B.drew:=⟨rfl,rfl,rfl,a_ _,λ_ _=>rfl⟩;obtain⟨X,a8,a9⟩:=bN N;unfold ju at X;clear ha D x hd i t j m N;generalize(pl.getD (lS ⟨k,n,E,F,G,H,s,l⟩ pl.length) (xZ,⟨0,0,L0 0⟩)).2.xb=xb at *;generalize(pl.getD (lS ⟨k,n,E,F,G,H,s,l⟩ pl.length) (xZ,⟨0,0,L0 0⟩)).2.pb=pb at *;generalize lS ⟨k,n,E,F,G,H,s,l⟩ pl.length=ii at *;generalize oL (pl.map (·.1)) ⟨k,n,E,F,G,H,s,l⟩=p at *;have a0:=Y d;clear d;go_enter func28,ntmps28;go_wp2_with fail;go_cut [7] λs7 wx=>s7=.pointer (some ⟨xb,0,none⟩)/\wx=B.drew
 case first=>
  go_region_with (go_at_call 46;go_call(HP.u _)as e w2 ⟨rfl,rfl⟩);all_goals
   go_wp2_with fail;go_meet
   exact⟨rfl,rfl⟩
 case rest=>
 obtain⟨rfl,rfl⟩:=hcut;have hf:=a0.u;subst hf;go_wp2_with fail;go_ret;have P:=I.u;exact⟨rfl,⟨P.os,P.tape,P.output,P.size,P.block⟩⟩
end
structure wG(w:World)(v:Value)(ops:List eU):Prop where
 form:∃a c,v=.slice a ops.length c/\∀i (hi:i<ops.length),∃g o va,a=some ⟨g,o,none⟩/\g<w.heap.size/\(∀j,j<8->w.cell? ⟨g,o+i*8+j,none⟩=(zV ops[i] va)[j]?)/\fL 0 w.heap.size w va ops[i].l
 len:ops.length<=9223372036854775807
def kX:List eU->Nat
 |[]=>0
 |o::r=>o.s.length+kX r
def Ki(l:List eU)(i:Nat)(h:i<l.length):kX (l.take (i+1))=kX (l.take i)+l[i].s.length:=by
 induction l generalizing i with
 |nil=>cases h
 |cons o r ih=>
  cases i with
  |zero=>simp[kX]
  |succ i=>simp only[oq,kX,ih i<|by simpa using h,CO];omega
def SQ(l:List eU)(i:Nat):kX (l.take i)<=kX l:=by
 induction l generalizing i with
 |nil=>simp[kX]
 |cons o r ih=>
  cases i with
  |zero=>simp[kX]
  |succ i=>have:=ih i;simp only[oq,kX];omega
def agK{b:List eU}(h:wG w v b)(l:kX b<=100000000):
 Calls prog 27 #[v] w λe w' =>e=.returned (.bool true)/\Below w.heap.size w w' :=by
 obtain⟨a,c,y,q⟩:=h.form;subst y;have r:=Y q;have G:=h.len;have z:=Y l;clear h q l;go_enter func27,ntmps27;go_wp2_with fail;go_loopg [3,4] b.length (λg A B C=>∃i:Nat,i<=b.length/\g=b.length - i/\A=.int .i64 (kX (b.take i):Int)/\B=.int .i64 i/\Hid (Below w.heap.size w C));case atStart=>exact⟨0,dO _,rfl,by simp[kX],rfl,Y (Below.refl _ _)⟩
 case round=>
  obtain⟨i,D,rfl,rfl,rfl,m⟩:=hrel;by_cases d:i<b.length
  .have E:decide ((i:Int)<(b.length:Int))=true:=aj_;have H:(i:Int)<(b.length:Int):=by omega
   obtain⟨g,o,I,rfl,f,j,-⟩:=r.u i d;have t:=j 6 (by decide);rw[<-mG (m.u.block g f)]at t;simp[zV]at t;have x:g<wr.heap.size:=i_ f m.u.size;have k:=Ki b i d;have n:=SQ b (i+1);have l:=z.u;have F:decide (1099511627776 - (kX (b.take i):Int)<(b[i].s.length:Int))=false:=aj9;have K:kX (b.take i)<=100000000:=by omega
   have L:b[i].s.length<=100000000:=by omega
   have p:=Y k;clear k n l j r;generalize b[i]=N at *;generalize kX (b.take i)=O at *;go_wp2_with fail;go_roundg (b.length - (i+1));case measure=>omega
   case rel=>exact⟨i+1,by omega,rfl,by rw[p.u];simp,by simp,m⟩
  have E:decide ((i:Int)<(b.length:Int))=false:=aj9;have F:decide (i<b.length)=false:=aj9;go_wp2_with fail;go_ret;exact⟨rfl,m.u⟩
def kN(ops:List eU)(i:Nat):List Pl:=(ops.take i).foldl mL []
def E_(ops:List eU)(i:Nat)(h:i<ops.length):kN ops (i+1)=mL (kN ops i) ops[i]:=by
 unfold kN;rw[qM,l_ h,foldl_append];rfl
def agL(a:List Pl)(o:eU):(mL a o).length<=a.length+1:=by
 unfold mL;repeat' split
 all_goals simp
def SR(ops:List eU):∀i,i<=ops.length->(kN ops i).length<=i
 |0,_=>by simp[kN]
 |i+1,h=>by
  rw[E_ ops i<|by omega];have a:=agL (kN ops i) ops[i];have b:=SR ops i (by omega);omega
def zW(b c a:Int)(d:List Pl)(o:eU):Bool:=yc d o a&&decide (b<=o.k)&&decide (o.k<=c)
structure PI(w:World)(b:Nat)(ops:List eU)(i:Nat)(wx:World)(O:Nat->Nat×Nat)(pl:List (Pl×PA))(hl:List HA)(pa:Option Addr)(pc:Nat)(ha:Option Addr)(hc:Nat):Prop where
 wi:WI wx O b pl hl pa pc ha hc
 ps:pl.map (·.1)=kN ops i
 len:hl.length<=i*100000000
 gt:Gt wx O
 lo:∀k,k<w.heap.size->O k=fr
 cH:Below w.heap.size w wx
section
variable {w:World}{b:Nat}{ops:List eU}{i:Nat}{wx:World}{O:Nat->Nat×Nat}{pl:List (Pl×PA)}{hl:List HA}{pa ha:Option Addr}{pc hc:Nat}
def PI.below{W:World}(h:PI w b ops i wx O pl hl pa pc ha hc)(a:Below wx.heap.size wx W):PI w b ops i W O pl hl pa pc ha hc:=
 ⟨h.wi.below a,h.ps,h.len,h.gt.ny (eT.of_below (O:=O) (λ_=>False) a) λ_ _ e=>e,h.lo,h.cH.trans (a.mono h.cH.size)⟩
def WI.init(a:World):WI (a.alloc (.cells #[.slice none 0 0,.slice none 0 0] 52)) (λk=>if k=a.heap.size then(0,0)else fr) a.heap.size [] [] none 0 none 0:=
 ⟨dI a _,by simp,lq _ _ _ _,λk q=>aj6 q mH,lq _ _ _ _,λk q=>aj6 q mH,λi b=>(by cases b),λj c=>(by cases c),λk q=>M λe=>(by simp at q;omega)⟩
def agM{i h f s l F:Nat}(a:h<=i*100000000)(c:f+s<=F)(d:l<=1048576)(g:F<=1100000):h+84* (f+s)+l+5<=(i+1)*100000000:=by
 have e:(i+1)*100000000=i*100000000+100000000:=yE i 100000000;rw[e];have b:h+(84* (f+s)+l+5)<=i*100000000+100000000:=Nat.add_le_add a (by omega);rwa[<-AL,<-AL]at b
def PI.next{w2:World}(h:PI w b ops i wx O pl hl pa pc ha hc)(r:i<ops.length)(s:g_ wx O b (mL (pl.map (·.1)) ops[i]) n w2)(y:n<=(i+1)*100000000):
 (∃m a c d f g j,PI w b ops (i+1) w2 m a c d f g j)/\∀k,k<wx.heap.size->O k=fr->w2.heap[k]?=wx.heap[k]?:=by
 obtain⟨m,a,c,d,f,g,j,t,u,z,l⟩:=s;have o:=h.cH.size;have p:∀k,k<wx.heap.size->O k=fr->w2.heap[k]?=wx.heap[k]?:=λk v x=>l.ch.block k v λe=>by
  obtain e|e:=e
  .exact e x
  exact e
 refine⟨⟨m,a,c,d,f,g,j,t,by rw[u,h.ps,E_ ops i r],by omega,h.gt.ny l λ_ _ e=>e,λk q=>l.tag k (by omega) (h.lo k q) λe=>e,?_⟩,p⟩;exact⟨l.ch.os.trans h.cH.os,l.ch.tape.trans h.cH.tape,l.ch.output.trans h.cH.output,cL o l.ch.size,λk q=>(p k (by omega) (h.lo k q)).trans (h.cH.block k q)⟩
end
def agN{ops:List eU}(B F m:Int)(h:wG w v ops)(hO:∀o∈ops,x_ o)(hI:∀i,i<=ops.length->∀p∈kN ops i,jA (kX (ops.take i)) p)
 (hT:∀i (F:i<ops.length),∀p∈kN ops i,(Rf.aU p.od p.oa p.S p.on p.aU ops[i].s).A<=(p.aU++ops[i].s).length)
 (hA:∀i (ba:i<ops.length),(zW B F m (kN ops i) ops[i]=true\/ops[i].k=1)->nL (kN ops i) ops[i]=true) (hF:kX ops<=1100000) (hL:ops.length<=131072) (ad:Gl w) (ae:gQ w) (hs:2<w.heap.size):
 Calls prog 16 #[v,.int .i64 B,.int .i64 F,.int .i64 m] w λe w' =>e=.returned (.bool true)/\Below w.heap.size w w' :=by
 have HS:=Y (agK h<|by omega);obtain⟨a,c,hv,hf⟩:=h.form;subst hv;have HF:=Y hf;have HP:=Y (ajN hO (ajN hI (ajN hT hA)));have HG:=Y (ajN ad ae);clear h hf hO hI hT hA ad ae;go_enter func16,ntmps16;go_wp2_with fail;go_call HS.u as e w1 ⟨rfl,L⟩;have N:=L.size;have af:Hid (∃O pl hl pa pc ha hc,PI w w1.heap.size ops 0 (w1.alloc (.cells #[.slice none 0 0,.slice none 0 0] 52)) O pl hl pa pc ha hc):=Y ⟨_,[],[],none,0,none,0,WI.init w1,rfl,by simp,⟨HG.u.1.below hs (L.alloc N _),HG.u.2.below (L.alloc N _),by simp;omega,λk q=>M⟩,λk q=>M,L.alloc N _⟩;have bb:w1.heap.size<(w1.alloc (.cells #[.slice none 0 0,.slice none 0 0] 52)).heap.size:=by simp
 clear L HS;go_wp2_with fail;generalize w1.heap.size=b at *;go_loopg [11] ops.length (λg sx wx=>∃i:Nat,i<=ops.length/\g=ops.length - i/\sx=.int .i64 i/\Hid (∃O pl hl pa pc ha hc,PI w b ops i wx O pl hl pa pc ha hc));case atStart=>exact⟨0,dO _,rfl,rfl,af⟩
 case round=>
  obtain⟨i,ag,rfl,rfl,HJ⟩:=hrel;clear af;by_cases G:i<ops.length
  .have e1:decide ((i:Int)<(ops.length:Int))=true:=aj_;have e2:(i:Int)<(ops.length:Int):=by omega
   obtain⟨O,pl,hl,pa,pc,ha,hc,z⟩:=HJ.u;obtain⟨g,o,va,rfl,ah,r,a7⟩:=HF.u i G;have p0:=r 0 (by decide);have p1:=r 1 (by decide);have p2:=r 2 (by decide);have p3:=r 3 (by decide);have p4:=r 4 (by decide);have p5:=r 5 (by decide);have p6:=r 6 (by decide);have p7:=r 7 (by decide);rw[<-mG (z.cH.block g ah)]at p0 p1 p2 p3 p4 p5 p6 p7;simp[zV]at p0 p1 p2 p3 p4 p5 p6 p7;have b9:g<wr.heap.size:=i_ ah z.cH.size;have P:=HP.u.1 ops[i] (iZ G);obtain⟨ax,ay,ai,-⟩:=a7.form;have aj:∃a n c,va=.slice a n c:=⟨_,_,_,ai⟩;have bc:pl.length<=131072:=by have h1:=SR ops i ag;rw[<-z.ps,iM]at h1;omega
   have a8:=SQ ops (i+1);rw[Ki ops i G]at a8;have ak:∀p∈pl,jA (kX (ops.take i)) p.1:=λp hp=>HP.u.2.1 i ag p.1 (by rw[<-z.ps];exact rZ hp);have al:=λp (hp:p∈pl)=>HP.u.2.2.1 i G p.1 (by rw[<-z.ps];exact rZ hp);have az:hl.length<=13107200000000:=by have:=z.len;exact cL this (oO 100000000 (show i<=131072 by omega))
   have am:=Y λ(W:World) (Q:Below wr.heap.size wr W)=>agJ (z.wi.below Q) ops[i] va aj P.n0 P.n1 m (by omega);have an:=Y λ(W:World) (Q:Below wr.heap.size wr W)=>EH (z.wi.below Q) ops[i] ((a7.below z.cH).below Q) P ak (by omega) (z.below Q).gt (by omega) (by omega) al;have ao:=Y λ(W w2:World) (Q:Below wr.heap.size wr W) hs=>(z.below Q).next (w2:=w2) G hs (agM z.len a8 P.ln hF);have C:=HP.u.2.2.2 i G;rw[<-z.ps]at C;have b0:=Y (adV ops[i].od ops[i].oa ops[i].S ops[i].on);have bd:=(z.wi.old (k:=b)<|by rw[z.wi.ob];exact lz);have ap:=Y z.wi.nw;unfold zW at C;have R:=Y C;subst ai;clear r a7 P aj ak al C z HJ a8 az;generalize b1:yc (pl.map (·.1)) ops[i] m=D at *;generalize S:nL (pl.map (·.1)) ops[i]=sp at *;clear b1 S;generalize b2:ops[i]=X at *;clear b2;obtain⟨k,n,od,oa,ot,on,s,l⟩:=X;dsimp only at *;have HW1:=Y (am.u _ (jG wr (.cells #[.int .i64 k,.int .i64 n,.int .i64 od,.int .i64 oa,.int .i64 ot,.bool on,.string ⟨s.toArray⟩,.slice ax l.length ay] 60)));clear am;go_wp2_with fail;go_call HW1.u as e w2 ⟨rfl,aq⟩;obtain⟨a9,ar⟩:=vX aq;obtain⟨a2,a3,I⟩:=bN a9;have K:=Y (ajN ar a9);clear aq ar a9 HW1 p0 p1 p2 p3 p4 p5 p6 p7;have a4:=Y (an.u w2 K.u.1);have E:=Y λw3 hs=>ao.u w2 w3 K.u.1 hs;have a6:O wr.heap.size=fr:=ap.u _ (a_ _);have a5:=Y a6;clear an ao ap a6 HP;have au:(D=false/\(D&&decide (B<=k)&&decide (k<=F))=false)\/(D=true/\decide (B<=k)=false/\(D&&decide (B<=k)&&decide (k<=F))=false)\/(D=true/\decide (B<=k)=true/\decide (k<=F)=false/\(D&&decide (B<=k)&&decide (k<=F))=false)\/(D=true/\decide (B<=k)=true/\decide (k<=F)=true/\(D&&decide (B<=k)&&decide (k<=F))=true):=by
    cases D<;>cases decide (B<=k)<;>cases decide (k<=F)<;>simp
   generalize hH:(D&&decide (B<=k)&&decide (k<=F))=H at *;clear hH;have av:(H=false/\((D=false)\/(D=true/\decide (B<=k)=false)\/(D=true/\decide (B<=k)=true/\decide (k<=F)=false)))\/(H=true/\D=true/\decide (B<=k)=true/\decide (k<=F)=true):=by
    obtain⟨a,b⟩|⟨a,b,c⟩|⟨a,b,c,d⟩|⟨a,b,c,d⟩:=au
    .exact .inl ⟨b,.inl a⟩
    .exact .inl ⟨c,.inr (.inl ⟨a,b⟩)⟩
    .exact .inl ⟨d,.inr (.inr ⟨a,b,c⟩)⟩
    exact .inr ⟨d,a,b,c⟩
   clear au;obtain⟨rfl,aw⟩|⟨rfl,rfl,q1,q2⟩:=av
   .rcases aw with rfl|⟨rfl,q1⟩|⟨rfl,q1,q2⟩;all_goals
     go_wp2_with fail;go_call a4.u as e w3 ⟨rfl,T⟩;obtain⟨aa,a0⟩:=E.u w3 T;have a1:=(a0 wr.heap.size I a5.u).trans K.u.2;clear T a0 E a4 K a2 a3 I a5;obtain⟨O3,b3,b4,b5,b6,b7,b8,t⟩:=aa;have x:=Y λ(W:World) (Q:Below w3.heap.size w3 W)=>Qe (t.wi.below Q) (by have h9:=t.len;exact cL h9 (cL (oO 100000000 (show i+1<=131073 by omega)) (by decide)));have y:=Y t;obtain⟨a2,a3,I⟩:=bN a1;clear t a1;by_cases j:k=1
     .have S:=R.u (.inr j);subst S;have t1:=aka j;clear R j;go_wp2_with fail;go_call(x.u _ (Below.refl _ _))as e w5 ⟨rfl,f⟩;have A:=Y (y.u.below (f));clear f x y;go_wp2_with fail;go_roundg (ops.length - (i+1));case measure=>omega
      case rel=>exact⟨i+1,by omega,rfl,by simp,Y ⟨_,_,_,_,_,_,_,A.u⟩⟩
     have t1:=aj7 j;clear R j;cases sp;all_goals
      go_wp2_with fail;go_call(x.u _ (Below.refl _ _))as e w5 ⟨rfl,f⟩;have A:=Y (y.u.below (f));clear f x y;go_wp2_with fail;go_roundg (ops.length - (i+1));case measure=>omega
      case rel=>exact⟨i+1,by omega,rfl,by simp,Y ⟨_,_,_,_,_,_,_,A.u⟩⟩
   have S:=R.u (.inl rfl);subst S;clear R;go_wp2_with fail;go_call a4.u as e w3 ⟨rfl,T⟩;obtain⟨aa,a0⟩:=E.u w3 T;have a1:=(a0 wr.heap.size I a5.u).trans K.u.2;clear T a0 E a4 K a2 a3 I a5;obtain⟨O3,b3,b4,b5,b6,b7,b8,t⟩:=aa;have x:=Y λ(W:World) (Q:Below w3.heap.size w3 W)=>Qe (t.wi.below Q) (by have h9:=t.len;exact cL h9 (cL (oO 100000000 (show i+1<=131073 by omega)) (by decide)));have y:=Y t;obtain⟨a2,a3,I⟩:=bN a1;clear t a1;by_cases j:k=1
   .have t1:=aka j;clear j;go_wp2_with fail;go_call(b0.u _)as e w4 ⟨rfl,ab⟩;go_wp2_with fail;go_call(x.u _ ab)as e w5 ⟨rfl,f⟩;have A:=Y (y.u.below (ab.trans (f.mono ab.size)));clear f x y;go_wp2_with fail;go_roundg (ops.length - (i+1));case measure=>omega
    case rel=>exact⟨i+1,by omega,rfl,by simp,Y ⟨_,_,_,_,_,_,_,A.u⟩⟩
   have t1:=aj7 j;clear j;go_wp2_with fail;go_call(x.u _ (Below.refl _ _))as e w5 ⟨rfl,f⟩;have A:=Y (y.u.below (f));clear f x y;go_wp2_with fail;go_roundg (ops.length - (i+1));case measure=>omega
   case rel=>exact⟨i+1,by omega,rfl,by simp,Y ⟨_,_,_,_,_,_,_,A.u⟩⟩
  have e1:decide ((i:Int)<(ops.length:Int))=false:=aj9;have e3:decide (i<ops.length)=false:=aj9;go_wp2_with fail;go_ret;obtain⟨O,pl,hl,pa,pc,ha,hc,h9⟩:=HJ.u;exact⟨rfl,h9.cH⟩
def jA.make{a b:Int}(d:Bool)(h:lG a b c=true):jA 0 (kV a b c d):=by
 obtain⟨f,g,k,e,i,j⟩:=BL h;exact⟨f,g,k,e,i,j,NH a b c d e,vq _,vq _,a_ _,λ_=>BO a b c d f i e,g,j⟩
def agO:(kD (kV 1 0 8 false)).2=true:=by decide
def agP(p:Gl w)(t:gQ w)(hs:2<w.heap.size):Calls prog 15 #[] w λe w' =>e=.returned (.bool true)/\Below w.heap.size w w' :=by
 have v:=WI.init w;have h:=jG w (.cells #[.slice none 0 0,.slice none 0 0] 52);have x:Gt (w.alloc (.cells #[.slice none 0 0,.slice none 0 0] 52)) (λk=>if k=w.heap.size then(0,0)else fr):=⟨p.below hs h,t.below h,by simp;omega,λk q=>M⟩;have H:=Y (Qq v 1 0 8 false (by simp;omega) (by decide));rw[show lG 1 0 8=true from rfl,J rfl]at H;have m:=Y (ajN x h);clear v x h p t;go_enter func15,ntmps15;go_wp2_with fail;go_call H.u as e j ⟨rfl,hR⟩;obtain⟨T,y,a1,a2,n,l,F⟩:=hR;obtain⟨q,hq,i⟩:∃q,y=[q]/\q.1=kV 1 0 8 false:=by
  generalize kV 1 0 8 false=c at F⊢;cases y with
  |nil=>cases F
  |cons q r=>
   have X:=List.cons.inj F;cases r with
   |nil=>exact⟨q,rfl,X.1⟩
   |cons a b=>cases X.2
 subst hq;have z:=m.u.1.ny l λ_ _ e=>e;have f:0<[q].length:=Nat.zero_lt_one;have G:jA 0 ([q][0]).1:=by rw[show([q][0]).1=q.1 from rfl,i];exact jA.make false rfl
 have A:=Y λ(W:World) (d:Below j.heap.size j W)=>Rj (n.below d) f G (by decide) (z.ny (eT.of_below (O:=T) (λ_=>False) d) λ_ _ e=>e);have I:=Y λ(W:World) (d:Below j.heap.size j W)=>ND ((n.below d).ps 0 f).X;obtain⟨g,K,a3,N⟩:=xO n.pr f;subst K;rw[show(qD [q])[0]?=some (.pointer (some ⟨q.2.xb,0,none⟩))from rfl]at N;obtain⟨a4,a5,a6⟩:=bN n.blk;obtain⟨P,a7,a8⟩:=bN (n.ps 0 f).blk;have HX:=Y (n.ps 0 f).blk;unfold ju at P;have B:Below w.heap.size w j:=⟨l.ch.os.trans m.u.2.os,l.ch.tape.trans m.u.2.tape,l.ch.output.trans m.u.2.output,cL m.u.2.size l.ch.size,λk G=>(l.ch.block k (by simp;omega) λe=>by obtain e|e:=e;exact e (M);exact e).trans (m.u.2.block k G)⟩;have C:∀k,k<w.heap.size->T k=fr:=λk q=>l.tag k (by simp;omega) (M) λe=>e;have Q:=Y C;have D:q.1.s.A=0:=by rw[i];rfl
 have E:(kD [q][0].1).2=true:=by rw[show([q][0]).1=q.1 from rfl,i];exact agO
 rw[E]at A;have a9:([q].length:Int)=1:=rfl;have R:=Y B;clear E B n l F G z H m i C;have aa:Below j.heap.size j j.drew:=⟨rfl,rfl,rfl,a_ _,λ_ _=>rfl⟩;obtain⟨⟨od,oa,ot,on,st,aU,a0⟩,⟨xb,pb,L⟩⟩:=q;dsimp only at *;simp only[cT,fB,wR]at *;go_wp2_with fail;go_call(I.u _ (Below.refl _ _))as e w2 ⟨rfl,rfl⟩;rw[D];have e0:((0:Int)==0)=true:=rfl;go_wp2_with fail;go_call(A.u _ (Below.refl _ _))as e w3 ⟨rfl,O3,A3,-,o⟩;have d:=R.u;have S:=Y (show Below w.heap.size w w3 from⟨o.ch.os.trans d.os,o.ch.tape.trans d.tape,o.ch.output.trans d.output,cL d.size o.ch.size,λk q=>(o.ch.block k (i_ q d.size) λe=>by obtain e|e:=e;exact e (Q.u k q);exact e).trans (d.block k q)⟩);clear o d;go_wp2_with fail;go_ret;exact⟨rfl,S.u⟩
def jA.mono{K a:Nat}{p:Pl}(h:jA K p)(b:K<=a):jA a p:=
 ⟨h.d1,h.d2,h.a1,h.a2,h.t1,h.t2,h.inv.mono<|by omega,h.jv,by have:=h.tT;omega,by have:=h.fd;omega,h.w,h.sd,h.st⟩
def SS(s:Mk.Z):∃L T,qL s={s with C:=L,F:=T}:=by
 unfold qL bK;split
 .exact⟨_,s.F,rfl⟩
 exact⟨_,_,rfl⟩
def agQ{s:Mk.Z}(h:s.j=0->W s)(l:U):(dM s l).1.j=0->W (dM s l).1:=by
 unfold dM;split
 .rename_i a;obtain⟨L,T,e⟩:=SS (aQ s l);dsimp only;rw[e];intro b;have c:=zL l (h a) b;exact{c with}
 exact h
def agR(s:Mk.Z)(l:U):(dM s l).1.od=s.od/\(dM s l).1.S=s.S:=by
 unfold dM;split
 .obtain⟨L,T,e⟩:=SS (aQ s l);dsimp only;rw[e];exact⟨Yn l s,Yo l s⟩
 exact⟨rfl,rfl⟩
def jA.feed(h:jA K p)(s:U):jA (K+s.length) (jH p s).1:=by
 have g:=Zj h.inv s;have i:=Zl p.s s;have j:=agQ h.w s;have b:=agR p.s s;have k:=h.jv;have l:=h.tT;have m:=h.fd;have e:(jH p s).1.od=p.od/\(jH p s).1.oa=p.oa/\(jH p s).1.S=p.S/\(jH p s).1.s=(dM p.s s).1/\(jH p s).1.aU.length<=p.aU.length+s.length:=by
  unfold jH;split
  .exact⟨rfl,rfl,rfl,rfl,by show((p.aU++s).take _).length<=_;rw[iB,bT];omega⟩
  exact⟨rfl,rfl,rfl,rfl,by show p.aU.length<=_;omega⟩
 obtain⟨c,d,f,a,n⟩:=e;exact⟨by rw[c];exact h.d1,by rw[c];exact h.d2,by rw[d];exact h.a1,by rw[d];exact h.a2,by rw[f];exact h.t1,by rw[f];exact h.t2,by rw[a];exact g.mono (by omega),by rw[a];omega,by rw[a];omega,by omega,by rwa[a],by rw[a,b.1];exact h.sd,by rw[a,b.2];exact h.st⟩
def SU(s:Mk.Z):∃e,(jd s).1={s with j:=e}/\(e=0->s.j=0):=by
 unfold jd;split
 .split
  .exact⟨_,rfl,λh=>by cases h⟩
  exact⟨_,rfl,λh=>by cases h⟩
 exact⟨s.j,rfl,λh=>h⟩
def jA.close(h:jA K p):jA K (kD p).1:=by
 obtain⟨x,hx,b⟩:=SU p.s;have e:(kD p).1.od=p.od/\(kD p).1.oa=p.oa/\(kD p).1.S=p.S/\(kD p).1.s=(jd p.s).1/\(kD p).1.aU=p.aU:=by
  unfold kD;split
  .split<;>exact⟨rfl,rfl,rfl,rfl,rfl⟩
  exact⟨rfl,rfl,rfl,rfl,rfl⟩
 obtain⟨c,d,f,a,g⟩:=e;rw[hx]at a;have i:=h.inv;exact⟨by rw[c];exact h.d1,by rw[c];exact h.d2,by rw[d];exact h.a1,by rw[d];exact h.a2,by rw[f];exact h.t1,by rw[f];exact h.t2,by rw[a];exact{i with},by rw[a];exact h.jv,by rw[a];exact h.tT,by rw[g];exact h.fd,by rw[a];intro j;have k:=h.w (b j);exact{k with},by rw[a];exact h.sd,by rw[a];exact h.st⟩
def Kj{a:List Pl}{o:eU}(h:0<a.length):oL a o∈a:=by
 have:=zU o h;unfold oL;simp[List.getD,this]
def agS{c:List Pl}(h:∀p∈c,jA K p)(o:eU):∀p∈mL c o,jA (K+o.s.length) p:=by
 have b:∀p∈c,jA (K+o.s.length) p:=λp a=>(h p a).mono (by omega);intro p a;unfold mL at a;split at a
 .rcases mem_append.1 a with a|a
  .exact b p a
  split at a
  .rename_i f;rw[mem_singleton.1 a];exact(jA.make o.on f).mono (by omega)
  cases a
 split at a
 .rename_i d;have g:0<c.length:=by unfold ru at d;simp at d;exact d.2
  have e:=h _ (Kj (o:=o) g);split at a
  .rcases AJ a with a|a
   .exact b p a
   rw[a];exact e.feed o.s
  split at a
  .rcases AJ a with a|a
   .exact b p a
   rw[a];exact e.close.mono (by omega)
  exact b p a
 exact b p a
def Cj(a:List eU):∀i,i<=a.length->∀p∈kN a i,jA (kX (a.take i)) p
 |0,_=>λp b=>by simp[kN]at b
 |i+1,h=>by
  rw[E_ a i<|by omega,Ki a i<|by omega];exact agS (Cj a i<|by omega) _
def ag2{d e:Nat}{l:List Ev}(h:fL d e w v l):fL d w.heap.size w v l:=by
 obtain⟨a,c,f,i⟩:=h.form;refine⟨⟨a,c,f,λk b=>?_⟩,h.len⟩;obtain⟨g,o,j,m,n,p,q⟩:=i k b;exact⟨g,o,j,m,n,p,q.high⟩
def wG.below{w w' :World}{v:Value}{b:List eU}(h:wG w v b)(d:Below w.heap.size w w'):wG w' v b:=by
 obtain⟨a,c,e,f⟩:=h.form;refine⟨⟨a,c,e,λi k=>?_⟩,h.len⟩;obtain⟨g,o,l,m,n,p,q⟩:=f i k;have:=d.size;have r:=q.below d;exact⟨g,o,l,m,by omega,λj s=>(by rw[<-p j s];simp only[World.cell?];rw[d.block _ n]),ag2 r⟩
def ag3{a:List eU}(d c b:Int)(h:wG w v a)(j:∀o∈a,x_ o)
 (l:∀i (m:i<a.length),(zW d c b (kN a i) a[i]=true\/a[i].k=1)->nL (kN a i) a[i]=true) (n:kX a<=1100000) (q:a.length<=131072) (f:Gl w) (g:gQ w) (r:2<w.heap.size):
 Calls prog 16 #[v,.int .i64 d,.int .i64 c,.int .i64 b] w λe w' =>e=.returned (.bool true)/\Below w.heap.size w w' :=
 agN d c b h j (Cj a) (λi c p s=>ag1 _ _ _ _ _ _ (Cj a i (by omega) p s).t1) l n q f g r
structure Pb(p:Pl):Prop where
 d1:1<=p.od
 a1:0<=p.oa
 a2:p.oa<=32
 t1:8<=p.S
def jA.pb(h:jA K p):Pb p:=⟨h.d1,h.a1,h.a2,h.t1⟩
def doc(p:Pl)(l:U):Z:=aQ (bB p.od p.oa p.S p.on) l
def bare(s:Z):Z:={s with C:=[],F:=[]}
def Live(p:Pl):Prop:=(doc p p.aU).j=0/\p.s=bare (doc p p.aU)
structure PE(p:Pl):Prop where
 en:p.s.j=p.said
 st:p.said=0->Live p
def FI(s:Z):qL s=bare s:=by
 unfold qL bK bare;split
 .rename_i h;have a:s.F=[]:=length_eq_zero_iff.1 h;show({s with C:=[]}:Z)={s with C:=[],F:=[]};rw[<-a]
 rfl
def UR(f:Pb p)(h:Live p)(a:U):
 ((doc p (p.aU++a)).j=0/\(dM p.s a).1=bare (doc p (p.aU++a))/\(Rf.aU p.od p.oa p.S p.on p.aU a).err=0/\(Rf.aU p.od p.oa p.S p.on p.aU a).A=(p.aU++a).length)\/
 (∃n x,n<(p.aU++a).length/\x=(p.aU++a).getD n 0/\(doc p ((p.aU++a).take n)).j=0/\(aS (bare (doc p ((p.aU++a).take n))) x).j≠0/\(aS (doc p ((p.aU++a).take n)) x).j≠0/\
  (∃L T,aQ p.s a=aS {doc p ((p.aU++a).take n)with C:=L,F:=T} x)/\(Rf.aU p.od p.oa p.S p.on p.aU a).err≠0/\(Rf.aU p.od p.oa p.S p.on p.aU a).A=n+1):=by
 obtain⟨v,g⟩:=h;have i:p.s.j=0:=by rwa[g]
 have j:(Rf.aU p.od p.oa p.S p.on p.aU a).A=(fN p.od p.oa p.S p.on (p.aU++a)).A:=rfl;have k:(Rf.aU p.od p.oa p.S p.on p.aU a).err=(fN p.od p.oa p.S p.on (p.aU++a)).err:=rfl;rw[j,k];obtain⟨b,d,e⟩|⟨n,b,d,e,q,r,t⟩:=yu (on:=p.on) f.d1 f.t1 f.a1 (p.aU++a)
 .left;refine⟨b,?_,by rw[d],by rw[d]⟩;have l:Un (doc p p.aU) a:=e.right;rw[dM,J i];dsimp only;rw[FI,g];unfold bare;rw[l.out [] []];unfold doc;rw[qj]
 right;have m:=CH v e b;refine⟨n,_,b,rfl,d,?_,e,?_,by rwa[q],by rw[q]⟩
 .have:=t [] [];unfold bare doc;rwa[this]
 have u:(p.aU++a).take n=p.aU++a.take (n - p.aU.length):=by
  rw[take_append,nZ m]
 have c:n - p.aU.length<a.length:=by rw[bT]at b;omega
 have w:(p.aU++a).getD n 0=a.getD (n - p.aU.length) 0:=by
  simp[List.getD,pW,show ¬n<p.aU.length by omega]
 have l:Un (doc p p.aU) (a.take (n - p.aU.length)):=by
  rw[u]at r;exact r.right
 have o:a=a.take (n - p.aU.length)++(a.getD (n - p.aU.length) 0::a.drop (n - p.aU.length+1)):=by
  have:=ol (n - p.aU.length) a;rw[gB c]at this;have o:a[n - p.aU.length]=a.getD (n - p.aU.length) 0:=by simp[List.getD,c]
  rw[o]at this;exact this.symm
 have y:aQ (doc p p.aU) (a.take (n - p.aU.length))=doc p ((p.aU++a).take n):=by
  rw[u];unfold doc;rw[qj]
 obtain⟨A,z⟩:=aj8 ((bM ([],[]) (tE (doc p p.aU) (a.take (n - p.aU.length)))).1);obtain⟨B,C⟩:=aj8 ((bM ([],[]) (tE (doc p p.aU) (a.take (n - p.aU.length)))).2);have D:aQ p.s (a.take (n - p.aU.length))={doc p ((p.aU++a).take n)with C:=A,F:=B}:=by
  rw[g];unfold bare;rw[l.out [] [],y,<-z,<-C]
 have E:aQ p.s a=aQ (aQ p.s (a.take (n - p.aU.length))) (a.getD (n - p.aU.length) 0::a.drop (n - p.aU.length+1)):=by rw[<-qj,<-o]
 refine⟨A,B,?_⟩;rw[E,D,<-w];unfold aQ;refine wN _ _ ?_;have:=t A B;unfold doc;rwa[this]
def aiR(b:Pb p)(h:PE p)(a:U):(jH p a).2=true:=by
 unfold jH;split
 .rename_i c;obtain⟨d,e⟩:=h.st c;obtain⟨f,g,_⟩:=Lt (on:=p.on) b.d1 b.t1 b.a1 p.aU a d p.s e;show(lZ _ _&&_==_)=true;rw[f,g,(LB _ _).2 rfl];simp
 rename_i c;have:p.s.j≠0:=by rwa[h.en]
 show(lZ _ _&&_==_)=true;rw[dM,M this];dsimp only;rw[h.en];simp[lZ]
def US(b:Pb p)(h:PE p)(a:U):PE (jH p a).1:=by
 unfold jH;split
 .rename_i f;have c:=h.st f;have d:p.s.j=0:=by rwa[h.en]
  obtain⟨r,i,_⟩:=Lt (on:=p.on) b.d1 b.t1 b.a1 p.aU a c.1 p.s c.2;refine⟨?_,λj=>?_⟩
  .show(dM p.s a).1.j=(Rf.aU p.od p.oa p.S p.on p.aU a).err;rw[i,dM,J d];dsimp only;rw[FI];rfl
  obtain⟨k,l,m,g⟩|⟨n,x,k,l,m,g,t,u,o,v⟩:=UR b c a
  .have e:(p.aU++a).take (Rf.aU p.od p.oa p.S p.on p.aU a).A=p.aU++a:=by rw[g,tv]
   refine⟨?_,?_⟩
   .show(doc p ((p.aU++a).take _)).j=0;rwa[e]
   show(dM p.s a).1=bare (doc p ((p.aU++a).take _));rwa[e]
  exact aj6 j o
 rename_i f;have q:p.s.j≠0:=by rwa[h.en]
 have e:(dM p.s a).1=p.s:=by rw[dM,M q]
 show PE {p with s:=(dM p.s a).1};rwa[e]
def UT(a:Pb p)(h:Live p):(fN p.od p.oa p.S p.on p.aU).whole=fO p.s/\p.s.j=0:=by
 refine⟨?_,by rw[h.2];exact h.1⟩;rw[(Am (on:=p.on) a.d1 a.t1 a.a1 p.aU h.1).2,h.2];rfl
def aiS(b:Pb p)(h:PE p):(kD p).2=true:=by
 unfold kD;split
 .rename_i a;obtain⟨c,d⟩:=UT b (h.st a);rw[c,jd,J d];cases fO p.s<;>rfl
 rename_i a;have:p.s.j≠0:=by rwa[h.en]
 show((jd p.s).2==p.said)=true;rw[jd,M this,h.en];simp
def aiT(c:Pb p)(h:PE p):PE (kD p).1:=by
 unfold kD;split
 .rename_i b;obtain⟨d,f⟩:=UT c (h.st b);rw[d,jd,J f];cases fO p.s
  .exact⟨rfl,λa=>by cases a⟩
  exact⟨rfl,λa=>by cases a⟩
 rename_i b;have g:p.s.j≠0:=by rwa[h.en]
 have e:(jd p.s).1=p.s:=by rw[jd,M g]
 show PE {p with s:=(jd p.s).1};rwa[e]
def UU(a b c:Int)(d:Bool):PE (kV a b c d):=⟨rfl,λ_=>⟨rfl,rfl⟩⟩
def aiU{P:Pl->Prop}(k:∀p b,Pb p->P p->P (jH p b).1)(l:∀p,Pb p->P p->P (kD p).1)(m:∀f g i n,lG f g i=true->P (kV f g i n)){c:List Pl}(j:∀p∈c,Pb p)(h:∀p∈c,P p)(o:eU):∀p∈mL c o,P p:=by
 intro p a;unfold mL at a;split at a
 .rcases mem_append.1 a with a|a
  .exact h p a
  split at a
  .rename_i q;rw[mem_singleton.1 a];exact m _ _ _ _ q
  cases a
 split at a
 .rename_i e;have r:0<c.length:=by unfold ru at e;simp at e;exact e.2
  have d:=Kj (o:=o) r;split at a
  .rcases AJ a with a|a
   .exact h p a
   rw[a];exact k _ _ (j _ d) (h _ d)
  split at a
  .rcases AJ a with a|a
   .exact h p a
   rw[a];exact l _ (j _ d) (h _ d)
  exact h p a
 exact h p a
def UW{P:Pl->Prop}(d:∀p b,Pb p->P p->P (jH p b).1)(e:∀p,Pb p->P p->P (kD p).1)(f:∀g j k l,lG g j k=true->P (kV g j k l))(a:List eU):∀i,i<=a.length->∀p∈kN a i,P p
 |0,_=>λp c=>by simp[kN]at c
 |i+1,h=>by
  rw[E_ a i<|by omega];exact aiU d e f (λp c=>(Cj a i (by omega) p c).pb) (UW d e f a i<|by omega) _
def ajL(a:List eU)(i:Nat)(h:i<=a.length):∀p∈kN a i,PE p:=UW (λp b c h=>US c h b) (λp c h=>aiT c h) (λd e f g _=>UU d e f g) a i h
def aiV{g h:Int}{a:List eU}{i:Nat}(n:i<a.length)(d:zW g h c (kN a i) a[i]=true\/a[i].k=1)(A:1<=g)
 (o:g<=8->8<=h->a[i].k=8->uY a[i].od a[i].oa a[i].S a[i].on a[i].l=true)
 (q:g<=a[i].k->a[i].k<=h->∀p,p=oL (kN a i) a[i]->p∈kN a i->(a[i].k≠8->c=0->p.on=false)->(a[i].k=2->(jH p a[i].s).2=true)/\(a[i].k=3->(kD p).2=true)/\(a[i].k=4->(p.s.A==(p.aU.length:Int))=true)/\(a[i].k=5->uT p=true)/\(a[i].k=6->uU p=true)/\(a[i].k=7->uV p=true)):
 nL (kN a i) a[i]=true:=by
 have b:(yc (kN a i) a[i] c=true/\g<=a[i].k/\a[i].k<=h)\/a[i].k=1:=by
  obtain d|d:=d
  .unfold zW at d;simp at d;exact .inl ⟨d.1.1,d.1.2,d.2⟩
  exact .inr d
 unfold nL;split
 .rename_i j;obtain b|b:=b
  .exact o (by omega) (by omega) j
  omega
 split
 .rename_i j r;have f:=r;unfold ru at f;simp at f;obtain b|b:=b
  .obtain⟨t,u,v,w,x,y⟩:=q b.2.1 b.2.2 _ rfl (Kj f.2) (λj z=>by
    have m:=b.1
    rw[yc,M,z]at m
    simpa using m)
   split
   .rename_i e;exact t e
   split
   .rename_i e;exact u e
   split
   .rename_i e;exact v e
   split
   .rename_i e;exact w e
   split
   .rename_i e;exact x e
   exact y (by omega)
  omega
 rfl
def ajM(a:List eU)(i:Nat)(h:i<a.length)(c:zW 2 2 0 (kN a i) a[i]=true\/a[i].k=1):nL (kN a i) a[i]=true:=
 aiV h c (by decide) (λ_ d=>by omega) λf g p _ b _=>
  ⟨λ_=>aiR (Cj a i (by omega) p b).pb (ajL a i (by omega) p b) _,λe=>by omega,λe=>by omega,λe=>by omega,λe=>by omega,λe=>by omega⟩
def ajX(a:List eU)(i:Nat)(h:i<a.length)(c:zW 3 3 0 (kN a i) a[i]=true\/a[i].k=1):nL (kN a i) a[i]=true:=
 aiV h c (by decide) (λ_ d=>by omega) λf g p _ b _=>
  ⟨λe=>by omega,λ_=>aiS (Cj a i (by omega) p b).pb (ajL a i (by omega) p b),λe=>by omega,λe=>by omega,λe=>by omega,λe=>by omega⟩
def Vu(d a t:Int)(c:Bool)(D:U)(l:List Ev):gv d a t c D l=true↔((aQ (bB d a t c) D).j=0/\fO (aQ (bB d a t c) D)=true/\(bK (aQ (bB d a t c) D)).C=l):=by
 have e0:(bB d a t c).j=0:=rfl;have i:dM (bB d a t c) D=(qL (aQ (bB d a t c) D),(bK (aQ (bB d a t c) D)).C,(aQ (bB d a t c) D).j):=by rw[dM,J e0]
 rw[gv,i];dsimp only;rw[FI];generalize aQ (bB d a t c) D=b;rw[nQ,nQ,decide_eq_true_iff,decide_eq_true_iff,LB];refine⟨λ⟨g,f,h⟩=>⟨g,?_,h⟩,λ⟨g,f,h⟩=>⟨g,?_,h⟩⟩
 .unfold jd at f;rw[J (show(bare b).j=0 from g)]at f;have e:fO (bare b)=fO b:=rfl;rw[e]at f;cases hd:fO b
  .rw[hd]at f;simp at f
  rfl
 unfold jd;rw[J (show(bare b).j=0 from g)];have e:fO (bare b)=fO b:=rfl;rw[e,f];rfl
def ajp(d a t:Int)(b:Bool)(l:List Ev):uY d a t b l=true:=by
 unfold uY;have e:wr d a t b l=tu d a t b l:=by
  cases c:lG d a t
  .unfold wr tu;rw[c];rfl
  have f:Pb (kV d a t b):=(jA.make b c).pb;obtain⟨i,w2⟩:=ajo (on:=b) c f.d1 f.t1 f.a1 l;rw[wr,c];by_cases h:gv d a t b (gq l) l=true
  .rw[i ((Vu d a t b (gq l) l).1 h),h];rfl
  rw[w2 λg=>h ((Vu d a t b (gq l) l).2 g)];simp[h]
 rw[e];simp
def ajZ(a:List eU)(i:Nat)(h:i<a.length)(b:zW 8 8 2 (kN a i) a[i]=true\/a[i].k=1):nL (kN a i) a[i]=true:=
 aiV h b (by decide) (λ_ _ _=>ajp _ _ _ _ _) λc d p _ f _=>
  ⟨λe=>by omega,λe=>by omega,λe=>by omega,λe=>by omega,λe=>by omega,λe=>by omega⟩
def ajW(a:Pb p)(h:PE p)(b:p.on=false):uV p=true:=by
 unfold uV qh;split
 .rename_i c;obtain⟨d,e⟩:=h.st c;rw[J<|by rwa[h.en],e];have:=UQ a.d1 a.t1 a.a1 a.a2 p.aU (by rwa[doc,b]at d);rw[b];rwa[doc,bare,b]
 rename_i c;rw[M<|by rwa[h.en]];rfl
def aj0(a:List eU)(i:Nat)(h:i<a.length)(c:zW 7 7 0 (kN a i) a[i]=true\/a[i].k=1):nL (kN a i) a[i]=true:=
 aiV h c (by decide) (λ_ f=>by omega) λg j p _ b d=>
  ⟨λe=>by omega,λe=>by omega,λe=>by omega,λe=>by omega,λe=>by omega,λe=>ajW (Cj a i (by omega) p b).pb (ajL a i (by omega) p b) (d (by omega) rfl)⟩
def Vq(s:Z)(x:UInt8)(h:s.j=0):(aS s x).A=s.A+1:=by
 rw[aS,J h];exact GI _ _
def Lv:∀(l:U) (s:Z),(aQ s l).j=0->(aQ s l).A=s.A+l.length
 |[],s,_=>by simp[aQ]
 |x::l,s,h=>by
  have b:(aS s x).j=0:=by
   by_cases g:(aS s x).j=0
   .exact g
   have:aQ (aS s x) l=aS s x:=wN l _ g;unfold aQ at h;rwa[this]at h
  have c:s.j=0:=by
   by_cases g:s.j=0
   .exact g
   have:aS s x=s:=by rw[aS,M g]
   rwa[this]at b
  have a:=Lv l (aS s x) h;rw[Vq s x c]at a;show(aQ (aS s x) l).A=_;rw[a,cT];omega
def aja(a:Pb p){l:U}(h:(doc p l).j=0):(fN p.od p.oa p.S p.on l).K=(doc p l).K/\(fN p.od p.oa p.S p.on l).aN=(doc p l).aN/\(fN p.od p.oa p.S p.on l).I=(doc p l).I:=by
 have b:=Vp (on:=p.on) a.d1 a.t1 a.a2 l l.length (a_ _) (by rwa[tv]);rw[tv]at b;obtain⟨d,c,e⟩|⟨n,d,c,e,f,g,i⟩:=yu (on:=p.on) a.d1 a.t1 a.a1 l
 .rw[c];dsimp only;rw[b];exact⟨rfl,rfl,rfl⟩
 exfalso;have:=CH (s:=l) (more:=[]) h (by rwa[aj1]) (by rwa[aj1]);omega
def ajb(a:Pb p){t:U}(e:n<t.length)(h:(doc p (t.take n)).j=0)(f:(aS (doc p (t.take n)) (t.getD n 0)).j≠0):
 (fN p.od p.oa p.S p.on (t.take (n+1))).K=(doc p (t.take n)).K/\(fN p.od p.oa p.S p.on (t.take (n+1))).aN=(doc p (t.take n)).aN/\(fN p.od p.oa p.S p.on (t.take (n+1))).I=(doc p (t.take n)).I:=by
 have e0:t.take (n+1)=t.take n++[t.getD n 0]:=by
  rw[take_succ];simp[List.getD,e]
 have b:(t.take (n+1)).take n=t.take n:=by rw[CY];congr 1;omega
 have k:(t.take (n+1)).getD n 0=t.getD n 0:=by simp[List.getD,List.getElem?_take]
 have l:(t.take (n+1)).length=n+1:=by rw[iB];omega
 have d:=Vp (on:=p.on) a.d1 a.t1 a.a2 (t.take (n+1)) n (by omega) (by rwa[b]);rw[b]at d;obtain⟨c,g,i⟩|⟨m,c,g,i,j,o,q⟩:=yu (on:=p.on) a.d1 a.t1 a.a1 (t.take (n+1))
 .exfalso;rw[e0,qj]at c;exact f c
 have r:n<=m:=by
  have:=CH (m:=bB p.od p.oa p.S p.on) (s:=t.take n) (more:=[t.getD n 0]) h (n:=m) (by rwa[<-e0]) (by rwa[<-e0]);rw[iB]at this;omega
 obtain rfl:m=n:=by omega
 rw[j];dsimp only;rw[d,b];exact⟨rfl,rfl,rfl⟩
structure PQ(p:Pl):Prop where
 A:p.s.A=p.aU.length
 ln:p.s.K=(fN p.od p.oa p.S p.on p.aU).K
 co:p.s.aN=(fN p.od p.oa p.S p.on p.aU).aN
 op:p.s.I=(fN p.od p.oa p.S p.on p.aU).I
def Vr(c:Pb p)(h:Live p):PQ p:=by
 obtain⟨b,a⟩:=h;obtain⟨d,e,f⟩:=aja c b;have g:(doc p p.aU).A=(0:Int)+p.aU.length:=Lv p.aU _ b;refine⟨?_,?_,?_,?_⟩
 .rw[a];show(doc p p.aU).A=_;rw[g];omega
 .rw[a,d];rfl
 .rw[a,e];rfl
 rw[a,f];rfl
def ajc(b:Pb p)(h:PE p)(k:PQ p)(a:U):PQ (jH p a).1:=by
 have i:=US b h a;by_cases c:p.said=0
 .have j:=h.st c;have f:p.s.j=0:=by rw[h.en];exact c
  have l:Pb (jH p a).1:=by rw[jH,J c];exact⟨b.d1,b.a1,b.a2,b.t1⟩
  by_cases m:(jH p a).1.said=0
  .exact Vr l (i.st m)
  obtain⟨o,q,d,u⟩|⟨n,x,o,q,d,u,v,⟨L,T,r⟩,w,y⟩:=UR b j a
  .exfalso;rw[jH,J c]at m;exact m d
  have t:=(Lt (on:=p.on) b.d1 b.t1 b.a1 p.aU a j.1 p.s j.2).2.1;have g:(dM p.s a).1=bare (aS {doc p ((p.aU++a).take n)with C:=L,F:=T} x):=by
   rw[dM,J f];dsimp only;rw[FI,r]
  have z:(aS {doc p ((p.aU++a).take n)with C:=L,F:=T} x).j≠0:=by
   have:(dM p.s a).2.2=(aQ p.s a).j:=by rw[dM,J f]
   rw[this,r]at t;rw[<-t];exact w
  obtain⟨A,B,C⟩:=afV {doc p ((p.aU++a).take n)with C:=L,F:=T} x d z;have D:=Vq {doc p ((p.aU++a).take n)with C:=L,F:=T} x d;have E:(doc p ((p.aU++a).take n)).A=(0:Int)+((p.aU++a).take n).length:=Lv _ _ d;obtain⟨F,G,H⟩:=ajb b o d (by rw[<-q];exact v);rw[jH,J c];have e:(p.aU++a).take (Rf.aU p.od p.oa p.S p.on p.aU a).A=(p.aU++a).take (n+1):=by rw[y]
  refine⟨?_,?_,?_,?_⟩
  .show(dM p.s a).1.A=(((p.aU++a).take _).length:Int);rw[e,g];show(aS {doc p ((p.aU++a).take n)with C:=L,F:=T} x).A=_;rw[D];show(doc p ((p.aU++a).take n)).A+1=_;rw[E,iB,iB];omega
  .show(dM p.s a).1.K=(fN p.od p.oa p.S p.on ((p.aU++a).take _)).K;rw[e,g,F];exact B
  .show(dM p.s a).1.aN=(fN p.od p.oa p.S p.on ((p.aU++a).take _)).aN;rw[e,g,G];exact C
  show(dM p.s a).1.I=(fN p.od p.oa p.S p.on ((p.aU++a).take _)).I;rw[e,g,H];exact A
 have I:p.s.j≠0:=by rw[h.en];exact c
 have e:(dM p.s a).1=p.s:=by rw[dM,M I]
 rw[jH,M c];show PQ {p with s:=(dM p.s a).1};rw[e];exact k
def ajd(k:PQ p):PQ (kD p).1:=by
 obtain⟨x,hx,_⟩:=SU p.s;unfold kD;split
 .split<;>exact⟨by rw[hx];exact k.A,by rw[hx];exact k.ln,by rw[hx];exact k.co,by rw[hx];exact k.op⟩
 exact⟨by rw[hx];exact k.A,by rw[hx];exact k.ln,by rw[hx];exact k.co,by rw[hx];exact k.op⟩
def aje{a b:Int}{d:Bool}(h:lG a b c=true):Pb (kV a b c d):=by
 have:=jA.make d h;exact this.pb
def ajf(b:List eU)(i:Nat)(h:i<=b.length):∀p∈kN b i,PE p/\PQ p:=
 UW (P:=λp=>PE p/\PQ p) (λp a c h=>⟨US c h.1 a,ajc c h.1 h.2 a⟩) (λp c h=>⟨aiT c h.1,ajd h.2⟩)
  (λd e f g j=>⟨UU d e f g,Vr (aje j) ((UU d e f g).st rfl)⟩) b i h
def PQ.ajg(h:PQ p):(p.s.A==(p.aU.length:Int))=true:=by rw[h.A];simp
def PQ.plc(h:PQ p):uT p=true:=by rw[uT,h.ln,h.co];simp
def PQ.I(h:PQ p):uU p=true:=by rw[uU,h.op];simp
def ajY(a:List eU)(i:Nat)(h:i<a.length)(c:zW 4 6 0 (kN a i) a[i]=true\/a[i].k=1):nL (kN a i) a[i]=true:=
 aiV h c (by decide) (λ_ d=>by omega) λf g p _ b _=>
  ⟨λe=>by omega,λe=>by omega,λ_=>(ajf a i (by omega) p b).2.ajg,λ_=>(ajf a i (by omega) p b).2.plc,λ_=>(ajf a i (by omega) p b).2.I,λe=>by omega⟩
def aju(a:Pb p)(h:PE p):uV p=true:=by
 unfold uV qh;split
 .rename_i b;obtain⟨c,d⟩:=h.st b;rw[J<|by rwa[h.en],d];exact ajt a.d1 a.t1 a.a1 a.a2 p.aU c
 rename_i b;rw[M<|by rwa[h.en]];rfl
def ajv(a:List eU)(i:Nat)(h:i<a.length)(p:Pl)(e:p∈kN a i)(o:eU):(o.k=2->(jH p o.s).2=true)/\(o.k=3->(kD p).2=true)/\(o.k=4->(p.s.A==(p.aU.length:Int))=true)/\(o.k=5->uT p=true)/\(o.k=6->uU p=true)/\(o.k=7->uV p=true):=by
 have b:=(Cj a i (by omega) p e).pb;obtain⟨c,d⟩:=ajf a i (by omega) p e;exact⟨λ_=>aiR b c _,λ_=>aiS b c,λ_=>d.ajg,λ_=>d.plc,λ_=>d.I,λ_=>aju b c⟩
def akg(a:List eU)(i:Nat)(h:i<a.length)(b:zW 2 7 1 (kN a i) a[i]=true\/a[i].k=1):nL (kN a i) a[i]=true:=
 aiV h b (by decide) (λ_ d=>by omega) λe f p _ c _=>ajv a i h p c _
def ajw(a:List eU)(i:Nat)(h:i<a.length)(b:zW 1 8 2 (kN a i) a[i]=true\/a[i].k=1):nL (kN a i) a[i]=true:=
 aiV h b (by decide) (λ_ _ _=>ajp _ _ _ _ _) λd e p _ c _=>ajv a i h p c _
theorem To:prog.cellsOf 60=8:=by kernel_rfl
theorem ag4:prog.cellsOf 29=1:=by kernel_rfl
theorem ag5:prog.cellsOf 40=4:=by kernel_rfl
theorem ag6:prog.cellsOf 4=1:=by kernel_rfl
def rz(o:eU):Nat:=o.s.length+(o.l.map jY).sum+8
variable {H:Type}{enc:TypeId×Value->H}{W:World}{sp:Nat->Bool}
def ag7(n:Nat)(f:List Value)(d:DataW H)(p:List MemPlace)(h:DataW.trod enc prog W 0 sp true n 60 f=some (d,p)):∃x:eU×Value,f=(zV x.1 x.2).toList/\rz x.1<=Rows.uptoBulk d/\fL 0 W.heap.size W x.2 x.1.l/\(Lit.int .i64 x.1.n).wf=true:=by
 obtain⟨F,m,_,hx,g,b,c⟩:=DataW.trod_struct underlying60 h;rw[To]at g;match f,g with
 |[X,c1,c2,c3,c4,c5,c6,i],_=>
  match F,b with
  |[y0,y1,yo,y6,G],_=>
   have j:=c 0 _ rfl;have k:=c 1 _ rfl;have o:=c 2 _ rfl;have r:=c 3 _ rfl;have s:=c 4 _ rfl;simp[Bj,DK,ag4,ag5]at j k o r s;obtain⟨I,q,_,rfl,_,a,e⟩:=DataW.trod_struct underlying40 o;match I,a with
   |[y2,y3,y4,y5],_=>
   have t:=e 0 _ rfl;have u:=e 1 _ rfl;have w:=e 2 _ rfl;have y:=e 3 _ rfl;simp[DK,ag6]at t u w y;obtain⟨K,e0,rfl,w0⟩:=yJ underlying3 j;obtain⟨L,z,rfl,N⟩:=yJ underlying3 k;obtain⟨O,A,rfl,w2⟩:=yJ underlying3 t;obtain⟨P,B,rfl,w3⟩:=yJ underlying3 u;obtain⟨Q,C,rfl,w4⟩:=yJ underlying3 w;obtain⟨R,D,rfl⟩:=DataW.trod_bool underlying4 y;obtain⟨S,E,rfl,_⟩:=yG underlying9 r;obtain⟨d7,p7⟩:=G;obtain⟨l,T,hb⟩:=aan (v:=i) s;simp at hx e0 z A B C D E;obtain⟨rfl,rfl⟩:=hx;refine⟨(⟨K,L,O,P,Q,R,S.data.toList,l⟩,i),?_,?_,T,N⟩
   .simp[zV,e0,z,A,B,C,D,E]
   simp[rz,Rows.uptoBulk,Rows.uptoBulkAll];omega
def ag8{e:Nat}{d:DataW H}{p:List MemPlace}(h:DataW.trod enc prog W 0 sp true e 22 [v]=some (d,p)):∃b:List eU,wG W v b/\(b.map rz).sum+1<=Rows.uptoBulk d/\∀o∈b,(Lit.int .i64 o.n).wf=true:=by
 obtain⟨l,a,c,y,m,q,z,i⟩:=Hu (λx:eU×Value=>(zV x.1 x.2).toList) (λx=>rz x.1) (λx=>fL 0 W.heap.size W x.2 x.1.l/\(Lit.int .i64 x.1.n).wf=true) underlying22 To (by decide) ag7 h;refine⟨l.map (·.1),⟨⟨a,c,by rwa[iM],λk f=>?_⟩,by unfold maxLen at m;rw[iM];omega⟩,by rwa[map_map],λo r=>?_⟩
 .rw[iM]at f;obtain⟨g,o,s,t,u⟩:=q k f;refine⟨g,o,l[k].2,s,t,λj w=>?_,?_⟩
  .rw[Av,u j w,Array.getElem?_toList]
  rw[Av];exact(i _ (iZ f)).1
 obtain⟨x,hx,rfl⟩:=mem_map.1 r;exact(i x hx).2
end U
namespace U
open V
open Go.RowKit Go.ChangeShapes Go.WideShapes
open Mk
def Fb{b:Type}(f:b->Nat):∀(l:List b) (x:b),x∈l->f x<=(l.map f).sum
 |[],x,h=>by cases h
 |a::l,x,h=>by
  simp only[lf,rH];obtain rfl|h:=List.mem_cons.1 h
  .omega
  have:=Fb f l x h;omega
def Fc{b:Type}(f:b->Nat)(k:Nat)(c:∀x,k<=f x):∀l:List b,k*l.length<=(l.map f).sum
 |[]=>by simp
 |a::l=>by
  have d:=Fc f k c l;have e:=c a;simp only[lf,rH,cT,Nat.mul_add,uz];omega
def Tp:∀l:List eU,kX l<=(l.map rz).sum
 |[]=>by simp[kX]
 |a::l=>by
  have b:=Tp l;simp only[kX,lf,rH,rz];omega
def ag9(l:List eU):8*l.length<=(l.map rz).sum:=Fc rz 8 (λx=>by unfold rz;omega) l
def Tq(l:List Ev):6*l.length<=(l.map jY).sum:=Fc jY 6 (λx=>by unfold jY;omega) l
def ag_(l:List aI):4*l.length<=(l.map oD).sum:=Fc oD 4 (λx=>by unfold oD;omega) l
def aha(l:List Ev)(h:(l.map jY).sum<=1048576):Cb l:=by
 have e:=Tq l;refine⟨by omega,λx hx=>?_⟩;have a:=Fb jY l x hx;have b:=ag_ x.f;unfold jY at a;unfold jY at h;refine⟨by omega,by omega,λ_=>by omega,by omega,λy c=>?_⟩;have d:=Fb oD x.f y c;unfold oD at d a b;unfold oD at h;exact⟨by omega,by omega⟩
def Cn{b:Type}(f:b->U)(g:b->Nat)(h:∀x,(f x).length<=6*g x):∀l:List b,(l.flatMap f).length<=6* (l.map g).sum
 |[]=>by simp
 |a::l=>by
  have c:=Cn f g h l;have d:=h a;simp only[mQ,bT,lf,rH];omega
def Tt(b:UInt8)(r:U)(h:r.length<=6):(either b r).length<=6*1:=by
 unfold either;split
 .simp
 exact h
def Tv(b:UInt8):(oK b).length<=6:=by
 unfold oK
 (repeat' split)<;>simp
def ahb(b:UInt8):(qF b).length<=6:=by
 unfold qF
 (repeat' split)<;>first|simp|exact Tv b
def ones{b:Type}(l:List b):(l.map λ_=>1).sum=l.length:=by
 induction l with
 |nil=>rfl
 |cons a l ih=>simp only[lf,rH,ih,cT];omega
def ahc(v:U):(nJ v).length<=6*v.length:=by
 have:=Cn (λb=>either b (oK b)) (λ_=>1) (λb=>Tt b _ (Tv b)) v;rwa[ones]at this
def ahd(v:U):(nK v).length<=6*v.length:=by
 have:=Cn (λb=>either b (qF b)) (λ_=>1) (λb=>Tt b _ (ahb b)) v;rwa[ones]at this
def Tw(n v:U):(jQ n v).length<=n.length+6*v.length+4:=by
 have:=ahd v;unfold jQ;simp;omega
def ahe(p:U):(m_ p).length<=p.length+6:=by
 unfold m_ Mk.fR;split<;>simp
def ahf(b:Ev):(jQ (m_ b.B) b.val).length<=6*jY b:=by
 have a:=Tw (m_ b.B) b.val;have c:=ahe b.B;unfold jY;omega
def ahg(a:aI):(jQ a.B a.val).length<=6*oD a:=by
 have b:=Tw a.B a.val;unfold oD;omega
def ahh(e:Ev)(c:List Ev):(pM e c).length<=6*jY e+6* (c.map jY).sum:=by
 have d:=Cn (λb:Ev=>jQ (m_ b.B) b.val) jY ahf c;have f:=Cn (λa:aI=>jQ a.B a.val) oD ahg e.f;unfold pM jY;simp only[bT,cT,fB];unfold jY at d;omega
def ahi(e:Ev):(ng e).length<=6*jY e:=by
 have a:=ahc e.val;unfold ng jY
 (repeat' split)<;>simp<;>omega
def Kr:∀(l a:List Ev),(nX a l).length<=6* (a.map jY).sum+6* (l.map jY).sum
 |[],a=>by simp[nX]
 |e::r,a=>by
  have b:=Kr r (a++[e]);have c:=Kr r [];have d:=ahh e a;have f:=ahi e;simp only[mP,List.sum_append,lf,qO,rH,List.sum_nil]at b c;unfold nX;simp only[lf,rH];split
  .omega
  split<;>simp only[bT]<;>omega
def ahj(l:List Ev):(gq l).length<=6* (l.map jY).sum:=by
 have:=Kr l [];simpa[gq]using this
def BK:∀l:List aI,nW l<=6* (l.map oD).sum
 |[]=>by simp[nW]
 |a::l=>by
  have:=BK l;simp only[nW,lf,rH];unfold oD;unfold oD at this;omega
def Tx:∀l:List Ev,mI l<=6* (l.map jY).sum
 |[]=>by simp[mI]
 |a::l=>by
  have b:=Tx l;have c:=BK a.f;simp only[mI,lf,rH];unfold sM jY;unfold jY at b;omega
def ahk(o:eU)(b:(Lit.int .i64 o.n).wf=true)(h:rz o<=1048576):x_ o:=by
 have c:(o.l.map jY).sum<=1048576:=by unfold rz at h;omega
 have d:=ahj o.l;have e:=Tx o.l;have f:=Tq o.l;have a:=bounds_i64 b;exact⟨a.1,a.2,aha o.l c,by omega,by omega,by omega⟩
def ahl(a:List eU)(c:∀o∈a,(Lit.int .i64 o.n).wf=true)(h:(a.map rz).sum<=1048576):∀o∈a,x_ o:=
 λo b=>ahk o (c o b) (by have:=Fb rz a o b;omega)
