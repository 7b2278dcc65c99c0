import Derived.Test.YtmgfijllcdadgaaGreatDoorNW42
import Derived.OwnWalk
set_option linter.unusedVariables false
set_option linter.unusedSimpArgs false
set_option maxHeartbeats 1000000
set_option maxRecDepth 100000
namespace Go.Proofs.YtmgfijllcdadgaaGreatDoor.U
open Go.RowKit
open Mk (Bs Ev aD)
open V
open Go.Proofs.Tryz
open Mk (bI)
variable {w:World}{l:List Ev}
theorem Dy{k:Nat}{s:Mk.St}(h:Inv k s)(l:Bs):(Mk.feed s l).2.1.length≤7* (k+12*l.length)+1:=by
 unfold Mk.feed;split
 .have a:=(sP l h).hl;unfold Mk.aQ;split
  .show(bI s l).list.length≤_;omega
  show((bI s l).list++[_]).length≤_;rw[List.length_append];simp;omega
 simp
section
variable {w:World}{O:Nat→Nat×Nat}{b:Nat}{pl:List (Pl×PA)}{hl:List HA}{pa ha:Option Addr}{pc hc:Nat}
theorem xI(h:WI w O b pl hl pa pc ha hc){i K:Nat}(hi:i<pl.length)(E:eM K pl[i].1)(s:Bs)(hK:K+s.length≤7000000)(hG:Gt w O)(hn:hl.length≤16000000000000)(ab:(Rf.aS pl[i].1.od pl[i].1.oa pl[i].1.ot pl[i].1.on pl[i].1.aS s).at_≤(pl[i].1.aS++s).length):
 Calls Tryz.prog 48 #[.pointer (some ⟨b,0,none⟩),.pointer (some ⟨pl[i].2.xb,0,none⟩),.string ⟨s.toArray⟩] w fun e w' =>e=.returned (.bool (jl pl[i].1 s).2)∧rL w O b pl (hl.length+(Mk.feed pl[i].1.s s).2.1.length+2) pa pc i pl[i].2.xb (jl pl[i].1 s).1 w' :=by
 have hP:=h.ps i hi;have hx:=h.rE hi;have HH:=aB (fun w=>CG s (by omega) w);have HS:=aB (fun w g=>Ll s (by omega) w g);have HX:=aB hP.blk;have HW:=aB h;have HG:=aB hG;have ao:=hP.lo;have ap:=hP.rd.lt;have a5:=hP.rd.dF;have HF:=aB (fun(w1:World) (hb:Below w.heap.size w w1) (ad:Option Addr) (c:Nat)=>Ai (hP.rd.keep fun k q=>hb.block k (by rcases q with q|q;exact q▸ap;exact(a5 k q).2)) E.inv s (by omega) (hG.gl.below hG.lt hb) ao E.dQ (by have:=E.nP;omega) ad c);have hev:=Dy E.inv s;obtain⟨d,t,f⟩:=aM hP.blk;obtain⟨b2,z⟩:∃x,x=jl pl[i].1 s:=⟨_,rfl⟩;rw[←z];unfold jl at z;have HR:=aB (fun(W:World) (hb:bG W)=>V.xI (on:=pl[i].1.on) (more:=s) E.d1 E.d2 E.a1 E.a2 E.t1 E.t2 (show pl[i].1.aS.length+s.length≤100000000 by have:=E.fd;omega) W hb);have aq:pl[i].1.aS.length+s.length≤7000000:=by have:=E.fd;omega
 have B:=aB (fun(w1 w2 w3 W:World) (p' :Pl) (L' :Lay) (fp:List Nat)=>NB h hi (w1:=w1) (w2:=w2) (w3:=w3) (W:=W) (p' :=p') (L' :=L') (fp:=fp));have P:∀k∈aJ pl[i].1.s pl[i].2.L,k<w.heap.size:=fun k q=>(a5 k q).2
 have ar:∀k∈aJ pl[i].1.s pl[i].2.L,2<k:=fun k q=>by have:=(a5 k q).1;omega
 have ae:=aB hx;have af:=aB (fun k (q:k∈aJ pl[i].1.s pl[i].2.L)=>(show O k≠fr by rw[hP.of k q];exact fI (by decide)));unfold dL at d;clear h E hG hP hx a5;generalize pl[i]=q at *;obtain⟨⟨od,oa,ot,on,st,aS,said⟩,⟨xb,pb,L⟩⟩:=q;dsimp only at z d t f HX HF HR B ao ap P ar ab hev aq ae af⊢;generalize b3:Mk.feed st s=fe at *;obtain⟨s', l,en⟩:=fe;dsimp only at *;have a6:=aB z;have b4:=aB ab;have I:=aB hev;clear z b3 ab hev;have bj:s.length≤7000000:=by omega
 go_enter func48,ntmps48
 go_wp2_with fail
 refine(aA HH _).mono ?_;rintro e w1 ⟨rfl,J,r⟩;have C:=cE J;have r:Below w.heap.size w w1.drew:=⟨r.os,r.tape,r.output,r.size,r.block⟩;have J:w1.drew.heap[w.heap.size]?=_:=J;have au:∀j (hj:j<s.length),∃g,(some ⟨w.heap.size,0,none⟩:Option Addr)=some ⟨g,0,none⟩∧g<w1.drew.heap.size∧g≠pb∧g∉aJ st L∧w1.drew.cell? ⟨g,j,none⟩=some (.int .u8 (s[j].toNat:Int)):=fun j hj=>⟨w.heap.size,rfl,C,by omega,fun e=>by have:=P _ e;omega,by rw[(aM J).1 j];simp[hd,bv,List.getElem?_append,hj]⟩
 have av:=aB (aA HF w1.drew r _ (s.length+3) au);have ag:w1.heap[xb]?=_:=(r.block _ f).trans (aA HX);clear d t f;obtain⟨d,t,f⟩:=aM ag;unfold dL at d;have n:=aB (And.intro r (And.intro J ag));have bk:(s.length:Int)≤(s.length:Int)+3:=by omega
 clear r J au ag HF HH;go_wp2_with fail
 go_cut [8,9] (fun s8 s9 w2=>∃va vc fp L', s8=.slice va l.length vc∧s9=.int .i64 en∧Hid (iR w2 (.slice va l.length vc) l fp∧Mv w1.drew pb (aJ st L) w2 s' L' ∧∀k∈fp,(pb≤k+1∧k≠pb)∧k<w2.heap.size∧k∉aJ s' L' ∧(k∈aJ st L∨w1.drew.heap.size≤k)))
 case first=>
  go_region_with (go_at_call 36;refine(aA av).mono ?_;rintro e w2 ⟨v,fp,L', rfl,Q,-,hm,aw⟩;obtain⟨va,vc,rfl⟩:=Q.got.slice;have D:=aB (And.intro Q (And.intro hm aw));clear Q hm aw)
  all_goals
   go_wp2_with fail
   go_meet
   exact⟨va,vc,fp,L', rfl,rfl,D⟩
 case rest=>
 obtain⟨va,vc,fp,L', rfl,rfl,D⟩:=hcut;rename World=>w2
 have M:=(aA D).2.1.fr;have ax:w2.heap[xb]?=_:=(M.block _ f (aA ae).1 (aA ae).2).trans (aA n).2.2;have ay:w2.heap[w.heap.size]?=_:=(M.block _ C (by omega) fun e=>by have:=P _ e;omega).trans (aA n).2.1;have az:=aB (aA HS w2 _ ay);have ah:=aB ax;clear d t f M ax ay HS av;go_wp2_with fail
 refine(aA az).mono ?_;rintro e w3 ⟨rfl,H⟩;have ai:=(H.block _ (cE (aA ah))).trans (aA ah);have a9:bG w3:=by
  have h1:=(aA HG);have h2:0<w.heap.size:=by have:=h1.lt;omega
  refine h1.gr.keep ?_;have M:=(aA D).2.1.fr;rw[H.block _ (by have:=M.size;have:=(aA n).1.size;omega),M.block _ (by have:=(aA n).1.size;omega) (by omega) (fun e=>by have:=ar _ e;omega)];exact(aA n).1.block _ h2
 obtain⟨d,t,f⟩:=aM ai;unfold dL at d;have u:=aB (And.intro H ai);have a7:=aB (fun(W:World) (hb:Below w3.heap.size w3 W)=>aA HR W (a9.below hb));clear H ai az ah HR a9;by_cases aj:said=0
 .subst aj;have e0:((0:Int)==0)=true:=rfl;have b5:∀o j,(w3.alloc o).cell? ⟨xb,j,none⟩=(#[.pointer (some ⟨pb,0,none⟩),.int .i64 od,.int .i64 oa,.int .i64 ot,.bool on,.string ⟨aS.toArray⟩,.int .i64 0]:Array Value)[j]?:=fun o j=>by rw[←d j];exact fU (Below.heap_alloc _ _ _ f)
  generalize bl:Rf.aS od oa ot on aS s=A at *;go_wp2_with fail
  go_cut [12] (fun b6 wx=>Hid (pZ w3 wx b6 A))
  case first=>
   have ak:Below w3.heap.size w3 w3.drew:=⟨rfl,rfl,rfl,Nat.le_refl _,fun _ _=>rfl⟩;have b7:∀o,Below w3.heap.size w3 (w3.alloc o).drew:=fun o=>⟨rfl,rfl,rfl,by simp,fun k E=>Below.heap_alloc _ _ _ E⟩
   go_region_with (go_at_call 72;first
    |(refine(aA a7 _ ak).mono ?_;rintro e N ⟨v4,rfl,R,y⟩;obtain⟨ea,ec,a8,oc,rfl,S⟩:=uy (W0:=w3) (W:=w3.drew) ak R y;have b8:=uq N A ea ec a8 oc;have HO:=aB S;clear S R y)
    |(refine(aA a7 _ (b7 _)).mono ?_;rintro e N ⟨v4,rfl,R,y⟩;obtain⟨ea,ec,a8,oc,rfl,HZ,S⟩:=uz (W0:=w3) (W:=w3.drew) ak R y;have b8:=uw N w3.heap.size A ea ec a8 oc HZ;have HO:=aB S;clear S R y HZ))
   all_goals
    go_wp2_with fail
    go_meet
    exact HO
  case rest=>
  obtain⟨g,ea,ec,a8,oc,rfl,hg,b0,hL,y⟩:=aA hcut;rename World=>N
  obtain⟨b1,b9,ba⟩:=aM b0;unfold fZ at b1;have al:=(y.block _ f).trans (aA u).2;clear d t f b0 hcut b5 a7;obtain⟨d,t,f⟩:=aM al;unfold dL at d;have bm:g≠xb:=by have:=cE (aA u).2;omega
  have bg:¬9223372036854775807<aS.length+s.length:=by omega
  have bh:(A.at_:Int)≤(aS.length:Int)+(s.length:Int):=by have h9:=aA b4;rw[List.length_append]at h9;omega
  have bi:=cE (aA u).2;have aa:∀k,(Value.slice ea A.events.length ec).ownBlock=some k→k≠xb:=fun k q e=>by have:=hL.lo k q;omega
  have T:bN w3.heap.size _ ((N.setCell ⟨xb,6,none⟩ (.int .i64 A.err)).setCell ⟨xb,5,none⟩ (.string ⟨((aS++s).take A.at_).toArray⟩)) (.slice ea A.events.length ec) A.events:=bN.xQ (bN.xQ hL.ev.choose_spec (g:=xb) (fun k q=>heap_setCell_other N ⟨xb,6,none⟩ k _ q) (by simp) aa (by omega)) (g:=xb) (fun k q=>heap_setCell_other _ ⟨xb,5,none⟩ k _ q) (by simp) aa (by omega);go_wp2_with fail
  have X:=aA B w1.drew w2 N ((N.setCell ⟨xb,6,none⟩ (.int .i64 A.err)).setCell ⟨xb,5,none⟩ (.string ⟨((aS++s).take A.at_).toArray⟩)) ⟨od,oa,ot,on,s', (aS++s).take A.at_,A.err⟩ L' fp (aA n).1 (aA D).2.1 ((aA u).1.trans (y.mono (aA u).1.size)) (heap_setCell_same _ xb 5 _ _ _ (heap_setCell_same N xb 6 _ _ _ al)) (fun k q=>(heap_setCell_other _ ⟨xb,5,none⟩ k _ q).trans (heap_setCell_other N ⟨xb,6,none⟩ k _ q)) (by simp) ⟨rfl,rfl,rfl⟩ (aA D).2.2;obtain⟨O', A', k1,k2,k3,k4,k5⟩:=X;have a:∀k∈fp,k≠w.heap.size:=fun k q e=>by
   have s1:=C;rcases((aA D).2.2 k q).2.2.2 with F|F
   .have:=P k F;omega
   have q3:w1.heap.size≤k:=F;omega
  have m:Md w O b pl hl.length pa pc i xb ⟨od,oa,ot,on,s', (aS++s).take A.at_,A.err⟩ (.slice va l.length vc) l fp ((N.setCell ⟨xb,6,none⟩ (.int .i64 A.err)).setCell ⟨xb,5,none⟩ (.string ⟨((aS++s).take A.at_).toArray⟩)) O' A' hl ha hc:=⟨k1,rfl,k2,(aA D).1.keep fun k q=>(k3 k q).2.2,fun k q=>⟨(k3 k q).1,(k3 k q).2.1⟩,fun k q q1=>by
   rcases((aA D).2.2 k q).2.2.2 with F|F
   .exact aA af k F
   have q3:w1.heap.size≤k:=F
   have s1:=C
   omega,k4⟩
  obtain⟨Y,k7,k8⟩:=k5 w.heap.size (Nat.le_refl _) C;have hrow:=Dx (k8.trans (aA n).2.1) (by rw[PW];omega);rw[PW]at hrow;have Z:=aB (P_ (rK m.got) T);have a0:=aB (And.intro m (And.intro Y (And.intro hrow a)));clear m hrow k1 k2 k3 k4 k5 Y k7 k8 a B n D u T hL y al b1 b9 ba d t f;generalize bb:Rf.same l A.events=sm at *;rw[eu,NC];generalize((N.setCell ⟨xb,6,none⟩ (.int .i64 A.err)).setCell ⟨xb,5,none⟩ (.string ⟨((aS++s).take A.at_).toArray⟩))=W at *;go_wp2_with fail
  refine(aA Z).mono ?_;rintro e w7 ⟨rfl,G⟩;obtain⟨m,Y,hrow,a⟩:=aA a0;have p:=gY hrow fun k q=>G.block k (World.ownsRow.lt hrow k q).2
  have HK:=aB ((m.below G).keep (c:=3) (by decide) p (fun k q=>by have e:=PN.1 q;subst e;exact⟨Y,fun e=>a _ e rfl,Nat.le_refl _⟩) (by omega));rw[um]at HK;clear m Y hrow a p G a0 Z;go_wp2_with fail
  refine(aA HK).mono ?_;rintro e w8 ⟨rfl,O8,rM,nB,fH,a3⟩;have HE:=aB (a3.events (by have:=aA I;omega) (by have:=aA I;omega));clear a3 HK;go_wp2_with fail
  refine(aA HE).mono ?_;rintro e w9 ⟨rfl,hF⟩;obtain⟨bc,a4⟩:=hF.cells hi;obtain⟨am,be,bf⟩:=aM a4;unfold dL at am;have an:=aB hF;have hfin:b2=(⟨od,oa,ot,on,s', (aS++s).take A.at_,A.err⟩,sm&&en==A.err):=by
   have h9:=aA a6;simpa using h9
  clear hF HE a4 a6 I;cases sm;all_goals
   go_wp2_with fail
   go_ret;subst hfin;refine⟨rfl,?_⟩;have h9:=aA an;rw[show hl.length+1+l.length+1=hl.length+l.length+2 by omega]at h9;exact h9
 have e0:(said==0)=false:=by simpa using aj
 clear a7;go_wp2_with fail
 have X:=aA B w1.drew w2 w3 w3 ⟨od,oa,ot,on,s', aS,said⟩ L' fp (aA n).1 (aA D).2.1 (aA u).1 (aA u).2 (fun _ _=>rfl) rfl ⟨rfl,rfl,rfl⟩ (aA D).2.2;obtain⟨O', A', k1,k2,k3,k4,k5⟩:=X;have a:∀k∈fp,k≠w.heap.size:=fun k q e=>by
  have s1:=C;rcases((aA D).2.2 k q).2.2.2 with F|F
  .have:=P k F;omega
  have q3:w1.heap.size≤k:=F;omega
 have m:Md w O b pl hl.length pa pc i xb ⟨od,oa,ot,on,s', aS,said⟩ (.slice va l.length vc) l fp w3 O' A' hl ha hc:=⟨k1,rfl,k2,(aA D).1.keep fun k q=>(k3 k q).2.2,fun k q=>⟨(k3 k q).1,(k3 k q).2.1⟩,fun k q q1=>by
  rcases((aA D).2.2 k q).2.2.2 with F|F
  .exact aA af k F
  have q3:w1.heap.size≤k:=F
  have s1:=C
  omega,k4⟩
 obtain⟨Y,k7,k8⟩:=k5 w.heap.size (Nat.le_refl _) C;have hrow:=Dx (k8.trans (aA n).2.1) (by rw[PW];omega);rw[PW]at hrow;have Z:=aB (P_ (rK m.got) (uf 0 0 w3 none 0));have a0:=aB (And.intro m (And.intro Y (And.intro hrow a)));clear m hrow k1 k2 k3 k4 k5 Y k7 k8 a B n D u d t f;generalize bb:Rf.same l ([]:List Ev)=sm at *;go_wp2_with fail
 refine(aA Z).mono ?_;rintro e w7 ⟨rfl,G⟩;obtain⟨m,Y,hrow,a⟩:=aA a0;have p:=gY hrow fun k q=>G.block k (World.ownsRow.lt hrow k q).2
 have HK:=aB ((m.below G).keep (c:=3) (by decide) p (fun k q=>by have e:=PN.1 q;subst e;exact⟨Y,fun e=>a _ e rfl,Nat.le_refl _⟩) (by omega));rw[um]at HK;clear m Y hrow a p G a0 Z;go_wp2_with fail
 refine(aA HK).mono ?_;rintro e w8 ⟨rfl,O8,rM,nB,fH,a3⟩;have HE:=aB (a3.events (by have:=aA I;omega) (by have:=aA I;omega));clear a3 HK;go_wp2_with fail
 refine(aA HE).mono ?_;rintro e w9 ⟨rfl,hF⟩;obtain⟨bc,a4⟩:=hF.cells hi;obtain⟨am,be,bf⟩:=aM a4;unfold dL at am;have an:=aB hF;have hfin:=aA a6;rw[if_neg aj]at hfin;clear hF HE a4 a6 I;cases sm;all_goals
  go_wp2_with fail
  go_ret;subst hfin;refine⟨rfl,?_⟩;have h9:=aA an;rw[show hl.length+1+l.length+1=hl.length+l.length+2 by omega]at h9;exact h9
end
theorem ND:(Tryz.prog.info? 69).map (fun i=>(i.zero,i.size,i.bytes))=some (some (.agg #[.string ByteArray.empty,.string ByteArray.empty,.string ByteArray.empty]),3,48):=by kernel_rfl
theorem NE{P:Program}(w:World)(r u x c:TypeId)(size g d h:Nat)(a:Addr)(b k:Nat)(e:Array Value)(t:TypeId)(f:List Value)
 (y:P.underlying r=some (.slice c)) (s:(P.info? c).map (·.size)=some size)
 (z:w.heap[g]?=some (.cells e t (0,0))) (A:f.length=b*size) (p:b≤d)
 (l:∀j v,f[j]?=some v→w.cell? (a.add j)=some v) (m:f.length≤e.size) (B:∀v∈f,v.oneCell' =true):
 (Builtin.copy_ #[r,u] x #[.slice (some ⟨g,0,none⟩) d h,.slice (some a) b k]).run P w=
  .ok (goInt b) (w.setRow g (f++e.toList.drop f.length).toArray):=by
 have C:=run_loadCells_list (P:=P) w a f l;have n:=run_storeCells_at P g 0 t f 0 e w z (by simpa using m) B;have o:Nat.min b d=b:=Nat.min_eq_left p;cases q:P.info? c with
 |none=>simp[q]at s
 |some i=>
  have D:i.size=size:=by simpa[q]using s
  simp at n;simp[Builtin.copy_,run_underlying y,Builtin.lenOf,Builtin.firstCells,sizeOf,typeInfo,q,D,o,←A,C,n]
theorem NF{P:Program}(w:World)(n p q c:TypeId)(size g e f:Nat)(sp:Option Addr)(b h:Nat)(d:Array Value)(t:TypeId)(k:List Value)
 (r:P.underlying n=some (.slice c)) (s:(P.info? c).map (·.size)=some size)
 (u:w.heap[g]?=some (.cells d t (0,0))) (y:k.length=b*size) (o:b≤e)
 (l:0<b→∃a,sp=some a∧∀j v,k[j]?=some v→w.cell? (a.add j)=some v) (m:k.length≤d.size) (z:∀v∈k,v.oneCell' =true):
 (Builtin.copy_ #[n,p] q #[.slice (some ⟨g,0,none⟩) e f,.slice sp b h]).run P w=.ok (goInt b) (w.setRow g (k++d.toList.drop k.length).toArray):=by
 by_cases A:0<b
 .obtain⟨a,rfl,B⟩:=l A;exact NE w n p q c size g e f a b h d t k r s u y o B m z
 have C:b=0:=by omega
 subst C;obtain rfl:k=[]:=List.eq_nil_of_length_eq_zero (by omega);have D:w.setRow g ([]++d.toList.drop ([]:List Value).length).toArray=w:=by simp;exact setRow_self w g d t _ u
 rw[D];cases x:P.info? c with
 |none=>simp[x]at s
 |some i=>cases sp<;>simp[Builtin.copy_,run_underlying r,Builtin.lenOf,Builtin.firstCells,sizeOf,typeInfo,x,storeCells,loadCells,loadCellsFrom]
def spare:Bs:=[115,112,97,114,101]
def oJ:List Value:=[.string ⟨spare.toArray⟩,.string ⟨#[]⟩,.string ⟨#[]⟩]
def kY:List Value:=[.int .i64 0,.string ⟨#[]⟩,.string ⟨#[]⟩,.string ⟨#[]⟩,.slice none 0 0]
def zr:Nat→List Value
 |0=>[]
 |n+1=>kY++zr n
theorem Qh:∀n,(zr n).length=n*5
 |0=>rfl
 |n+1=>by rw[zr,List.length_append,Qh n];simp[kY];omega
theorem kZ(a:List (Ev×Value)):(bA a).length=a.length*5:=by
 induction a with
 |nil=>rfl
 |cons p a ih=>simp[bA,bP]at ih⊢;omega
theorem lJ(l:List aD):(aV l).length=l.length*3:=by
 induction l with
 |nil=>rfl
 |cons p a ih=>simp[aV,bZ]at ih⊢;omega
structure CI(w wx:World)(l:List Ev)(i:Nat)(es:List (Ev×Value)):Prop where
 blk:wx.heap[w.heap.size]?=some (.cells (bA es++zr (l.length+1 - i)).toArray 65 (0,0))
 evs:es.map (·.1)=l.take i
 jT:∀p∈es,∃g,p.2=.slice (some ⟨g,0,none⟩) p.1.aC.length (p.1.aC.length+1)∧w.heap.size<g∧wx.heap[g]?=some (.cells (aV p.1.aC++oJ).toArray 69 (0,0))
 nd:(aW (es.map aN)).Nodup
 aU:Below w.heap.size w wx
theorem CI.lt{b:World}{i:Nat}{c:List (Ev×Value)}(h:CI w b l i c):∀k∈aW (c.map aN),w.heap.size<k∧k<b.heap.size:=fun k q=>by
 obtain⟨r,d,a⟩:=List.mem_filterMap.1 q;obtain⟨p,e,rfl⟩:=List.mem_map.1 d;obtain⟨g,f,j,m⟩:=h.jT p e;have a:p.2.ownBlock=some k:=a;rw[f]at a;injection a with a;subst a;exact⟨j,cE m⟩
theorem CI.next{d w' :World}{i:Nat}{e:List (Ev×Value)}(h:CI w d l i e)(n:i<l.length){g:Nat}(y:g=d.heap.size)(o:Below w.heap.size w w')(q:∀k,k≠w.heap.size→k<d.heap.size→w'.heap[k]?=d.heap[k]?)
 (r:w'.heap[g]?=some (.cells (aV l[i].aC++oJ).toArray 69 (0,0)))
 (s:w'.heap[w.heap.size]?=some (.cells (bA e++(bP l[i] (.slice (some ⟨g,0,none⟩) l[i].aC.length (l[i].aC.length+1))++zr (l.length+1 - (i+1)))).toArray 65 (0,0))):
 CI w w' l (i+1) (e++[(l[i],.slice (some ⟨g,0,none⟩) l[i].aC.length (l[i].aC.length+1))]):=by
 have t:=cE h.blk;refine⟨?_,?_,fun p c=>?_,?_,o⟩
 .rw[s];simp[bA]
 .rw[List.map_append,h.evs,List.take_add_one,List.getElem?_eq_getElem n];rfl
 .rcases List.mem_append.1 c with c|c
  .obtain⟨j,u,v,m⟩:=h.jT p c;exact⟨j,u,v,(q j (by omega) (cE m)).trans m⟩
  rw[List.mem_singleton.1 c];exact⟨g,rfl,by omega,r⟩
 rw[List.map_append];unfold aW;rw[List.filterMap_append];refine List.nodup_append.2 ⟨h.nd,by simp[aN,Value.ownBlock],fun a x b f=>?_⟩;have z:=(h.lt a x).2;simp[aN,Value.ownBlock]at f;omega
def Ps:Ev:=⟨0,spare,[],[],[]⟩
structure CR(w wx:World)(l:List Ev)(es:List (Ev×Value)):Prop where
 blk:wx.heap[w.heap.size]?=some (.cells (bA (es++[(Ps,.slice none 0 0)])).toArray 65 (0,0))
 evs:es.map (·.1)=l
 jT:∀p∈es,∃g,p.2=.slice (some ⟨g,0,none⟩) p.1.aC.length (p.1.aC.length+1)∧w.heap.size<g∧wx.heap[g]?=some (.cells (aV p.1.aC++oJ).toArray 69 (0,0))
 nd:(aW (es.map aN)).Nodup
 aU:Below w.heap.size w wx
theorem Dz{w1:World}{e:TypeId}{size n:Nat}{z:Value}(hown:w1.ownsRow w.heap.size e size (.slice (some ⟨w.heap.size,0,none⟩) n n) n (madeCells z.cells (n*size)).toList):w1.heap[w.heap.size]?=some (.cells (madeCells z.cells (n*size)) e (0,0)):=by
 rcases hown.2 with⟨q,_⟩|⟨g,cap,c,q,_,d,_,_,f,b⟩
 .cases q
 injection q with a _ h;injection a with a;injection a with a _ _;subst a h;rw[d];congr 2
 apply Array.ext';rw[←b,List.take_of_length_le (by rw[Array.length_toList];omega)]
theorem DC(z:Array Value)(n j:Nat)(a:j<n):(madeCells z n)[j]?=some z[j % z.size]! :=by simp[madeCells,a]
theorem DD:∀(n j:Nat),j<n*5→(zr n)[j]?=kY[j % 5]?
 |0,j,h=>by omega
 |n+1,j,h=>by
  rw[zr];by_cases a:j<5
  .rw[List.getElem?_append_left (by simpa[kY]using a),Nat.mod_eq_of_lt a]
  rw[List.getElem?_append_right (by simp[kY];omega)];have b:=DD n (j - 5) (by omega);rw[show(kY.length)=5 from rfl,b];congr 1
  omega
theorem NG(n:Nat):madeCells (Value.agg #[.int .i64 0,.string ByteArray.empty,.string ByteArray.empty,.string ByteArray.empty,.slice none 0 0]).cells (n*5)=(zr n).toArray:=by
 apply Array.ext';apply List.ext_getElem?;intro j;by_cases a:j<n*5
 .rw[Array.getElem?_toList,DC _ _ _ a,List.toList_toArray,DD n j a];have b:j % 5<5:=Nat.mod_lt _ (by decide);have:j % 5=0∨j % 5=1∨j % 5=2∨j % 5=3∨j % 5=4:=by omega
  rcases this with h|h|h|h|h<;>simp[Value.cells,kY,h]<;>rfl
 rw[List.getElem?_eq_none (by simp[madeCells];omega),List.toList_toArray,List.getElem?_eq_none (by rw[Qh];omega)]
theorem DF:∀(D B A C:List Value) {w:World} {g t:Nat},w.heap[g]?=some (.cells (A++(B++C)).toArray t (0,0))→B.length=D.length→(dV w g A.length D).heap[g]?=some (.cells (A++(D++C)).toArray t (0,0))
 |[],[],A,C,w,g,t,h,_=>h
 |[],_::_,_,_,_,_,_,_,a=>by cases a
 |_::_,[],_,_,_,_,_,_,a=>by cases a
 |d::D,b::B,A,C,w,g,t,h,a=>by
  have c:=heap_setCell_same w g A.length _ t d h;have e:(A++(b::B++C)).toArray.setIfInBounds A.length d=((A++[d])++(B++C)).toArray:=by simp[List.setIfInBounds_toArray]
  rw[e]at c;have f:=DF D B (A++[d]) C c (by simpa using a);show(dV (w.setCell ⟨g,A.length,none⟩ d) g (A.length+1) D).heap[g]?=_;rw[show A.length+1=(A++[d]).length by simp,f];simp
theorem NH{r s:Nat}{f:Option Addr}{t:Nat}{l:List aD}(h:cJ r s w (.slice f l.length t) l)(u:0<l.length):∃a,f=some a∧∀j v,(aV l)[j]?=some v→w.cell? (a.add j)=some v:=by
 obtain⟨B,C,d,i⟩:=h.form;injection d with d _ _;subst d;obtain⟨g,o,k,_,_⟩:=i 0 u;refine⟨⟨g,o,none⟩,k,fun j v m=>?_⟩;have x:j<l.length*3:=by have:=(List.getElem?_eq_some_iff.1 m).1;rw[lJ]at this;exact this
 have n:j / 3<l.length:=by omega
 obtain⟨g2,D,b,_,y⟩:=i (j / 3) n;rw[k]at b;injection b with b;injection b with b z _;subst b z;have p:j % 3<3:=Nat.mod_lt _ (by decide);have e:=y (j % 3) p;have q:=sZ bZ 3 (fun _=>rfl) l (j / 3) n (j % 3) p;have A:j / 3*3+j % 3=j:=by omega
 rw[A]at q;have c:(⟨g,o,none⟩:Addr).add j=⟨g,o+j,none⟩:=by unfold Addr.add;split<;>simp_all
 rw[c,show o+j=o+j / 3*3+j % 3 by omega,e,←q];exact m
theorem NI(l:List aD):∀v∈aV l,v.oneCell' =true:=fun v b=>by
 obtain⟨a,_,h⟩:=List.mem_flatMap.1 b;simp[bZ]at h;rcases h with rfl|rfl|rfl<;>rfl
def nC:List Value:=[.string ⟨#[]⟩,.string ⟨#[]⟩,.string ⟨#[]⟩]
theorem NJ(k:Nat)(l:List aD)(a:l.length=k):(aV l++(madeCells (Value.agg #[.string ByteArray.empty,.string ByteArray.empty,.string ByteArray.empty]).cells ((k+1)*3)).toList.drop (aV l).length).toArray=(aV l++(nC++[])).toArray:=by
 congr 2
 apply List.ext_getElem?;intro j;rw[lJ,a,List.getElem?_drop,Array.getElem?_toList];by_cases c:j<3
 .rw[DC _ _ _ (by omega)];have b:(k*3+j) % 3=j:=by omega
  have:j=0∨j=1∨j=2:=by omega
  rcases this with rfl|rfl|rfl<;>simp[Value.cells,nC]<;>first|rfl|(simp[b];rfl)
 rw[List.getElem?_eq_none (l:=nC++[]) (by simp[nC];omega)];exact Array.getElem?_eq_none (by simp[madeCells];omega)
theorem NK{lo up:Nat}{v:Value}(h:bN lo up w v l)(hl:l.length≤100000000)(ha:∀e∈l,e.aC.length≤100000000):
 Calls Tryz.prog 64 #[v] w fun e w' =>∃k,e=.returned (.slice (some ⟨w.heap.size,0,none⟩) (l.length+1) (l.length+1))∧CR w w' l k:=by
 obtain⟨va,vc,hv,hf⟩:=h.form;subst hv;have HF:=aB hf;have HR:=aB h;have HA:=aB ha;obtain⟨i0,hi,a0,n,a2⟩:=info_parts oW;obtain⟨j0,hj,a3,J,a4⟩:=info_parts ND;clear h hf ha;go_enter func64,ntmps64
 go_wp2_with(at_make;apply Classical.byContradiction;intro c)
 apply c;clear c;refine wpList_make_full _ rfl _ _ 29 rfl w.heap.size 65 i0 (.agg #[.int .i64 0,.string ByteArray.empty,.string ByteArray.empty,.string ByteArray.empty,.slice none 0 0]) 5 underlying29 hi a0 n .i64 .i64 _ _ (l.length+1) rfl rfl (by simp) (by simp) (by rw[a2];omega) (by unfold maxLen;omega) (Nat.le_refl _) ?_;intro w1 hown r;have B:=Dz hown;rw[NG]at B;have HI:Hid (CI w w1 l 0 []):=aB ⟨by rw[B];simp[bA],rfl,fun p hp=>(by cases hp),(by simp[aW]),vT r⟩;clear hown r B;go_wp2_with fail
 go_loopg [4] l.length (fun g sx wx=>∃(i:Nat) (k:List (Ev×Value)),i≤l.length∧g=l.length - i∧sx=.int .i64 i∧Hid (CI w wx l i k))
 case atStart=>exact⟨0,[],Nat.zero_le _,rfl,rfl,HI⟩
 case round=>
  obtain⟨i,k,a5,rfl,rfl,d⟩:=hrel;clear HI;by_cases y:i<l.length
  .have e1:decide ((i:Int)<(l.length:Int))=true:=by simp;omega
   have e2:(i:Int)<(l.length:Int):=by omega
   have e4:(i:Int)<(l.length:Int)+1:=by omega
   obtain⟨C,o1,a1,f1,f2,H,f4⟩:=aA HF i y;subst f1;have b:k.length=i:=by have:=congrArg List.length (aA d).evs;simp at this;omega
   obtain⟨z,A,a6,f5⟩:=f4.form;subst a6;have p0:=H 0 (by decide);have p1:=H 1 (by decide);have p2:=H 2 (by decide);have p3:=H 3 (by decide);have p4:=H 4 (by decide);rw[←fU ((aA d).aU.block C f2)]at p0 p1 p2 p3 p4;simp[bP]at p0 p1 p2 p3 p4;obtain⟨s,a7,K⟩:=aM (aA d).blk;have L:l.length+1 - i=(l.length - i)+1:=by omega
   have I:∀j,j<5→∃u,wr.cell? ⟨w.heap.size,i*5+j,none⟩=some u:=fun j hj=>⟨_,(s _).trans (Array.getElem?_eq_getElem (by simp[kZ,Qh,b];omega))⟩
   obtain⟨u0,q0⟩:=I 0 (by decide);obtain⟨u1,t⟩:=I 1 (by decide);obtain⟨u2,D⟩:=I 2 (by decide);obtain⟨u3,q3⟩:=I 3 (by decide);obtain⟨u4,q4⟩:=I 4 (by decide);rw[Nat.add_zero]at q0;have M:(dV wr w.heap.size (i*5) (bP l[i] (.slice z l[i].aC.length A))).heap[w.heap.size]?=some (.cells (bA k++(bP l[i] (.slice z l[i].aC.length A)++zr (l.length - i))).toArray 65 (0,0)):=by
    have h9:=(aA d).blk;rw[L,zr]at h9;have h8:=DF (bP l[i] (.slice z l[i].aC.length A)) kY (bA k) (zr (l.length - i)) h9 rfl;rw[kZ,b]at h8;exact h8
   have N:C<wr.heap.size:=Nat.lt_of_lt_of_le f2 (aA d).aU.size;have a8:C≠w.heap.size:=by omega
   have HST:=aB M;have E:=aB (And.intro f5 (And.intro f4 b));have a9:=aA HA l[i] (List.getElem_mem y);have O:=aB (fun(w' :World)=>(aA d).next (w' :=w') y (g:=wr.heap.size) rfl);have Q:=aB (aA d).aU;clear s I M H f4 f5 b L HR d;generalize l[i]=X at *;go_wp2_with(at_make;apply Classical.byContradiction;intro c)
   apply c;clear c;refine wpList_make_full _ rfl _ _ 63 rfl _ 69 j0 (.agg #[.string ByteArray.empty,.string ByteArray.empty,.string ByteArray.empty]) 3 underlying63 hj a3 J .i64 .i64 _ _ (X.aC.length+1) rfl rfl (by simp) (by simp) (by rw[a4];omega) (by unfold maxLen;omega) (Nat.le_refl _) ?_;intro w3 hown r;have B:=Dz hown;have a:(dV wr w.heap.size (i*5) (bP X (.slice z X.aC.length A))).grownBy w3 none:=r;obtain⟨r1,r2,r3,r4⟩:=xL (bP X (.slice z X.aC.length A)) (w:=wr) (g:=w.heap.size) (o:=i*5);have A2:=(a.block w.heap.size (by rw[r4];exact K) (by simp)).trans (aA HST);have A3:∀q,q≠w.heap.size→q<wr.heap.size→w3.heap[q]?=wr.heap[q]?:=fun q t D=>(a.block q (by rw[r4];exact D) (by simp)).trans (n_ _ q t)
   have A4:Below w.heap.size w w3:=(aA Q).trans ⟨a.os.trans r1,a.tape.trans r2,a.output.trans r3,by have:=a.size;omega,fun q t=>A3 q (by omega) (by omega)⟩;have A5:=a.size;rw[r4]at A5;simp only[World.size_setCell]at B;have R:=NF (P:=Tryz.prog) w3 63 63 3 69 3 wr.heap.size (X.aC.length+1) (X.aC.length+1) z X.aC.length A _ 69 (aV X.aC) underlying63 (by rw[hj];simp[J]) B (lJ _) (by omega) (fun q=>NH ((aA E).2.1.below A4) q) (by rw[lJ,size_madeCells];omega) (NI _);rw[NJ X.aC.length X.aC rfl]at R;obtain⟨f,m⟩:∃f,f=w3.setRow wr.heap.size (aV X.aC++(nC++[])).toArray:=⟨_,rfl⟩;rw[←m]at R;have B1:f.heap[wr.heap.size]?=some (.cells (aV X.aC++(nC++[])).toArray 69 (0,0)):=by rw[m];exact setRow_heap w3 _ _ _ _ _ B
   have B3:∀q,q≠wr.heap.size→f.heap[q]?=w3.heap[q]?:=fun q t=>by rw[m];exact setRow_other w3 _ q _ t
   have B5:f.heap.size=w3.heap.size:=by rw[m];simp
   have B4:Below w.heap.size w f:=by rw[m];exact below_setRow A4 (by omega) _
   have S:wr.heap.size≠w.heap.size:=by omega
   have F:=(B3 _ (by omega)).trans A2;have P3:w3.cell? ⟨C,o1+i*5+4,none⟩=some (.slice z X.aC.length A):=(fU (A3 C a8 N)).trans p4;have P4:f.cell? ⟨C,o1+i*5+4,none⟩=some (.slice z X.aC.length A):=(fU (B3 C (by omega))).trans P3;obtain⟨T,ab,ad⟩:=aM B1;have Q0:f.cell? ⟨wr.heap.size,X.aC.length*3,none⟩=some (.string ⟨#[]⟩):=by
    rw[T];have e9:=lJ X.aC;simp[nC,e9,List.getElem?_append]
   obtain⟨Y,ae,af⟩:=aM F;have x:(bA k).length=i*5:=by rw[kZ,(aA E).2.2]
   have R4:f.cell? ⟨w.heap.size,i*5+4,none⟩=some (.slice z X.aC.length A):=by
    rw[Y];simp[bP,x,List.getElem?_append]
   have Z:((f.setCell ⟨wr.heap.size,X.aC.length*3,none⟩ (.string ⟨spare.toArray⟩)).setCell ⟨w.heap.size,i*5+4,none⟩ (.slice (some ⟨wr.heap.size,0,none⟩) X.aC.length (X.aC.length+1))).heap[wr.heap.size]?=some (.cells (aV X.aC++oJ).toArray 69 (0,0)):=by
    rw[heap_setCell_other _ ⟨w.heap.size,i*5+4,none⟩ wr.heap.size _ S,heap_setCell_same f wr.heap.size _ _ _ _ B1];have e9:=lJ X.aC;simp[nC,oJ,List.setIfInBounds_toArray,e9]
   have F2:((f.setCell ⟨wr.heap.size,X.aC.length*3,none⟩ (.string ⟨spare.toArray⟩)).setCell ⟨w.heap.size,i*5+4,none⟩ (.slice (some ⟨wr.heap.size,0,none⟩) X.aC.length (X.aC.length+1))).heap[w.heap.size]?=some (.cells (bA k++(bP X (.slice (some ⟨wr.heap.size,0,none⟩) X.aC.length (X.aC.length+1))++zr (l.length+1 - (i+1)))).toArray 65 (0,0)):=by
    rw[heap_setCell_same _ w.heap.size (i*5+4) _ _ _ ((heap_setCell_other f ⟨wr.heap.size,X.aC.length*3,none⟩ w.heap.size _ (Ne.symm S)).trans F),show l.length+1 - (i+1)=l.length - i by omega];simp[bP,List.setIfInBounds_toArray,x,List.set_append]
   have F3:∀q,q≠w.heap.size→q<wr.heap.size→((f.setCell ⟨wr.heap.size,X.aC.length*3,none⟩ (.string ⟨spare.toArray⟩)).setCell ⟨w.heap.size,i*5+4,none⟩ (.slice (some ⟨wr.heap.size,0,none⟩) X.aC.length (X.aC.length+1))).heap[q]?=wr.heap[q]?:=fun q t D=>by
    rw[heap_setCell_other _ ⟨w.heap.size,i*5+4,none⟩ q _ t,heap_setCell_other f ⟨wr.heap.size,X.aC.length*3,none⟩ q _ (show q≠wr.heap.size by omega),B3 q (by omega)];exact A3 q t D
   have F4:Below w.heap.size w ((f.setCell ⟨wr.heap.size,X.aC.length*3,none⟩ (.string ⟨spare.toArray⟩)).setCell ⟨w.heap.size,i*5+4,none⟩ (.slice (some ⟨wr.heap.size,0,none⟩) X.aC.length (X.aC.length+1))):=(B4.setCell (show w.heap.size≤wr.heap.size by omega) _).setCell (Nat.le_refl _) _;have G:=aB (aA O _ F4 F3 Z F2);clear Z F2 F3 F4 A2 F A3 A4 A5 B1 B3 B4 T Y B m hown r a r1 r2 r3 r4 x O Q HST E p0 p1 p2 p3 p4 q0 t D q3 q4;go_wp2_with fail
   go_roundg (l.length - (i+1))
   case measure=>omega
   case rel=>exact⟨i+1,_,by omega,rfl,by simp,G⟩
  have e1:decide ((i:Int)<(l.length:Int))=false:=by simp;omega
  have e3:decide (i<l.length)=false:=by simp;omega
  rw[show i=l.length by omega]at d;obtain⟨s,a7,K⟩:=aM (aA d).blk;have b:(bA k).length=l.length*5:=by have:=congrArg List.length (aA d).evs;simp at this;rw[kZ,this]
  have n:zr (l.length+1 - l.length)=kY++[]:=by rw[show l.length+1 - l.length=1 by omega];rfl
  have Q0:wr.cell? ⟨w.heap.size,l.length*5+1,none⟩=some (.string ⟨#[]⟩):=by
   rw[s,n];simp[kY,b,List.getElem?_append]
  have Z:(wr.setCell ⟨w.heap.size,l.length*5+1,none⟩ (.string ⟨spare.toArray⟩)).heap[w.heap.size]?=some (.cells (bA (k++[(Ps,.slice none 0 0)])).toArray 65 (0,0)):=by
   rw[heap_setCell_same wr w.heap.size _ _ _ _ (aA d).blk,n];simp[kY,Ps,bA,bP,List.setIfInBounds_toArray,List.set_append]at b⊢;simp[b];intro h9;omega
  have G:=aB (show CR w (wr.setCell ⟨w.heap.size,l.length*5+1,none⟩ (.string ⟨spare.toArray⟩)) l k from⟨Z,by rw[(aA d).evs,List.take_length],fun p hp=>by
   obtain⟨g,t,D,q3⟩:=(aA d).jT p hp
   exact⟨g,t,D,(heap_setCell_other wr ⟨w.heap.size,l.length*5+1,none⟩ g _ (show g≠w.heap.size by omega)).trans q3⟩,(aA d).nd,(aA d).aU.setCell (Nat.le_refl _) _⟩)
  have e5:(l.length:Int)<(l.length:Int)+1:=by omega
  clear s b n Z d y a5;go_wp2_with fail
  go_ret;exact⟨k,rfl,aA G⟩
end Go.Proofs.YtmgfijllcdadgaaGreatDoor.U
