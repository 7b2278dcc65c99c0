import Derived.Test.YtmgfijllcdadgaaGreatDoorNW45
import Derived.Test.YtmgfijllcdadgaaGreatDoorNW18
set_option linter.unusedVariables false
set_option linter.unusedSimpArgs false
set_option maxRecDepth 100000
namespace Go.Proofs.YtmgfijllcdadgaaGreatDoor.V
open Mk (Bs Ev aD)
open Rf (R)
open Rf (aP dG fE cN fQ gu fF lC fR eZ j_ fK aX cL)
variable {r:R}
theorem Og(h:r.stop=0)(i:8≤r.ot)(j:r.at_≤r.s.length)(l:List aD):Sx r (Rf.attrName r l).1 (Rf.attrName r l).2.2∧((Rf.attrName r l).2.2=true→(Rf.attrName r l).1.at_<(Rf.attrName r l).1.s.length):=by
 have k:=mS Rf.eY (r.s.drop r.at_);rw[List.length_drop]at k;unfold Rf.attrName;dsimp only;split
 .rename_i m;simp at m;exact⟨ez (by show r.at_+r.ot.toNat - 1<r.s.length;omega) rfl rfl,fun q=>by cases q⟩
 obtain⟨b,d⟩:=yh h i j;split
 .exact⟨b.no,fun q=>by cases q⟩
 rename_i c;have c:(Rf.word r).2.2=true:=by simpa using c
 have n:=b.ok c;have g:(Rf.word r).1.at_<(Rf.word r).1.s.length:=by rw[b.s];exact d c
 split
 .exact⟨ez g b.s b.ot,fun q=>by cases q⟩
 split
 .exact⟨ez g b.s b.ot,fun q=>by cases q⟩
 have o:=nE (r:=aP (Rf.word r).1) n 61;have a:Sx r _ _:=o.back ⟨b.s,b.ot⟩;split
 .exact⟨a.no,fun q=>by cases q⟩
 rename_i e;have e:(Rf.must (aP (Rf.word r).1) 61).2=true:=by simpa using e
 unfold Rf.ends;by_cases f:(aP (Rf.must (aP (Rf.word r).1) 61).1).at_<(aP (Rf.must (aP (Rf.word r).1) 61).1).s.length
 .simp only[if_pos f,Bool.false_eq_true,if_false];exact⟨dW (a.ok e) a.s a.ot,fun _=>f⟩
 simp only[if_neg f,if_true];exact⟨Po rfl a.s a.ot,fun q=>by cases q⟩
theorem yt(b:Int)(i:Nat):∀(f:Nat) {r:R} (n:Int),r.stop=0→Sx r (dG b i f r n).1 (dG b i f r n).2.2
 |0,r,n,h=>dW h rfl rfl
 |f+1,r,n,h=>by
  unfold dG;split
  .rename_i a;dsimp only;split
   .split
    .exact ez a rfl rfl
    exact dW h rfl rfl
   split
   .exact ez a rfl rfl
   exact Sx.back (yt b i f (r:={r with at_:=r.at_+1}) _ h) ⟨rfl,rfl⟩
  exact Po rfl rfl rfl
theorem Oh(h:r.stop=0):Sx r (Rf.number r).1 (Rf.number r).2.2:=by
 unfold Rf.number;dsimp only;split
 .exact Sx.back (yt _ _ _ (r:={r with at_:=r.at_+1+1}) _ h) ⟨rfl,rfl⟩
 exact Sx.back (yt _ _ _ (r:={r with at_:=r.at_+1}) _ h) ⟨rfl,rfl⟩
theorem DW(i:Nat):∀(f:Nat) {r:R},r.stop=0→Sx r (fE i f r).1 (fE i f r).2.2
 |0,r,h=>dW h rfl rfl
 |f+1,r,h=>by
  unfold fE;split
  .rename_i a;split
   .exact Oh h
   split
   .exact dW h rfl rfl
   .exact Sx.back (DW i f (r:={r with at_:=r.at_+1}) h) ⟨rfl,rfl⟩
   exact ez a rfl rfl
  exact Po rfl rfl rfl
theorem DX(h:r.stop=0):Sx r (Rf.reference r).1 (Rf.reference r).2.2:=Sx.back (DW _ _ (r:={r with at_:=r.at_+1}) h) ⟨rfl,rfl⟩
theorem DY(q:Int):∀(f:Nat) {r:R} (t:Bs) (c:Int),r.stop=0→Sx r (cN q f r t c).1 (cN q f r t c).2.2
 |0,r,t,c,h=>dW h rfl rfl
 |f+1,r,t,c,h=>by
  unfold cN;split
  .rename_i d;dsimp only;split
   .exact dW h rfl rfl
   split
   .exact ez d rfl rfl
   split
   .show Sx r (Rf.beyond r r.at_) false;exact rP d
   have b:∀X:R×Bs×Bool,Sx r X.1 X.2.2→Sx r (if X.2.2=true then cN q f X.1 (t++X.2.1) (c+1)else(X.1,[],false)).1 (if X.2.2=true then cN q f X.1 (t++X.2.1) (c+1)else(X.1,[],false)).2.2:=fun X a=>by
    split
    .rename_i e;exact(DY q f _ _ (a.ok e)).back ⟨a.s,a.ot⟩
    exact a.no
   refine b _ ?_;split
   .exact DX h
   exact rQ h
  exact Po rfl rfl rfl
theorem Oi(h:r.stop=0)(a:r.at_<r.s.length):Sx r (Rf.value r).1 (Rf.value r).2.2:=by
 unfold Rf.value;dsimp only;split
 .exact ez a rfl rfl
 exact Sx.back (DY _ _ (r:={r with at_:=r.at_+1}) _ _ h) ⟨rfl,rfl⟩
theorem DZ:∀(f:Nat) {r:R} (l:List aD),r.stop=0→8≤r.ot→Sx r (fQ f r l).1 (fQ f r l).2.2∧((fQ f r l).2.2=true→(fQ f r l).1.at_<(fQ f r l).1.s.length)
 |0,r,l,h,e=>⟨dW h rfl rfl,fun q=>by cases q⟩
 |f+1,r,l,h,e=>by
  unfold fQ;dsimp only;split
  .rename_i c;split
   .exact⟨dW h rfl rfl,fun _=>c⟩
   split
   .exact⟨ez c rfl rfl,fun q=>by cases q⟩
   split
   .exact⟨ez c rfl rfl,fun q=>by cases q⟩
   obtain⟨j,g⟩:=Og (r:=aP r) h e (Nat.le_of_lt c) l;have b:Sx r _ _:=j.back ⟨rfl,rfl⟩;split
   .exact⟨b.no,fun q=>by cases q⟩
   rename_i d;have d:(Rf.attrName (aP r) l).2.2=true:=by simpa using d
   have k:=Oi (j.ok d) (g d);have a:Sx r _ _:=k.back ⟨b.s,b.ot⟩;split
   .exact⟨a.no,fun q=>by cases q⟩
   rename_i i;have i:(Rf.value (Rf.attrName (aP r) l).1).2.2=true:=by simpa using i
   have m:=DZ f (l++[⟨(Rf.attrName (aP r) l).2.1,[],(Rf.value (Rf.attrName (aP r) l).1).2.1⟩]) (k.ok i) (by rw[a.ot];exact e);exact⟨m.1.back ⟨a.s,a.ot⟩,m.2⟩
  exact⟨Po rfl rfl rfl,fun q=>by cases q⟩
theorem Qz:∀(l:Bs) {r:R},r.stop=0→Sx r (gu l r).1 (gu l r).2
 |[],r,h=>dW h rfl rfl
 |x::l,r,h=>by
  unfold gu;dsimp only;have a:=nE h (x.toNat:Int);split
  .rename_i b;exact(Qz l (a.ok b)).back ⟨a.s,a.ot⟩
  exact a.no
theorem QA:∀(f:Nat) {r:R},r.stop=0→Sx r (fF f r).1 (fF f r).2
 |0,r,h=>dW h rfl rfl
 |f+1,r,h=>by
  unfold fF;split
  .dsimp only;split
   .exact Po rfl rfl rfl
   split
   .exact dW h rfl rfl
   have a:=rQ h;split
   .rename_i b;exact(QA f (r:=Rf.text (Rf.character r).1 (Rf.character r).2.1) (a.ok b)).back ⟨a.s,a.ot⟩
   exact a.no
  exact Po rfl rfl rfl
theorem Oj(h:r.stop=0):Sx r (lC r).1 (lC r).2:=by
 unfold lC;dsimp only;have a:=Qz [91,67,68,65,84,65,91] h;split
 .rename_i b;exact(QA _ (a.ok b)).back ⟨a.s,a.ot⟩
 exact a.no
theorem QB:∀(l:Bs) {r:R},r.stop=0→Sx r (fR l r).1 (fR l r).2
 |[],r,h=>dW h rfl rfl
 |x::l,r,h=>by
  unfold fR;split
  .rename_i a;split
   .exact ez a rfl rfl
   exact Sx.back (QB l (r:={r with at_:=r.at_+1}) h) ⟨rfl,rfl⟩
  exact Po rfl rfl rfl
theorem Ol(h:r.stop=0)(n:Bs):Sx r (eZ r n).1 (eZ r n).2:=by
 unfold eZ;dsimp only;have a:Sx r _ _:=(QB n (r:={r with at_:=r.at_+2}) h).back ⟨rfl,rfl⟩;split
 .exact a.no
 rename_i b;have b:(fR n {r with at_:=r.at_+2}).2=true:=by simpa using b
 split
 .rename_i c;simp at c;exact ez c.1 a.s a.ot
 exact Sx.back (nE (r:=aP (fR n {r with at_:=r.at_+2}).1) (a.ok b) 62) ⟨a.s,a.ot⟩
theorem Om(h:r.stop=0)(b:8≤r.ot)(d:r.at_+1<r.s.length)(c:Int):Sx r (j_ r c).1 (j_ r c).2:=by
 unfold j_;split
 .exact Sx.back (DV (r:={r with at_:=r.at_+2}) h b) ⟨rfl,rfl⟩
 split
 .exact ez d rfl rfl
 dsimp only;split
 .split
  .have a:Sx r _ _:=(nE (r:={r with at_:=r.at_+2}) h 45).back ⟨rfl,rfl⟩;split
   .rename_i e;exact(DT (a.ok e)).back ⟨a.s,a.ot⟩
   exact a.no
  exact Sx.back (Oj (r:={r with at_:=r.at_+2}) h) ⟨rfl,rfl⟩
 exact Po rfl rfl rfl
structure Kt(r q:R):Prop where
 stop:q.stop=r.stop
 s:q.s=r.s
 ot:q.ot=r.ot
theorem yu(r:R):∀(l:List aD) (q:R) (t:List aD),Kt q (fK r l q t).1
 |[],q,t=>⟨rfl,rfl,rfl⟩
 |a::l,q,t=>by
  unfold fK;split
  .have h:=yu r l (Rf.tell q ⟨6,(Rf.declaration a.name).1,[],a.val,[]⟩) t;exact⟨h.stop,h.s,h.ot⟩
  exact yu r l q _
theorem QC(r:R)(n:Bs)(l:List aD):Kt r (aX r n l):=by
 have h:=yu {r with opn:=r.opn++[n],tags:=r.tags++[l]} l {r with opn:=r.opn++[n],tags:=r.tags++[l]} [];exact⟨h.stop,h.s,h.ot⟩
theorem yw:∀(l:List aD) (q:R),Kt q (Rf.endGo l q)
 |[],q=>⟨rfl,rfl,rfl⟩
 |a::l,q=>by
  unfold Rf.endGo;split
  .have h:=yw l (Rf.tell q ⟨7,(Rf.declaration a.name).1,[],[],[]⟩);exact⟨h.stop,h.s,h.ot⟩
  exact yw l q
theorem QD(r:R)(n:Bs)(l:List aD):Kt r (Rf.gK r n l):=by
 have h:Kt r (Rf.ended r n l):=by
  unfold Rf.ended;dsimp only;split
  .have h:=yw l.reverse (Rf.tell r ⟨2,n,Rf.kI r n,[],[]⟩);exact⟨h.stop,h.s,h.ot⟩
  exact⟨rfl,rfl,rfl⟩
 exact⟨h.stop,h.s,h.ot⟩
mutual
theorem QE:∀(f:Nat) {r:R},r.stop=0→8≤r.ot→r.at_+1<r.s.length→Sx r (Rf.element f r).1 (Rf.element f r).2
 |0,r,h,p,t=>by
  unfold Rf.element;exact dW h rfl rfl
 |f+1,r,h,p,t=>by
  unfold Rf.element;dsimp only;split
  .exact ez t rfl rfl
  obtain⟨d,u⟩:=yh (r:={r with at_:=r.at_+1}) h p (Nat.le_of_lt t);have d:Sx r _ _:=d.back ⟨rfl,rfl⟩;generalize Rf.word {r with at_:=r.at_+1}=n at d u⊢;split
  .exact d.no
  rename_i v;have v:n.2.2=true:=by simpa using v
  obtain⟨b,i⟩:=DZ (n.1.s.length+1) (r:=n.1) [] (d.ok v) (by rw[d.ot];exact p);have b:Sx r _ _:=b.back ⟨d.s,d.ot⟩;change Sx r (Rf.attributes n.1).1 (Rf.attributes n.1).2.2 at b
  change (Rf.attributes n.1).2.2=true→(Rf.attributes n.1).1.at_<(Rf.attributes n.1).1.s.length at i
  generalize Rf.attributes n.1=a at b i⊢;split
  .exact b.no
  rename_i q;have q:a.2.2=true:=by simpa using q
  have y:=b.ok q;split
  .exact ez (i q) b.s b.ot
  split
  .have k:Sx r _ _:=(nE (r:={a.1 with at_:=a.1.at_+1}) y 62).back ⟨b.s,b.ot⟩;generalize Rf.must {a.1 with at_:=a.1.at_+1} 62=m at k⊢;split
   .rename_i z;have g:=QC m.1 n.2.1 a.2.1;have j:=QD (aX m.1 n.2.1 a.2.1) n.2.1 a.2.1;exact dW (j.stop.trans (g.stop.trans (k.ok z))) (j.s.trans (g.s.trans k.s)) (j.ot.trans (g.ot.trans k.ot))
   exact k.no
  have g:=QC {a.1 with at_:=a.1.at_+1} n.2.1 a.2.1;have l:Sx r _ _:=(uL f (r:=aX {a.1 with at_:=a.1.at_+1} n.2.1 a.2.1) (aX {a.1 with at_:=a.1.at_+1} n.2.1 a.2.1).at_ (g.stop.trans y) (by rw[g.ot];show 8≤a.1.ot;rw[b.ot];exact p)).back ⟨g.s.trans b.s,g.ot.trans b.ot⟩;generalize Rf.content f (aX {a.1 with at_:=a.1.at_+1} n.2.1 a.2.1) (aX {a.1 with at_:=a.1.at_+1} n.2.1 a.2.1).at_=c at l⊢;split
  .exact l.no
  rename_i w;have w:c.2=true:=by simpa using w
  have o:Sx r _ _:=(Ol (l.ok w) n.2.1).back ⟨l.s,l.ot⟩;generalize eZ c.1 n.2.1=e at o⊢;split
  .exact o.no
  rename_i x;have x:e.2=true:=by simpa using x
  have j:=QD e.1 n.2.1 a.2.1;exact dW (j.stop.trans (o.ok x)) (j.s.trans o.s) (j.ot.trans o.ot)
theorem uL:∀(f:Nat) {r:R} (i:Nat),r.stop=0→8≤r.ot→Sx r (Rf.content f r i).1 (Rf.content f r i).2
 |0,r,i,h,b=>by
  unfold Rf.content;exact dW h rfl rfl
 |f+1,r,i,h,b=>by
  unfold Rf.content;split
  .rename_i e;dsimp only;split
   .split
    .exact Po rfl rfl rfl
    rename_i g;split
    .exact dW h rfl rfl
    have d:∀X:R×Bool,Sx r X.1 X.2→Sx r (if X.2=true then Rf.content f X.1 X.1.at_ else(X.1,false)).1 (if X.2=true then Rf.content f X.1 X.1.at_ else(X.1,false)).2:=fun X a=>by
     split
     .rename_i c;exact(uL f _ (a.ok c) (by rw[a.ot];exact b)).back ⟨a.s,a.ot⟩
     exact a.no
    refine d _ ?_;split
    .exact QE f h b (by omega)
    exact Om h b (by omega) _
   split
   .have a:=DX h;generalize Rf.reference r=x at a⊢;split
    .rename_i c;exact(uL f (r:=Rf.text x.1 x.2.1) _ (a.ok c) (by show 8≤x.1.ot;rw[a.ot];exact b)).back ⟨a.s,a.ot⟩
    exact a.no
   split
   .exact ez e rfl rfl
   have a:=rQ h;generalize Rf.character r=x at a⊢;split
   .rename_i c;exact(uL f (r:=Rf.text x.1 x.2.1) _ (a.ok c) (by show 8≤x.1.ot;rw[a.ot];exact b)).back ⟨a.s,a.ot⟩
   exact a.no
  exact Po rfl rfl rfl
end
theorem Oo(h:r.stop=0)(i:8≤r.ot):Sx r (Rf.document r) false:=by
 unfold Rf.document;dsimp only;obtain⟨a,b⟩:=yp false (r.s.length+1) h i;change Sx r (cL false r).1 (cL false r).2 at a
 change (cL false r).2=true→(cL false r).1.at_+1<(cL false r).1.s.length at b
 generalize cL false r=m at a b⊢;split
 .exact a.no
 rename_i g;have g:m.2=true:=by simpa using g
 split
 .exact ez (b g) a.s a.ot
 have f:Sx r _ _:=(QE (2*r.s.length+2) (a.ok g) (by rw[a.ot];exact i) (b g)).back ⟨a.s,a.ot⟩;generalize Rf.element (2*r.s.length+2) m.1=e at f⊢;split
 .exact f.no
 rename_i j;have j:e.2=true:=by simpa using j
 obtain⟨c,d⟩:=yp true (e.1.s.length+1) (f.ok j) (by rw[f.ot];exact i);have c:Sx r _ _:=c.back ⟨f.s,f.ot⟩;change Sx r (cL true e.1).1 (cL true e.1).2 at c
 change (cL true e.1).2=true→(cL true e.1).1.at_+1<(cL true e.1).1.s.length at d
 generalize cL true e.1=x at c d⊢;split
 .rename_i k;exact ez (d k) c.s c.ot
 exact c.no
theorem Oq(od oa ot:Int)(on:Bool)(s:Bs)(h:8≤ot):(Rf.read od oa ot on s).at_≤s.length:=by
 unfold Rf.read;dsimp only;have hd:=Oo (r:=Rf.start od oa ot on s) rfl h;split
 .rename_i b;have a:=hd.bad b;rw[hd.s]at a;exact a
 exact Nat.le_refl _
theorem Ot(od oa ot:Int)(on:Bool)(s t:Bs)(h:8≤ot):(Rf.aS od oa ot on s t).at_≤(s++t).length:=Oq od oa ot on (s++t) h
end Go.Proofs.YtmgfijllcdadgaaGreatDoor.V
namespace Go.Proofs.YtmgfijllcdadgaaGreatDoor.U
open Go.RowKit
open Mk (Bs Ev aD)
open V
open Go.ChangeShapes Go.WideShapes Go.ChangeAt Go.RowKit Go.Deep
open Mk (St Bs Ev aD)
open Go.RowKit Go.ChangeShapes Go.WideShapes
open Go.Proofs.Tryz
variable {w:World}{v:Value}
theorem Ou{d e:Nat}{l:List Ev}(h:bN d e w v l):bN d w.heap.size w v l:=by
 obtain⟨a,c,f,i⟩:=h.form;refine⟨⟨a,c,f,fun k b=>?_⟩,h.len⟩;obtain⟨g,o,j,m,n,p,q⟩:=i k b;exact⟨g,o,j,m,n,p,q.high⟩
theorem nD.below{w w' :World}{v:Value}{b:List bR}(h:nD w v b)(d:Below w.heap.size w w'):nD w' v b:=by
 obtain⟨a,c,e,f⟩:=h.form;refine⟨⟨a,c,e,fun i k=>?_⟩,h.len⟩;obtain⟨g,o,l,m,n,p,q⟩:=f i k;have:=d.size;have r:=q.below d;exact⟨g,o,l,m,by omega,fun j s=>(by rw[←p j s];simp only[World.cell?];rw[d.block _ n]),Ou r⟩
theorem Ov{a:List bR}(d c b:Int)(h:nD w v a)(j:∀o∈a,oL o)
 (l:∀i (m:i<a.length),(rO d c b (iL a i) a[i]=true∨a[i].k=1)→ig (iL a i) a[i]=true) (n:fq a≤1100000) (q:a.length≤131072) (f:Gl w) (g:bG w) (r:2<w.heap.size):
 Calls Tryz.prog 16 #[v,.int .i64 d,.int .i64 c,.int .i64 b] w fun e w' =>e=.returned (.bool true)∧Below w.heap.size w w' :=
 Sb d c b h j (yg a) (fun i c p s=>Ot _ _ _ _ _ _ (yg a i (by omega) p s).t1) l n q f g r
theorem Ow(a:List bR)(i:Nat)(h:i<a.length)(b:rO 1 1 2 (iL a i) a[i]=true∨a[i].k=1):ig (iL a i) a[i]=true:=by
 have c:a[i].k=1:=by
  rcases b with b|b
  .unfold rO at b;simp at b;omega
  exact b
 unfold ig kC;rw[if_neg (by omega),if_neg (by rw[c];simp)]
theorem Ox{a:List bR}(h:nD w v a)(i:∀o∈a,oL o)(k:fq a≤1100000)(l:a.length≤131072)(b:Gl w)(c:bG w)(j:2<w.heap.size):
 Calls Tryz.prog 3 #[v] w fun e w' =>e=.returned (.bool true)∧Below w.heap.size w w' :=by
 have m:=aB (N_ b c j);have n:=aB (fun w' (f:Below w.heap.size w w')=>Ov 1 1 2 (h.below f) i (Ow a) k l (b.below j f) (c.below f) (by have:=f.size;omega));clear h i b c;go_enter func3,ntmps3
 go_wp2_with fail
 refine(aA m).mono ?_;rintro e w1 ⟨rfl,d⟩;go_wp2_with fail
 refine(aA n w1 d).mono ?_;rintro e w2 ⟨rfl,g⟩;go_wp2
 go_ret;exact⟨rfl,d.trans (g.mono d.size)⟩
theorem QF:Tryz.prog.cellsOf 60=8:=by kernel_rfl
theorem Oy:Tryz.prog.cellsOf 29=1:=by kernel_rfl
theorem Oz:Tryz.prog.cellsOf 40=4:=by kernel_rfl
theorem OA:Tryz.prog.cellsOf 4=1:=by kernel_rfl
def jZ(o:bR):Nat:=o.s.length+(o.l.map d_).sum+8
variable {H:Type}{enc:TypeId×Value→H}{W:World}{sp:Nat→Bool}
theorem OB(n:Nat)(f:List Value)(d:DataW H)(p:List MemPlace)(h:DataW.trod enc Tryz.prog W 0 sp true n 60 f=some (d,p)):∃x:bR×Value,f=(qd x.1 x.2).toList∧jZ x.1≤Rows.uptoBulk d∧bN 0 W.heap.size W x.2 x.1.l∧(Lit.int .i64 x.1.n).wf=true:=by
 obtain⟨G,m,_,g,i,b,c⟩:=DataW.trod_struct underlying60 h;rw[QF]at i;match f,i with
 |[R,S,T,X,Y,Z,c6,j],_=>
  match G,b with
  |[y0,y1,yo,y6,I],_=>
   have k:=c 0 _ rfl;have o:=c 1 _ rfl;have r:=c 2 _ rfl;have s:=c 3 _ rfl;have t:=c 4 _ rfl;simp[qF,sS,Oy,Oz]at k o r s t;obtain⟨zs,q,_,rfl,_,a,e⟩:=DataW.trod_struct underlying40 r;match zs,a with
   |[y2,y3,y4,y5],_=>
   have u:=e 0 _ rfl;have w:=e 1 _ rfl;have y:=e 2 _ rfl;have z:=e 3 _ rfl;simp[sS,OA]at u w y z;obtain⟨J,e0,rfl,w0⟩:=DataW.trod_int underlying3 k;obtain⟨K,A,rfl,w1⟩:=DataW.trod_int underlying3 o;obtain⟨L,B,rfl,w2⟩:=DataW.trod_int underlying3 u;obtain⟨M,C,rfl,w3⟩:=DataW.trod_int underlying3 w;obtain⟨N,D,rfl,w4⟩:=DataW.trod_int underlying3 y;obtain⟨O,E,rfl⟩:=DataW.trod_bool underlying4 z;obtain⟨P,F,rfl,_⟩:=DataW.trod_string underlying9 s;obtain⟨d7,p7⟩:=I;obtain⟨l,Q,hb⟩:=Jv (v:=j) t;simp at g e0 A B C D E F;obtain⟨rfl,rfl⟩:=g;refine⟨(⟨J,K,L,M,N,O,P.data.toList,l⟩,j),?_,?_,Q,w1⟩
   .simp[qd,e0,A,B,C,D,E,F]
   simp[jZ,Rows.uptoBulk,Rows.uptoBulkAll];omega
theorem OC{e:Nat}{d:DataW H}{p:List MemPlace}(h:DataW.trod enc Tryz.prog W 0 sp true e 22 [v]=some (d,p)):∃b:List bR,nD W v b∧(b.map jZ).sum+1≤Rows.uptoBulk d∧∀o∈b,(Lit.int .i64 o.n).wf=true:=by
 obtain⟨l,a,c,m,q,r,s,i⟩:=wB (fun x:bR×Value=>(qd x.1 x.2).toList) (fun x=>jZ x.1) (fun x=>bN 0 W.heap.size W x.2 x.1.l∧(Lit.int .i64 x.1.n).wf=true) underlying22 QF (by decide) OB h;refine⟨l.map (·.1),⟨⟨a,c,by rw[List.length_map];exact m,fun k f=>?_⟩,by unfold maxLen at q;rw[List.length_map];omega⟩,by rw[List.map_map];exact s,fun o t=>?_⟩
 .rw[List.length_map]at f;obtain⟨g,o,u,w,y⟩:=r k f;refine⟨g,o,l[k].2,u,w,fun j z=>?_,?_⟩
  .rw[List.getElem_map,y j z,Array.getElem?_toList]
  rw[List.getElem_map];exact(i _ (List.getElem_mem f)).1
 obtain⟨x,A,rfl⟩:=List.mem_map.1 t;exact(i x A).2
theorem uM{b:Type}(f:b→Nat):∀(l:List b) (x:b),x∈l→f x≤(l.map f).sum
 |[],x,h=>by cases h
 |a::l,x,h=>by
  simp only[List.map_cons,List.sum_cons];rcases List.mem_cons.1 h with rfl|h
  .omega
  have:=uM f l x h;omega
theorem uN{b:Type}(f:b→Nat)(k:Nat)(c:∀x,k≤f x):∀l:List b,k*l.length≤(l.map f).sum
 |[]=>by simp
 |a::l=>by
  have d:=uN f k c l;have e:=c a;simp only[List.map_cons,List.sum_cons,List.length_cons,Nat.mul_add,Nat.mul_one];omega
theorem D_:∀l:List bR,fq l≤(l.map jZ).sum
 |[]=>by simp[fq]
 |a::l=>by
  have b:=D_ l;simp only[fq,List.map_cons,List.sum_cons,jZ];omega
theorem OD(l:List bR):8*l.length≤(l.map jZ).sum:=uN jZ 8 (fun x=>by unfold jZ;omega) l
theorem Ea(l:List Ev):6*l.length≤(l.map d_).sum:=uN d_ 6 (fun x=>by unfold d_;omega) l
theorem OE(l:List aD):4*l.length≤(l.map iE).sum:=uN iE 4 (fun x=>by unfold iE;omega) l
theorem OG(l:List Ev)(h:(l.map d_).sum≤1048576):rJ l:=by
 have f:=Ea l;refine⟨by omega,fun x b=>?_⟩;have a:=uM d_ l x b;have c:=OE x.aC;unfold d_ at a;unfold d_ at h;refine⟨by omega,by omega,fun _=>by omega,by omega,fun y d=>?_⟩;have e:=uM iE x.aC y d;unfold iE at e a c;unfold iE at h;exact⟨by omega,by omega⟩
theorem rR{b:Type}(f:b→Bs)(g:b→Nat)(h:∀x,(f x).length≤6*g x):∀l:List b,(l.flatMap f).length≤6* (l.map g).sum
 |[]=>by simp
 |a::l=>by
  have c:=rR f g h l;have d:=h a;simp only[List.flatMap_cons,List.length_append,List.map_cons,List.sum_cons];omega
theorem Eb(b:UInt8)(r:Bs)(h:r.length≤6):(either b r).length≤6*1:=by
 unfold either;split
 .simp
 exact h
theorem Ec(b:UInt8):(jI b).length≤6:=by
 unfold jI
 (repeat' split)<;>simp
theorem OH(b:UInt8):(kz b).length≤6:=by
 unfold kz
 (repeat' split)<;>first|simp|exact Ec b
theorem ones{b:Type}(l:List b):(l.map fun _=>1).sum=l.length:=by
 induction l with
 |nil=>rfl
 |cons a l ih=>simp only[List.map_cons,List.sum_cons,ih,List.length_cons];omega
theorem OI(v:Bs):(iI v).length≤6*v.length:=by
 have:=rR (fun b=>either b (jI b)) (fun _=>1) (fun b=>Eb b _ (Ec b)) v;rw[ones]at this;exact this
theorem OJ(v:Bs):(iJ v).length≤6*v.length:=by
 have:=rR (fun b=>either b (kz b)) (fun _=>1) (fun b=>Eb b _ (OH b)) v;rw[ones]at this;exact this
theorem Ed(n v:Bs):(gh n v).length≤n.length+6*v.length+4:=by
 have:=OJ v;unfold gh;simp;omega
theorem OL(p:Bs):(iZ p).length≤p.length+6:=by
 unfold iZ Mk.jm;split<;>simp
theorem OM(b:Ev):(gh (iZ b.name) b.val).length≤6*d_ b:=by
 have a:=Ed (iZ b.name) b.val;have c:=OL b.name;unfold d_;omega
theorem OO(a:aD):(gh a.name a.val).length≤6*iE a:=by
 have b:=Ed a.name a.val;unfold iE;omega
theorem OP(e:Ev)(c:List Ev):(jX e c).length≤6*d_ e+6* (c.map d_).sum:=by
 have d:=rR (fun b:Ev=>gh (iZ b.name) b.val) d_ OM c;have f:=rR (fun a:aD=>gh a.name a.val) iE OO e.aC;unfold jX d_;simp only[List.length_append,List.length_cons,List.length_nil];unfold d_ at d;omega
theorem OQ(e:Ev):(iK e).length≤6*d_ e:=by
 have a:=OI e.val;unfold iK d_
 (repeat' split)<;>simp<;>omega
theorem yx:∀(l a:List Ev),(jk a l).length≤6* (a.map d_).sum+6* (l.map d_).sum
 |[],a=>by simp[jk]
 |e::r,a=>by
  have b:=yx r (a++[e]);have c:=yx r [];have d:=OP e a;have f:=OQ e;simp only[List.map_append,List.sum_append,List.map_cons,List.map_nil,List.sum_cons,List.sum_nil]at b c;unfold jk;simp only[List.map_cons,List.sum_cons];split
  .omega
  split<;>simp only[List.length_append]<;>omega
theorem OT(l:List Ev):(fo l).length≤6* (l.map d_).sum:=by
 have:=yx l [];simpa[fo]using this
theorem PX:∀l:List aD,g_ l≤6* (l.map iE).sum
 |[]=>by simp[g_]
 |a::l=>by
  have:=PX l;simp only[g_,List.map_cons,List.sum_cons];unfold iE;unfold iE at this;omega
theorem Ee:∀l:List Ev,fW l≤6* (l.map d_).sum
 |[]=>by simp[fW]
 |a::l=>by
  have b:=Ee l;have c:=PX a.aC;simp only[fW,List.map_cons,List.sum_cons];unfold kT d_;unfold d_ at b;omega
theorem OU(o:bR)(b:(Lit.int .i64 o.n).wf=true)(h:jZ o≤1048576):oL o:=by
 have c:(o.l.map d_).sum≤1048576:=by unfold jZ at h;omega
 have d:=OT o.l;have e:=Ee o.l;have f:=Ea o.l;have a:=bounds_i64 b;exact⟨a.1,a.2,OG o.l c,by omega,by omega,by omega⟩
theorem OV(a:List bR)(c:∀o∈a,(Lit.int .i64 o.n).wf=true)(h:(a.map jZ).sum≤1048576):∀o∈a,oL o:=
 fun o b=>OU o (c o b) (by have:=uM jZ a o b;omega)
end Go.Proofs.YtmgfijllcdadgaaGreatDoor.U
