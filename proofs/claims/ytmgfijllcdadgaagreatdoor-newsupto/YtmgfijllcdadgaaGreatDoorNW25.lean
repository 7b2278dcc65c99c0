import Derived.Test.YtmgfijllcdadgaaGreatDoorNW23
import Derived.Test.YtmgfijllcdadgaaGreatDoorNW24
set_option linter.unusedVariables false
set_option linter.unusedSimpArgs false
namespace Go.Proofs.YtmgfijllcdadgaaGreatDoor.V
open Go.RowKit
open Mk (Bs Ev aD)
open Rf (R)
open Rf (gu fF fR eZ j_ fK cN aP fQ gK aX)
variable {r:R}{nm:Bs}
theorem Kp.le{a:R}(h:Kp a r):r.at_≤r.s.length:=by rw[h.s];exact h.len
theorem wO:∀(l:Bs) (r:R),r.at_≤r.s.length→Kp r (gu l r).1∧((gu l r).2=true→r.at_+l.length≤(gu l r).1.at_)
 |[],r,h=>⟨.refl h,fun _=>Nat.le_refl _⟩
 |x::l,r,h=>by
  rw[tQ];have a:=fS h (x.toNat:Int);split
  .rename_i c;have b:=a.2 c;have:=wO l (Rf.must r (x.toNat:Int)).1 a.1.le;refine⟨a.1.trans this.1,fun e=>?_⟩;have:=this.2 e;rw[b.1]at this;rw[b.1];simp only[List.length_cons]at this⊢;have d:({r with at_:=r.at_+1}:R).at_=r.at_+1:=rfl;omega
  exact⟨a.1,fun e=>by cases e⟩
theorem Bj{k:Nat}(a:r.at_<k)(b:k≤r.s.length)(t:Bs):Kp r (Rf.text {r with at_:=k} t):=nV a b _
theorem pN(h:r.at_<r.s.length)(a:(Rf.character r).2.2=true):Kp r (Rf.text (Rf.character r).1 (Rf.character r).2.1)∧r.at_<(Rf.text (Rf.character r).1 (Rf.character r).2.1).at_:=by
 obtain⟨k,d,b,c,_⟩:=(gX h).2 a;rw[b];exact⟨Bj (by omega) c _,by show r.at_<r.at_+k;omega⟩
theorem tT(h:r.at_<r.s.length)(a:(Rf.reference r).2.2=true):Kp r (Rf.text (Rf.reference r).1 (Rf.reference r).2.1)∧r.at_<(Rf.text (Rf.reference r).1 (Rf.reference r).2.1).at_:=by
 obtain⟨k,d,b,c,_⟩:=(PD h).2 a;rw[c];exact⟨Bj (by omega) b _,by show r.at_<k;omega⟩
theorem Bl:∀(f:Nat) (r:R),r.at_≤r.s.length→Kp r (fF f r).1
 |0,r,h=>.refl h
 |f+1,r,h=>by
  rw[fF];split
  .rename_i b;simp only;split
   .exact(Kp.to (by omega) (Nat.le_refl _)).stop 1
   split
   .rename_i k a;simp only[Bool.and_eq_true,beq_iff_eq]at a;have c:r.at_+3≤r.s.length:=by
     apply Classical.byContradiction;intro p;have d:r.s.length=r.at_+1∨r.s.length=r.at_+2:=by omega
     obtain⟨y,e,_,g⟩:=bH r r.at_ b;have l:r.s.drop r.at_=y::r.s.drop (r.at_+1):=drop_at g;have m:y=93:=by
      have:=a.1.1;rw[e]at this;exact UInt8.toNat_inj.1 (by have:y.toNat=93:=(by omega);rw[this];rfl)
     rcases d with d|d
     .apply k;simp[l,m,List.drop_of_length_le (show r.s.length≤r.at_+1 by omega),a.1.1]
     obtain⟨z,i,_,j⟩:=bH r (r.at_+1) (by omega);have n:r.s.drop (r.at_+1)=z::r.s.drop (r.at_+1+1):=drop_at j;have o:z=93:=by
      have:=a.1.2;rw[i]at this;exact UInt8.toNat_inj.1 (by have:z.toNat=93:=(by omega);rw[this];rfl)
     apply k;simp[l,n,m,o,List.drop_of_length_le (show r.s.length≤r.at_+1+1 by omega),a.1.1]
    exact .to (by omega) c
   split
   .rename_i c;have:=pN b c;exact this.1.trans (Bl f _ this.1.le)
   exact(gX b).1
  exact(Kp.refl h).stop 1
theorem Rw(h:r.at_≤r.s.length):Kp r (Rf.lC r).1:=by
 rw[wM];have:=wO fG r h;split
 .exact this.1.trans (Bl _ _ this.1.le)
 exact this.1
theorem Bm:∀(l:Bs) (r:R),r.at_≤r.s.length→Kp r (fR l r).1
 |[],r,h=>.refl h
 |x::l,r,h=>by
  rw[wL];split
  .split
   .exact(Kp.refl h).fail 5
   exact(Kp.to (k:=r.at_+1) (by omega) (by omega)).trans (Bm l _ (by show r.at_+1≤r.s.length;omega))
  exact(Kp.refl h).stop 1
theorem wP(h:r.at_+2≤r.s.length)(a:Bs):Kp r (eZ r a).1:=by
 rw[Bh];have b:=(Kp.to (r:=r) (k:=r.at_+2) (by omega) h).trans (Bm a {r with at_:=r.at_+2} h);generalize fR a {r with at_:=r.at_+2}=x at *;split
 .unfold qR;split
  .exact b.fail 5
  have c:=b.trans (gb b.le);exact c.trans (fS c.le 62).1
 exact b
theorem qT(h:r.at_+2≤r.s.length)(f:0≤r.ot)(c:Int):Kp r (j_ r c).1∧((j_ r c).2=true→r.at_<(j_ r c).1.at_):=by
 have a:Kp r {r with at_:=r.at_+2}:=.to (by omega) h;unfold j_;split
 .have:=tO (r:={r with at_:=r.at_+2}) h f;exact⟨a.trans this,fun _=>by have:=this.gz;exact Nat.lt_of_lt_of_le (show r.at_<r.at_+2 by omega) this⟩
 split
 .exact⟨(Kp.to (k:=r.at_+1) (by omega) (by omega)).fail 3,fun e=>by cases e⟩
 simp only;split
 .split
  .have b:=fS (r:={r with at_:=r.at_+2}) h 45;split
   .have g:=tN b.1.le;have d:=b.1.trans g;exact⟨a.trans d,fun _=>by have:=d.gz;exact Nat.lt_of_lt_of_le (show r.at_<r.at_+2 by omega) this⟩
   exact⟨a.trans b.1,fun e=>by cases e⟩
  have:=Rw (r:={r with at_:=r.at_+2}) h;exact⟨a.trans this,fun _=>by have:=this.gz;exact Nat.lt_of_lt_of_le (show r.at_<r.at_+2 by omega) this⟩
 exact⟨a.stop 1,fun e=>by cases e⟩
def Te(r q:R)(n:Nat):Prop:=q={r with events:=q.events}∧q.events.length≤r.events.length+n
theorem Te.tell{r q:R}{n:Nat}(h:Te r q n)(e:Ev):Te r (Rf.tell q e) (n+1):=by
 obtain⟨a,b⟩:=h;refine⟨?_,by simp[Rf.tell];omega⟩;rw[a];rfl
theorem wQ(s:R){r:R}:∀(l:List aD) (q:R) (told:List aD) (n:Nat),Te r q n→Te r (fK s l q told).1 (n+l.length)∧True
 |[],q,told,n,h=>⟨h,trivial⟩
 |a::l,q,told,n,h=>by
  rw[fK];split
  .have:=wQ s l _ told (n+1) (h.tell ⟨6,(Rf.declaration a.name).1,[],a.val,[]⟩);rw[show n+(a::l).length=n+1+l.length by simp;omega];exact this
  have:=(wQ s l q (told++[⟨a.name,if s.on then Rf.aZ s.tags (Rf.parts a.name).1 else[],a.val⟩]) n h).1;exact⟨⟨this.1,by have:=this.2;simp;omega⟩,trivial⟩
theorem Rx(r:R)(b:Bs)(a:List aD):Te r (Rf.started r b a) (a.length+1):=by
 unfold Rf.started;have:=(wQ r a r [] 0 ⟨rfl,Nat.le_refl _⟩).1;rw[Nat.zero_add]at this;exact this.tell _
theorem wR{r:R}:∀(l:List aD) (q:R) (n:Nat),Te r q n→Te r (Rf.endGo l q) (n+l.length)
 |[],q,n,h=>h
 |a::l,q,n,h=>by
  rw[Rf.endGo];rw[show n+(a::l).length=n+1+l.length by simp;omega];split
  .exact wR l _ (n+1) (h.tell _)
  exact wR l _ (n+1) ⟨h.1,by have:=h.2;omega⟩
theorem wS(r:R)(b:Bs)(a:List aD):Te r (Rf.ended r b a) (a.length+1):=by
 unfold Rf.ended;simp only;have d:Te r r 0:=⟨rfl,Nat.le_refl _⟩;have c:=d.tell ⟨2,b,Rf.kI r b,[],[]⟩;split
 .have:=wR a.reverse _ 1 c;rw[List.length_reverse]at this;exact⟨this.1,by have:=this.2;omega⟩
 exact⟨c.1,by have:=c.2;omega⟩
theorem Bn(q:Int):∀(f:Nat) (r:R) (t:Bs) (c:Int),(cN q f r t c).2.2=true→(cN q f r t c).1.events=r.events
 |0,r,t,c,e=>by cases e
 |f+1,r,t,c,e=>by
  rw[cN]at e⊢;split at e
  .rename_i a;rw[if_pos a];simp only at e⊢;split at e
   .rename_i b;rw[if_pos b]
   rename_i b;rw[if_neg b];split at e
   .cases e
   rename_i m;rw[if_neg m];split at e
   .cases e
   rename_i n;rw[if_neg n];have d:∀x:R×Bs×Bool,x=(if r.byte r.at_==38 then Rf.reference r else((Rf.character r).1,if(Rf.character r).2.1=[10]∨(Rf.character r).2.1=[9]then[32]else(Rf.character r).2.1,(Rf.character r).2.2))→x.2.2=true→x.1.events=r.events:=by
    intro x d g;subst d;split at g
    .rename_i h;rw[if_pos h];obtain⟨k,_,_,i,_⟩:=(PD a).2 g;rw[i]
    rename_i h;rw[if_neg h];obtain⟨k,_,i,_⟩:=(gX a).2 g;show(Rf.character r).1.events=_;rw[i]
   generalize o:(if r.byte r.at_==38 then Rf.reference r else((Rf.character r).1,if(Rf.character r).2.1=[10]∨(Rf.character r).2.1=[9]then[32]else(Rf.character r).2.1,(Rf.character r).2.2))=x at *;have j:=d x rfl;split at e
   .rename_i l;rw[if_pos l];rw[Bn q f x.1 _ _ e,j l]
   cases e
  cases e
theorem Ry(e:(Rf.value r).2.2=true):(Rf.value r).1.events=r.events:=by
 unfold Rf.value at e⊢;simp only at e⊢;split at e
 .cases e
 rename_i h;rw[if_neg h];rw[Bn _ _ _ _ _ e]
theorem Rz(h:r.at_≤r.s.length)(p:1≤r.ot){a:List aD}(e:(Rf.attrName r a).2.2=true):(Rf.attrName r a).1.events=r.events:=by
 rw[wF]at e⊢;split at e
 .cases e
 rename_i g;rw[if_neg g];split at e
 .rename_i c;rw[if_pos c];have i:=(wI c).1;have j:=jR h (by omega:0≤r.ot);have k:(Rf.word r).1.events=r.events:=by rw[i]
  have l:=j.le;generalize(Rf.word r).1=q at *;unfold pK at e⊢;split at e
  .cases e
  rename_i m;rw[if_neg m];split at e
  .cases e
  rename_i n;rw[if_neg n];split at e
  .rename_i d;rw[if_pos d];have o:=(fS (r:=aP q) (gb l).le 61).2 d;unfold pJ at e⊢;split at e
   .cases e
   rename_i f;rw[if_neg f];have b:=(sW (by simpa using f)).1;show(Rf.ends (aP (Rf.must (aP q) 61).1)).1.events=_;rw[b,o.1];exact k
  cases e
 cases e
theorem Bo:∀(f:Nat) (r:R) (a:List aD),r.at_≤r.s.length→1≤r.ot→(fQ f r a).2.2=true→(fQ f r a).1.events=r.events
 |0,r,a,_,_,e=>by cases e
 |f+1,r,a,h,o,e=>by
  rw[qQ]at e⊢;have k:=gb h;have l:=k.le;have c:1≤(aP r).ot:=by rw[k.ot];exact o
  have m:(aP r).events=r.events:=rfl;generalize aP r=q at *;unfold nU at e⊢;split at e
  .rename_i p;rw[if_pos p];split at e
   .rename_i d;rw[if_pos d];exact m
   rename_i d;rw[if_neg d];split at e
   .cases e
   rename_i t;rw[if_neg t];split at e
   .cases e
   rename_i u;rw[if_neg u];have g:=qO l c a;split at e
   .rename_i i;rw[if_pos i];obtain⟨y,v,z⟩:=g.2 i;have j:=Rz l c i;generalize Rf.attrName q a=x at *;have w:=qP (r:=x.1) (by rw[g.1.s];exact v);have b:=g.1.trans w;split at e
    .rename_i n;rw[if_pos n];exact(Bo f (Rf.value x.1).1 (a++[(⟨x.2.1,[],(Rf.value x.1).2.1⟩:aD)]) b.le (by rw[b.ot];exact c) e).trans ((Ry n).trans (j.trans m))
    cases e
   cases e
  cases e
theorem Bp:∀(f:Nat) (r:R) (a:List aD),r.at_≤r.s.length→1≤r.ot→(fQ f r a).2.2=true→(fQ f r a).2.1.length+r.at_≤a.length+(fQ f r a).1.at_
 |0,r,a,_,_,e=>by cases e
 |f+1,r,a,h,l,e=>by
  rw[qQ]at e⊢;have c:=gb h;have m:=c.le;have i:1≤(aP r).ot:=by rw[c.ot];exact l
  have w:=c.gz;generalize aP r=q at *;unfold nU at e⊢;split at e
  .rename_i n;rw[if_pos n];split at e
   .rename_i d;rw[if_pos d];simp only;omega
   rename_i d;rw[if_neg d];split at e
   .cases e
   rename_i o;rw[if_neg o];split at e
   .cases e
   rename_i p;rw[if_neg p];have g:=qO m i a;split at e
   .rename_i j;rw[if_pos j];obtain⟨y,t,z⟩:=g.2 j;generalize Rf.attrName q a=x at *;have k:=qP (r:=x.1) (by rw[g.1.s];exact t);have u:=k.gz;have b:=g.1.trans k;split at e
    .rename_i v;rw[if_pos v];have:=Bp f (Rf.value x.1).1 (a++[⟨x.2.1,[],(Rf.value x.1).2.1⟩]) b.le (by rw[b.ot];exact i) e;rw[List.length_append]at this;simp only[List.length_cons,List.length_nil]at this;omega
    cases e
   cases e
  cases e
def nW(f:Nat)(r:R)(nm:Bs)(aC:List aD):R×Bool:=
 if(Rf.content f r r.at_).2 then(if(eZ (Rf.content f r r.at_).1 nm).2 then(gK (eZ (Rf.content f r r.at_).1 nm).1 nm aC,true)else((eZ (Rf.content f r r.at_).1 nm).1,false))else((Rf.content f r r.at_).1,false)
def PE(f:Nat)(r:R)(nm:Bs)(aC:List aD):R×Bool:=
 if r.on&& !Rf.qualified r nm aC then(Rf.fail r 8,false)
 else if r.byte r.at_==47 then
  (if(Rf.must {r with at_:=r.at_+1} 62).2 then(gK (aX (Rf.must {r with at_:=r.at_+1} 62).1 nm aC) nm aC,true)else((Rf.must {r with at_:=r.at_+1} 62).1,false))
 else nW f (aX {r with at_:=r.at_+1} nm aC) nm aC
def PF(f:Nat)(q:R):R×Bool:=
 if(q.opn.length:Int)==q.od then(Rf.fail q 7,false)
 else if(Rf.word q).2.2 then
  (if(Rf.attributes (Rf.word q).1).2.2 then PE f (Rf.attributes (Rf.word q).1).1 (Rf.word q).2.1 (Rf.attributes (Rf.word q).1).2.1 else((Rf.attributes (Rf.word q).1).1,false))
 else((Rf.word q).1,false)
theorem nX(f:Nat)(r:R):Rf.element (f+1) r=PF f {r with at_:=r.at_+1}:=by
 rw[Rf.element];unfold PF;simp only;split
 .rfl
 generalize Rf.word _=x;cases x.2.2
 .rfl
 simp only[Bool.not_true,Bool.false_eq_true,if_false,if_true];generalize Rf.attributes x.1=a;cases a.2.2
 .rfl
 simp only[Bool.not_true,Bool.false_eq_true,if_false,if_true];unfold PE;split
 .rfl
 split
 .rfl
 unfold nW;generalize Rf.content f _ _=c;cases c.2
 .rfl
 simp only[Bool.not_true,Bool.false_eq_true,if_false,if_true];generalize eZ c.1 _=e;cases e.2<;>rfl
theorem l_(q:R)(nm:Bs)(a:List aD):(aX q nm a)={q with events:=(aX q nm a).events,opn:=q.opn++[nm],tags:=q.tags++[a]}∧(aX q nm a).events.length≤q.events.length+(a.length+1):=by
 have:=Rx {q with opn:=q.opn++[nm],tags:=q.tags++[a]} nm a;exact⟨this.1,this.2⟩
theorem wT(m:R)(nm:Bs)(a:List aD):(gK m nm a)={m with events:=(gK m nm a).events,opn:=m.opn.dropLast,tags:=m.tags.dropLast}∧(gK m nm a).events.length≤m.events.length+(a.length+1):=by
 have:=wS m nm a;unfold gK;simp only;generalize Rf.ended m nm a=q at *;obtain⟨b,c⟩:=this;refine⟨?_,c⟩;rw[b]
theorem Br{q m:R}{a:List aD}(d:Kp r q)(j:a.length+r.at_+2≤q.at_)(k:q.events.length+4*r.at_+4*a.length+8≤r.events.length+4*q.at_)(b:Kp (aX q nm a) m):Kp r (gK m nm a):=by
 obtain⟨e,l⟩:=l_ q nm a;obtain⟨f,n⟩:=wT m nm a;generalize aX q nm a=o at *;generalize gK m nm a=c at *;have p:=b.ev;have t:=b.gz;have h:=b.len;have u:o.at_=q.at_:=by rw[e]
 have i:o.s=r.s:=by rw[e];exact d.s
 rw[i]at h;have g:c.at_=m.at_:=by rw[f]
 refine⟨?_,?_,?_,?_,?_,?_,?_,?_,?_,?_⟩
 .rw[f];exact b.s.trans i
 .rw[f];exact b.od.trans (by rw[e];exact d.od)
 .rw[f];exact b.oa.trans (by rw[e];exact d.oa)
 .rw[f];exact b.ot.trans (by rw[e];exact d.ot)
 .rw[f];exact b.on.trans (by rw[e];exact d.on)
 .rw[g];have:=d.gz;omega
 .rw[g];exact h
 .rw[g];omega
 .rw[f];show m.opn.dropLast=_;rw[b.op,e];show(q.opn++[nm]).dropLast=_;rw[List.dropLast_concat,d.op]
 rw[f];show m.tags.dropLast=_;rw[b.tg,e];show(q.tags++[a]).dropLast=_;rw[List.dropLast_concat,d.tg]
def PG(r:R)(x:R×Bool):Prop:=x.2=true→Kp r x.1∧x.1.at_+2≤r.s.length
def tV(r:R)(x:R×Bool):Prop:=x.2=true→Kp r x.1∧r.at_<x.1.at_
structure Pre(r a:R)(nm:Bs)(aC:List aD):Prop where
 kp:Kp r a
 sh:Sh aC
 at_:a.at_<r.s.length
 n:aC.length+r.at_+1≤a.at_
 ev:a.events=r.events
 nl:nm.length≤100000000
theorem nY{q w:R}{x:R×List aD×Bool}(h:r.at_<r.s.length)(n:1≤r.ot)(j:r.s.length≤100000000)(o:q={r with at_:=r.at_+1})(g:(Rf.word q)=(w,nm,true))(k:Rf.attributes w=x)(l:x.2.2=true):Pre r x.1 nm x.2.1:=by
 subst o k;have p:Kp r {r with at_:=r.at_+1}:=.to (by omega) (by omega);have a:=wI (r:={r with at_:=r.at_+1}) (by rw[g]);have b:=p.trans (jR (r:={r with at_:=r.at_+1}) (by show r.at_+1≤r.s.length;omega) (by show 0≤r.ot;omega));rw[g]at a b;simp only at a b;have c:=b.le;have d:1≤w.ot:=by rw[b.ot];exact n
 have f:=Be c d (by rw[b.s];exact j);have i:=Bp (w.s.length+1) w [] c d l;have hev:=Bo (w.s.length+1) w [] c d l;have t:r.at_+1≤w.at_:=by rw[a.1];show r.at_+1≤r.at_+1+_;omega
 have m:w.events=r.events:=by rw[a.1]
 refine⟨b.trans f.1,f.2.1,?_,?_,?_,?_⟩
 .have:=f.2.2 l;rw[b.s]at this;exact this
 .have u:(Rf.attributes w).2.1.length+w.at_≤([]:List aD).length+(Rf.attributes w).1.at_:=i;simp only[List.length_nil,Nat.zero_add]at u;omega
 .exact hev.trans m
 have:=a.2.2;have e:({r with at_:=r.at_+1}:R).s=r.s:=rfl;rw[e]at this;omega
theorem RA(f:Nat)(L:∀(r:R) (run:Nat),r.at_≤r.s.length→1≤r.ot→r.s.length≤100000000→PG r (Rf.content f r run))(r:R)(h:r.at_<r.s.length)(H:1≤r.ot)(j:r.s.length≤100000000):tV r (Rf.element (f+1) r):=by
 intro e;rw[nX]at e⊢;unfold PF at e⊢;split at e
 .cases e
 rename_i M;rw[if_neg M];generalize N:({r with at_:=r.at_+1}:R)=q at *;cases w:(Rf.word q).2.2 with
 |false=>rw[w,if_neg (by decide)]at e;cases e
 |true=>
  rw[w,if_pos rfl]at e;rw[if_pos rfl];generalize O:Rf.attributes (Rf.word q).1=x at *;cases y:x.2.2 with
  |false=>rw[y,if_neg (by decide)]at e;cases e
  |true=>
   rw[y,if_pos rfl]at e;rw[if_pos rfl];have k:=nY (nm:=(Rf.word q).2.1) h H j N.symm (by rw[←w]) O y;generalize(Rf.word q).2.1=nm at *;obtain⟨a,b,o⟩:=x;simp only at k e⊢;have I:=k.kp;have Z:=k.n;have P:=k.at_;have J:=k.ev;have Q:a.at_<a.s.length:=by rw[I.s];exact P
   have d:Kp r {a with at_:=a.at_+1}:=I.trans (.to (by omega) (by omega));unfold PE at e⊢;split at e
   .cases e
   rename_i S;rw[if_neg S];split at e
   .rename_i z;rw[if_pos z];have l:=fS (r:={a with at_:=a.at_+1}) d.le 62;split at e
    .rename_i p;rw[if_pos p];have v:=(l.2 p).1;have t:=d.trans l.1;have A:(Rf.must {a with at_:=a.at_+1} 62).1.events=r.events:=by rw[v];exact J
     have T:(Rf.must {a with at_:=a.at_+1} 62).1.at_=a.at_+2:=by rw[v]
     generalize(Rf.must {a with at_:=a.at_+1} 62).1=m at *;have i:=l_ m nm b;have g:Kp r (gK (aX m nm b) nm b):=Br t (by omega) (by rw[A];omega) (.refl (by rw[i.1];exact t.le));refine⟨g,?_⟩;have B:=(wT (aX m nm b) nm b).1;show r.at_<(gK (aX m nm b) nm b).at_;rw[B];show r.at_<(aX m nm b).at_;rw[i.1];show r.at_<m.at_;omega
    cases e
   rename_i z;rw[if_neg z];generalize l:({a with at_:=a.at_+1}:R)=m at *;have X:m.at_=a.at_+1:=by rw[←l]
   have C:m.events=r.events:=by rw[←l];exact J
   have i:=l_ m nm b;have u:(aX m nm b).s=r.s:=by rw[i.1];exact d.s
   have D:(aX m nm b).at_=m.at_:=by rw[i.1]
   have E:(aX m nm b).ot=r.ot:=by rw[i.1];exact d.ot
   have B:=L (aX m nm b) (aX m nm b).at_ (by rw[u,D];exact d.len) (by rw[E];exact H) (by rw[u];exact j);unfold nW at e⊢;split at e
   .rename_i p;rw[if_pos p];obtain⟨F,Y⟩:=B p;generalize(Rf.content f (aX m nm b) (aX m nm b).at_).1=c at *;have K:=wP (r:=c) (by rw[F.s];exact Y) nm;split at e
    .rename_i v;rw[if_pos v];have g:=Br (m:=(eZ c nm).1) d (by omega) (by rw[C];omega) (F.trans K);refine⟨g,?_⟩;have G:=(wT (eZ c nm).1 nm b).1;have f1:=(F.trans K).gz;show r.at_<(gK (eZ c nm).1 nm b).at_;rw[G];show r.at_<(eZ c nm).1.at_;omega
    cases e
   cases e
theorem RB(f:Nat)(l:∀(r:R),r.at_<r.s.length→1≤r.ot→r.s.length≤100000000→tV r (Rf.element f r))(m:∀(r:R) (run:Nat),r.at_≤r.s.length→1≤r.ot→r.s.length≤100000000→PG r (Rf.content f r run))
 (r:R) (run:Nat) (h:r.at_≤r.s.length) (i:1≤r.ot) (a:r.s.length≤100000000):PG r (Rf.content (f+1) r run):=by
 have c:∀(q:R) (k:Nat),Kp r q→PG r (Rf.content f q k):=fun q k b e=>by
  have:=m q k b.le (by rw[b.ot];exact i) (by rw[b.s];exact a) e;exact⟨b.trans this.1,by have:=this.2;rw[b.s]at this;exact this⟩
 rw[Rf.content];split
 .rename_i d;simp only;split
  .split
   .intro e;cases e
   rename_i n;split
   .intro _;exact⟨.refl h,show r.at_+2≤r.s.length by omega⟩
   split
   .split
    .rename_i j;exact c _ _ (l r d i a j).1
    intro e;cases e
   split
   .rename_i j;exact c _ _ (qT (r:=r) (by omega) (by omega) _).1
   intro e;cases e
  split
  .split
   .rename_i g;exact c _ _ (tT d g).1
   intro e;cases e
  split
  .intro e;cases e
  split
  .rename_i g;exact c _ _ (pN d g).1
  intro e;cases e
 intro e;cases e
theorem jS:∀(f:Nat),(∀(r:R),r.at_<r.s.length→1≤r.ot→r.s.length≤100000000→tV r (Rf.element f r))∧(∀(r:R) (run:Nat),r.at_≤r.s.length→1≤r.ot→r.s.length≤100000000→PG r (Rf.content f r run))
 |0=>⟨fun r _ _ _ e=>(by simp[Rf.element]at e),fun r run _ _ _ e=>(by simp[Rf.content]at e)⟩
 |f+1=>⟨RA f (jS f).2,RB f (jS f).1 (jS f).2⟩
end Go.Proofs.YtmgfijllcdadgaaGreatDoor.V
