import Derived.Test.YtmgfijllcdadgaaGreatDoorUW33
import Derived.Test.YtmgfijllcdadgaaGreatDoorUW32
import Derived.Test.YtmgfijllcdadgaaGreatDoorUW34
set_option linter.all false
set_option maxHeartbeats 8000000
set_option maxRecDepth 100000
namespace Go.Proofs.YtmgfijllcdadgaaGreatDoor.V
open Go.RowKit
open List
open Go.Proofs.Tryz
open Rf
open Mk (U Ev aI)
variable {a:List aI}{r q x:R}{od oa:Int}{on:Bool}
def Kp.le{a:R}(h:Kp a r):r.A<=r.s.length:=by rw[h.s];exact h.len
def Ik:∀(l:U) (r:R),r.A<=r.s.length->Kp r (kL l r).1/\((kL l r).2=true->r.A+l.length<=(kL l r).1.A)
 |[],r,h=>⟨.refl h,λ_=>a_ _⟩
 |x::l,r,h=>by
  rw[Ee];have a:=mX h (x.toNat:Int);split
  .rename_i c;have b:=a.2 c;have:=Ik l (bW r (x.toNat:Int)).1 a.1.le;refine⟨a.1.trans this.1,λe=>?_⟩;have:=this.2 e;rw[b.1]at this;rw[b.1];simp only[cT]at this⊢;have d:({r with A:=r.A+1}:R).A=r.A+1:=rfl;omega
  exact⟨a.1,λe=>by cases e⟩
def OG{k:Nat}(a:r.A<k)(b:k<=r.s.length)(t:U):Kp r (Rf.text {r with A:=k} t):=xG a b _
def zl(h:r.A<r.s.length)(a:(bF r).2.2=true):Kp r (Rf.text (bF r).1 (bF r).2.1)/\r.A<(Rf.text (bF r).1 (bF r).2.1).A:=by
 obtain⟨k,d,b,c,_⟩:=(oC h).2 a;rw[b];exact⟨OG (by omega) c _,by show r.A<r.A+k;omega⟩
def Ef(h:r.A<r.s.length)(a:(iT r).2.2=true):Kp r (Rf.text (iT r).1 (iT r).2.1)/\r.A<(Rf.text (iT r).1 (iT r).2.1).A:=by
 obtain⟨k,d,b,c,_⟩:=(vQ h).2 a;rw[c];exact⟨OG (by omega) b _,by show r.A<k;omega⟩
def OH:∀(f:Nat) (r:R),r.A<=r.s.length->Kp r (jN f r).1
 |0,r,h=>.refl h
 |f+1,r,h=>by
  rw[jN];split
  .rename_i b;simp only;split
   .exact(Kp.to (by omega) (a_ _)).stop 1
   split
   .rename_i k a;simp only[nQ,ajP]at a;have c:r.A+3<=r.s.length:=by
     apply lJ;intro o;have d:r.s.length=r.A+1\/r.s.length=r.A+2:=by omega
     obtain⟨y,e,_,g⟩:=gP r r.A b;have l:r.s.drop r.A=y::r.s.drop (r.A+1):=drop_at g;have m:y=93:=by
      have:=a.1.1;rw[e]at this;exact UInt8.toNat_inj.1 (by have:y.toNat=93:=(by omega);rw[this];rfl)
     obtain d|d:=d
     .apply k;simp[l,m,iF (show r.s.length<=r.A+1 by omega),a.1.1]
     obtain⟨z,i,_,j⟩:=gP r (r.A+1) (by omega);have n:z=93:=by
      have:=a.1.2;rw[i]at this;exact UInt8.toNat_inj.1 (by have:z.toNat=93:=(by omega);rw[this];rfl)
     apply k;simp[l,(drop_at j),m,n,iF (show r.s.length<=r.A+1+1 by omega),a.1.1]
    exact .to (by omega) c
   split
   .rename_i c;have:=zl b c;exact this.1.trans (OH f _ this.1.le)
   exact(oC b).1
  exact(Kp.refl h).stop 1
def aaX(h:r.A<=r.s.length):Kp r (rK r).1:=by
 rw[Ii];have:=Ik kC r h;split
 .exact this.1.trans (OH _ _ this.1.le)
 exact this.1
def OI:∀(l:U) (r:R),r.A<=r.s.length->Kp r (kU l r).1
 |[],r,h=>.refl h
 |x::l,r,h=>by
  rw[Ih];split
  .split
   .exact(Kp.refl h).fail 5
   exact(Kp.to (k:=r.A+1) (by omega) (by omega)).trans (OI l _<|by show r.A+1<=r.s.length;omega)
  exact(Kp.refl h).stop 1
def Il(h:r.A+2<=r.s.length)(a:U):Kp r (jX r a).1:=by
 rw[OD];have b:=(Kp.to (r:=r) (k:=r.A+2) (by omega) h).trans (OI a {r with A:=r.A+2} h);generalize kU a {r with A:=r.A+2}=x at *;split
 .unfold BA;split
  .exact b.fail 5
  have c:=b.trans (nE b.le);exact c.trans (mX c.le 62).1
 exact b
def BB(h:r.A+2<=r.s.length)(f:0<=r.S)(c:Int):Kp r (qz r c).1/\((qz r c).2=true->r.A<(qz r c).1.A):=by
 have a:Kp r {r with A:=r.A+2}:=.to (by omega) h;unfold qz;split
 .have:=Ec (r:={r with A:=r.A+2}) h f;exact⟨a.trans this,λ_=>by have:=this.nu;exact i_ (show r.A<r.A+2 by omega) this⟩
 split
 .exact⟨(Kp.to (k:=r.A+1) (by omega) (by omega)).fail 3,λe=>by cases e⟩
 simp only;split
 .split
  .have b:=mX (r:={r with A:=r.A+2}) h 45;split
   .have g:=Eb b.1.le;have d:=b.1.trans g;exact⟨a.trans d,λ_=>by have:=d.nu;exact i_ (show r.A<r.A+2 by omega) this⟩
   exact⟨a.trans b.1,λe=>by cases e⟩
  have:=aaX (r:={r with A:=r.A+2}) h;exact⟨a.trans this,λ_=>by have:=this.nu;exact i_ (show r.A<r.A+2 by omega) this⟩
 exact⟨a.stop 1,λe=>by cases e⟩
def Te(r q:R)(n:Nat):Prop:=q={r with y:=q.y}/\q.y.length<=r.y.length+n
def Te.tell{n:Nat}(h:Te r q n)(e:Ev):Te r (gS q e) (n+1):=by
 obtain⟨a,b⟩:=h;refine⟨?_,by simp[gS];omega⟩;rw[a];rfl
def Im(s:R){r:R}:∀(l:List aI) (q:R) (told:List aI) (n:Nat),Te r q n->Te r (jW s l q told).1 (n+l.length)/\True
 |[],q,told,n,h=>⟨h,trivial⟩
 |a::l,q,told,n,h=>by
  rw[jW];split
  .have:=Im s l _ told (n+1) (h.tell ⟨6,(Rf.k_ a.B).1,[],a.val,[]⟩);rwa[show n+(a::l).length=n+1+l.length by simp;omega]
  have:=(Im s l q (told++[⟨a.B,if s.on then Rf.bQ s.P (Rf.iz a.B).1 else[],a.val⟩]) n h).1;exact⟨⟨this.1,by have:=this.2;simp;omega⟩,trivial⟩
def aaY(r:R)(b:U)(a:List aI):Te r (Aq r b a) (a.length+1):=by
 unfold Aq;have:=(Im r a r [] 0 ⟨rfl,a_ _⟩).1;rw[jV]at this;exact this.tell _
def Ip{r:R}:∀(l:List aI) (q:R) (n:Nat),Te r q n->Te r (rD l q) (n+l.length)
 |[],q,n,h=>h
 |a::l,q,n,h=>by
  rw[rD,show n+(a::l).length=n+1+l.length by simp;omega];split
  .exact Ip l _ (n+1) (h.tell _)
  exact Ip l _ (n+1) ⟨h.1,by have:=h.2;omega⟩
def OJ(r:R)(b:U)(a:List aI):Te r (aL r b a) (a.length+1):=by
 unfold aL;simp only;have d:Te r r 0:=⟨rfl,a_ _⟩;have c:=d.tell ⟨2,b,nD r b,[],[]⟩;split
 .have:=Ip a.reverse _ 1 c;rw[length_reverse]at this;exact⟨this.1,by have:=this.2;omega⟩
 exact⟨c.1,by have:=c.2;omega⟩
def OL(q:Int):∀(f:Nat) (r:R) (t:U) (c:Int),(iD q f r t c).2.2=true->(iD q f r t c).1.y=r.y
 |0,r,t,c,e=>by cases e
 |f+1,r,t,c,e=>by
  rw[iD]at e⊢;split at e
  .rename_i a;rw[J a];simp only at e⊢;split at e
   .rename_i b;rw[J b]
   rename_i b;rw[M b];split at e
   .cases e
   rename_i j;rw[M j];split at e
   .cases e
   rename_i l;rw[M l];have hx:∀x:R×U×Bool,x=(if r.E r.A==38 then iT r else((bF r).1,if(bF r).2.1=[10]\/(bF r).2.1=[9]then[32]else(bF r).2.1,(bF r).2.2))->x.2.2=true->x.1.y=r.y:=by
    intro x hx d;subst hx;split at d
    .rename_i g;rw[J g];obtain⟨k,_,_,h,_⟩:=(vQ a).2 d;rw[h]
    rename_i g;rw[M g];obtain⟨k,_,h,_⟩:=(oC a).2 d;rw[h]
   generalize m:(if r.E r.A==38 then iT r else((bF r).1,if(bF r).2.1=[10]\/(bF r).2.1=[9]then[32]else(bF r).2.1,(bF r).2.2))=x at *;split at e
   .rename_i i;rw[J i,OL q f x.1 _ _ e,(hx x rfl) i]
   cases e
  cases e
def aaZ(e:(iA r).2.2=true):(iA r).1.y=r.y:=by
 unfold iA at e⊢;simp only at e⊢;split at e
 .cases e
 rename_i h;rw[M h,OL _ _ _ _ _ e]
def aa0(h:r.A<=r.s.length)(k:1<=r.S)(e:(fM r a).2.2=true):(fM r a).1.y=r.y:=by
 rw[Hz]at e⊢;split at e
 .cases e
 rename_i f;rw[M f];split at e
 .rename_i b;rw[J b];have l:(cF r).1.y=r.y:=by rw[((Ic b).1)]
  have g:=(tX h (by omega:0<=r.S)).le;generalize(cF r).1=q at *;unfold Bu at e⊢;split at e
  .cases e
  rename_i i;rw[M i];split at e
  .cases e
  rename_i j;rw[M j];split at e
  .rename_i c;rw[J c];unfold Bt at e⊢;split at e
   .cases e
   rename_i d;rw[M d];rwa[((DR<|by simpa using d).1),((mX (r:=aV q) (nE g).le 61).2 c).1]
  cases e
 cases e
def OM:∀(f:Nat) (r:R) (a:List aI),r.A<=r.s.length->1<=r.S->(kT f r a).2.2=true->(kT f r a).1.y=r.y
 |0,r,a,_,_,e=>by cases e
 |f+1,r,a,h,u,e=>by
  rw[Bx]at e⊢;have j:=nE h;have k:=j.le;have l:1<=(aV r).S:=by rwa[j.S]
  have n:(aV r).y=r.y:=rfl;generalize aV r=q at *;unfold xE at e⊢;split at e
  .rename_i o;rw[J o];split at e
   .rename_i c;rwa[J c]
   rename_i c;rw[M c];split at e
   .cases e
   rename_i p;rw[M p];split at e
   .cases e
   rename_i t;rw[M t];have d:=Bv k l a;split at e
   .rename_i g;rw[J g];obtain⟨v,w,y⟩:=d.2 g;have i:=aa0 k l g;generalize fM q a=x at *;have b:=d.1.trans (Bw (r:=x.1)<|by rwa[d.1.s]);split at e
    .rename_i m;rw[J m];exact(OM f (iA x.1).1 (a++[(⟨x.2.1,[],(iA x.1).2.1⟩:aI)]) b.le (by rwa[b.S]) e).trans ((aaZ m).trans (i.trans n))
    cases e
   cases e
  cases e
def OO:∀(f:Nat) (r:R) (a:List aI),r.A<=r.s.length->1<=r.S->(kT f r a).2.2=true->(kT f r a).2.1.length+r.A<=a.length+(kT f r a).1.A
 |0,r,a,_,_,e=>by cases e
 |f+1,r,a,h,t,e=>by
  rw[Bx]at e⊢;have c:=nE h;have k:1<=(aV r).S:=by rwa[c.S]
  have u:=c.nu;generalize aV r=q at *;unfold xE at e⊢;split at e
  .rename_i l;rw[J l];split at e
   .rename_i d;rw[J d];simp only;omega
   rename_i d;rw[M d];split at e
   .cases e
   rename_i m;rw[M m];split at e
   .cases e
   rename_i n;rw[M n];have g:=Bv c.le k a;split at e
   .rename_i i;rw[J i];obtain⟨v,w,y⟩:=g.2 i;generalize fM q a=x at *;have j:=Bw (r:=x.1) (by rwa[g.1.s]);have o:=j.nu;have b:=g.1.trans j;split at e
    .rename_i p;rw[J p];have:=OO f (iA x.1).1 (a++[⟨x.2.1,[],(iA x.1).2.1⟩]) b.le (by rwa[b.S]) e;rw[bT]at this;simp only[cT,fB]at this;omega
    cases e
   cases e
  cases e
def zm(f:Nat)(r:R)(b:U)(a:List aI):R×Bool:=
 if(dK f r r.A).2 then(if(jX (dK f r r.A).1 b).2 then(mD (jX (dK f r r.A).1 b).1 b a,true)else((jX (dK f r r.A).1 b).1,false))else((dK f r r.A).1,false)
def xH(f:Nat)(r:R)(b:U)(a:List aI):R×Bool:=
 if r.on&& !Rf.pU r b a then(eZ r 8,false)
 else if r.E r.A==47 then
  (if(bW {r with A:=r.A+1} 62).2 then(mD (dX (bW {r with A:=r.A+1} 62).1 b a) b a,true)else((bW {r with A:=r.A+1} 62).1,false))
 else zm f (dX {r with A:=r.A+1} b a) b a
def zn(f:Nat)(q:R):R×Bool:=
 if(q.I.length:Int)==q.od then(eZ q 7,false)
 else if(cF q).2.2 then
  (if(lX (cF q).1).2.2 then xH f (lX (cF q).1).1 (cF q).2.1 (lX (cF q).1).2.1 else((lX (cF q).1).1,false))
 else((cF q).1,false)
def Eg(f:Nat)(r:R):je (f+1) r=zn f {r with A:=r.A+1}:=by
 rw[je];unfold zn;simp only;split
 .rfl
 generalize cF _=x;cases x.2.2
 .rfl
 simp only[gz,cK,cE,bY];generalize lX x.1=a;cases a.2.2
 .rfl
 simp only[gz,cK,cE,bY];unfold xH;split
 .rfl
 split
 .rfl
 unfold zm;generalize dK f _ _=c;cases c.2
 .rfl
 simp only[gz,cK,cE,bY];generalize jX c.1 _=e;cases e.2<;>rfl
def xI(q:R)(b:U)(a:List aI):(dX q b a)={q with y:=(dX q b a).y,I:=q.I++[b],P:=q.P++[a]}/\(dX q b a).y.length<=q.y.length+(a.length+1):=by
 have:=aaY {q with I:=q.I++[b],P:=q.P++[a]} b a;exact⟨this.1,this.2⟩
def Iq(m:R)(b:U)(a:List aI):(mD m b a)={m with y:=(mD m b a).y,I:=m.I.dropLast,P:=m.P.dropLast}/\(mD m b a).y.length<=m.y.length+(a.length+1):=by
 have:=OJ m b a;unfold mD;generalize aL m b a=q at *;obtain⟨c,d⟩:=this;refine⟨?_,d⟩;rw[c]
def OP{m:R}{g:U}(d:Kp r q)(k:a.length+r.A+2<=q.A)(l:q.y.length+4*r.A+4*a.length+8<=r.y.length+4*q.A)(b:Kp (dX q g a) m):Kp r (mD m g a):=by
 obtain⟨e,n⟩:=xI q g a;obtain⟨f,p⟩:=Iq m g a;generalize dX q g a=o at *;generalize mD m g a=c at *;have t:=b.ev;have u:=b.nu;have j:=b.len;have v:o.A=q.A:=by rw[e]
 have i:o.s=r.s:=by rw[e];exact d.s
 rw[i]at j;have h:c.A=m.A:=by rw[f]
 refine⟨?_,?_,?_,?_,?_,?_,?_,?_,?_,?_⟩
 .rw[f];exact b.s.trans i
 .rw[f];exact b.od.trans (by rw[e];exact d.od)
 .rw[f];exact b.oa.trans (by rw[e];exact d.oa)
 .rw[f];exact b.S.trans (by rw[e];exact d.S)
 .rw[f];exact b.on.trans (by rw[e];exact d.on)
 .rw[h];have:=d.nu;omega
 .rwa[h]
 .rw[h];omega
 .rw[f,b.op,e,vp,d.op]
 rw[f,b.tg,e,vp,d.tg]
def xJ(r:R)(x:R×Bool):Prop:=x.2=true->Kp r x.1/\x.1.A+2<=r.s.length
def Eh(r:R)(x:R×Bool):Prop:=x.2=true->Kp r x.1/\r.A<x.1.A
structure Pre(r a:R)(nm:U)(aC:List aI):Prop where
 kp:Kp r a
 sh:Sh aC
 A:a.A<r.s.length
 n:aC.length+r.A+1<=a.A
 ev:a.y=r.y
 nl:nm.length<=100000000
def Ei{w:R}{nm:U}{x:R×List aI×Bool}(h:r.A<r.s.length)(t:1<=r.S)(l:r.s.length<=100000000)(m:q={r with A:=r.A+1})(g:(cF q)=(w,nm,true))(i:lX w=x)(j:x.2.2=true):Pre r x.1 nm x.2.1:=by
 subst m i;have n:Kp r {r with A:=r.A+1}:=.to;have a:=Ic (r:={r with A:=r.A+1}) (by rw[g]);have b:=n.trans (tX (r:={r with A:=r.A+1}) (by omega) (by show 0<=r.S;omega));rw[g]at a b;simp only at a b;have c:=b.le;have d:1<=w.S:=by rwa[b.S]
 have f:=OA c d (by rwa[b.s]);have o:r.A+1<=w.A:=by rw[a.1];show r.A+1<=r.A+1+_;omega
 have k:w.y=r.y:=by rw[a.1]
 refine⟨b.trans f.1,f.2.1,?_,?_,?_,?_⟩
 .have:=f.2.2 j;rwa[b.s]at this
 .have p:(lX w).2.1.length+w.A<=([]:List aI).length+(lX w).1.A:=(OO (w.s.length+1) w [] c d j);simp only[fB,jV]at p;omega
 .exact(OM (w.s.length+1) w [] c d j).trans k
 have:=a.2.2;have e:({r with A:=r.A+1}:R).s=r.s:=rfl;rw[e]at this;omega
def aa1(f:Nat)(H:∀(r:R) (run:Nat),r.A<=r.s.length->1<=r.S->r.s.length<=100000000->xJ r (dK f r run))(r:R)(h:r.A<r.s.length)(I:1<=r.S)(u:r.s.length<=100000000):Eh r (je (f+1) r):=by
 intro e;rw[Eg]at e⊢;unfold zn at e⊢;split at e
 .cases e
 rename_i K;rw[M K];generalize L:({r with A:=r.A+1}:R)=q at *;cases v:(cF q).2.2 with
 |false=>rw[v,M]at e;cases e
 |true=>
  rw[v,J rfl]at e;rw[J rfl];generalize N:lX (cF q).1=x at *;cases w:x.2.2 with
  |false=>rw[w,M]at e;cases e
  |true=>
   rw[w,J rfl]at e;rw[J rfl];have i:=Ei (nm:=(cF q).2.1) h I u L.symm (by rw[<-v]) N w;generalize(cF q).2.1=nm at *;obtain⟨a,b,o⟩:=x;simp only at i e⊢;have F:=i.kp;have W:=i.n;have X:=i.ev;have O:a.A<a.s.length:=by rw[F.s];exact i.A
   have d:Kp r {a with A:=a.A+1}:=F.trans (.to);unfold xH at e⊢;split at e
   .cases e
   rename_i P;rw[M P];split at e
   .rename_i y;rw[J y];have j:=mX (r:={a with A:=a.A+1}) d.le 62;split at e
    .rename_i k;rw[J k];have t:=(j.2 k).1;have l:=d.trans j.1;have z:(bW {a with A:=a.A+1} 62).1.y=r.y:=by rwa[t]
     have Q:(bW {a with A:=a.A+1} 62).1.A=a.A+2:=by rw[t]
     generalize(bW {a with A:=a.A+1} 62).1=m at *;have g:=xI m nm b;have A:Kp r (mD (dX m nm b) nm b):=OP l (by omega) (by rw[z];omega) (.refl<|by rw[g.1];exact l.le);refine⟨A,?_⟩;have S:=(Iq (dX m nm b) nm b).1;rw[S,g.1];show r.A<m.A;omega
    cases e
   rename_i y;rw[M y];generalize j:({a with A:=a.A+1}:R)=m at *;have T:m.A=a.A+1:=by rw[<-j]
   have B:m.y=r.y:=by rwa[<-j]
   have g:=xI m nm b;have p:(dX m nm b).s=r.s:=by rw[g.1];exact d.s
   have C:(dX m nm b).A=m.A:=by rw[g.1]
   have D:(dX m nm b).S=r.S:=by rw[g.1];exact d.S
   unfold zm at e⊢;split at e
   .rename_i k;rw[J k];obtain⟨E,c2⟩:=(H (dX m nm b) (dX m nm b).A (by rw[p,C];exact d.len) (by rwa[D]) (by rwa[p])) k;generalize(dK f (dX m nm b) (dX m nm b).A).1=c at *;have G:=Il (r:=c) (by rwa[E.s]) nm;split at e
    .rename_i t;rw[J t];refine⟨(OP (m:=(jX c nm).1) d (by omega) (by rw[B];omega) (E.trans G)),?_⟩;have f1:=(E.trans G).nu;rw[((Iq (jX c nm).1 nm b).1)];show r.A<(jX c nm).1.A;omega
    cases e
   cases e
def aa2(f:Nat)(j:∀(r:R),r.A<r.s.length->1<=r.S->r.s.length<=100000000->Eh r (je f r))(l:∀(r:R) (run:Nat),r.A<=r.s.length->1<=r.S->r.s.length<=100000000->xJ r (dK f r run))
 (r:R) (run:Nat) (h:r.A<=r.s.length) (m:1<=r.S) (c:r.s.length<=100000000):xJ r (dK (f+1) r run):=by
 have b:∀(q:R) (k:Nat),Kp r q->xJ r (dK f q k):=λq k a e=>by
  have:=l q k a.le (by rwa[a.S]) (by rwa[a.s]) e;exact⟨a.trans this.1,by have:=this.2;rwa[a.s]at this⟩
 rw[dK];split
 .rename_i d;simp only;split
  .split
   .intro e;cases e
   rename_i n;split
   .intro _;exact⟨.refl h,show r.A+2<=r.s.length by omega⟩
   split
   .split
    .rename_i i;exact b _ _ (j r d m c i).1
    intro e;cases e
   split
   .rename_i i;exact b _ _ (BB (r:=r) (by omega) (by omega) _).1
   intro e;cases e
  split
  .split
   .rename_i g;exact b _ _ (Ef d g).1
   intro e;cases e
  split
  .intro e;cases e
  split
  .rename_i g;exact b _ _ (zl d g).1
  intro e;cases e
 intro e;cases e
def rM:∀(f:Nat),(∀(r:R),r.A<r.s.length->1<=r.S->r.s.length<=100000000->Eh r (je f r))/\(∀(r:R) (run:Nat),r.A<=r.s.length->1<=r.S->r.s.length<=100000000->xJ r (dK f r run))
 |0=>⟨λr _ _ _ e=>(by simp[je]at e),λr run _ _ _ e=>(by simp[dK]at e)⟩
 |f+1=>⟨aa1 f (rM f).2,aa2 f (rM f).1 (rM f).2⟩
structure Fit(s:R):Prop where
 ok:iW s
 S:1<=s.S
 oa:0<=s.oa/\s.oa<=1000000
 od:s.od<=1000000
 zo:(s.I.length:Int)<=s.od
 tl:s.P.length=s.I.length
 sl:s.s.length<=100000000
 sh:∀t∈s.P,Sh t
 ev:s.y.length<=4*s.A+100
def Fit.kp{s:R}(h:Fit s)(k:Kp s r):Fit r:=
 ⟨k.ok h.ok,by rw[k.S];exact h.S,by rw[k.oa];exact h.oa,by rw[k.od];exact h.od,by rw[k.op,k.od];exact h.zo,by rw[k.op,k.tg];exact h.tl,by rw[k.s];exact h.sl,by rw[k.tg];exact h.sh,by have:=k.ev;have:=h.ev;omega⟩
def EC(f:Nat):Prop:=∀(w:World) (b:Nat) (s:R) (L:bA),bD w b s L->Fit s->gQ w->0<b->s.A<s.s.length->s.s.length<s.A+f+1->Calls prog 84 #[.pointer (some ⟨b,0,none⟩)] w (qR w b s L (je f s))
def CC(f:Nat):Prop:=∀(w:World) (b:Nat) (s:R) (L:bA),bD w b s L->Fit s->gQ w->0<b->s.s.length<s.A+f->Calls prog 113 #[.pointer (some ⟨b,0,none⟩)] w (qR w b s L (dK f s s.A))
def rN(f:Nat)(s:R)(c:Int):R×Bool:=if Rf.fq c then je f s else qz s c
section
variable {w w' :World}{b:Nat}{s:R}{L:bA}
def aa_(f:Nat)(H:EC f)(h:bD w b s L)(g:Fit s)(I:gQ w)(a7:0<b)(h2:s.A+2<=s.s.length)(a8:s.s.length<s.A+f+1)(c:Int)(ad:0<=c)(ae:c<=255):
 Calls prog 165 #[.pointer (some ⟨b,0,none⟩),.int .u8 c] w (qR w b s L (rN f s c)):=by
 have K:=Y h;obtain⟨a9,hf,af⟩:=h.zzv;have ag:=g.sl;have ah:=g.ok.len;unfold aR at a9;have l:=Y λw=>ze c w;obtain⟨E,d⟩:=aj8 (rN f s c);rw[<-d];unfold rN at d;cases hl:Rf.fq c;focus
  rw[hl,M]at d;rw[hl]at l;unfold qz at d;have i:Fit {s with A:=s.A+2}:=g.kp (.to (by omega) h2);cases N:(c==63);focus
   rw[N,M]at d;cases O:(c==33)
   .have F:(c !=33)=true:=by rw[bne,O];rfl
    rw[F,J rfl]at d;have P:=Y d;clear h g d I H i;go_enter func165,ntmps165
    go_wp2_with(first
     |(go_at_call 82;go_call(l.u _)as e w' ⟨rfl,A⟩;obtain rfl:=A.symm)
     |(go_at_call 83;go_call(kM ((K.u.start.drewN 0).store 5 _ {s with A:=s.A+1} (by simp[aR]) rfl rfl rfl).X 3)as e w1 ⟨rfl,Q,t⟩))
    go_ret;have S:=P.u;subst S;exact⟨rfl,Q,((K.u.start.drewN 0).store 5 _ {s with A:=s.A+1} (by simp[aR]) rfl rfl rfl).call t⟩
   have F:(c !=33)=false:=by rw[bne,O];rfl
   rw[F,M]at d;simp only at d;have v:Hid (∀n,bL w b (cO s L) ((w.drewN n).setCell ⟨b,5,none⟩ (.int .i64 ((s.A:Int)+2))) {s with A:=s.A+2} L):=λn=>(K.u.start.drewN n).store 5 _ {s with A:=s.A+2} (by simp[aR]) rfl rfl rfl;have k:=Y λ(W:World) (B:bA) (C:bD W b {s with A:=s.A+2} B)=>pu C i.ok;obtain⟨q,hq⟩:∃q:R,q={s with A:=s.A+2}:=⟨_,rfl⟩;rw[<-hq]at k v i;have a:E=(if q.A<q.s.length then(if q.E q.A !=91 then(if(bW q 45).2 then pQ (bW q 45).1 else((bW q 45).1,false))else rK q)else({q with stop:=1},false)):=by rwa[hq]
   have j:=Y i;have ai:=i.ok.len;have aj:=i.ok.A;clear d hq h g I H i;by_cases T:q.A<q.s.length;focus
    rw[J T]at a;have x:b_ q=(q,false):=by rw[b_,J T]
    have z:=k;rw[x]at z;clear k x;obtain⟨y,hb,ak,hy⟩:=gP q q.A T;have al:(q.A:Int)<(q.s.length:Int):=by omega
    rw[hb]at a;clear hb hy;cases X:((y.toNat:Int)==91);focus
     have G:((y.toNat:Int) !=91)=true:=by rw[bne,X];rfl
     rw[G,J rfl]at a;have a0:=Y λ(W:World) (B:bA) (C:bD W b q B)=>vL C j.u.ok 45 (by omega) (by omega);have a1:=(mX j.u.ok.A 45).1;have D:=Y (j.u.kp a1);generalize bW q 45=mu at *;obtain⟨q3,o⟩:=mu;simp only at D;clear a1;cases o;focus
      have P:=Y (show E=(q3,false)from a);clear a
     rotate_left;focus
      have a2:=Y λ(W:World) (B:bA) (C:bD W b q3 B)=>NW C D.u.ok D.u.ev D.u.sl;have a3:E=pQ q3:=a;rw[<-a3]at a2;clear a a3
    rotate_left 2;focus
     have G:((y.toNat:Int) !=91)=false:=by rw[bne,X];rfl
     rw[G,M]at a;have a4:=Y λ(W:World) (B:bA) (C:bD W b q B)=>aaW C j.u.ok j.u.ev j.u.sl;rw[<-a]at a4;clear a
   rotate_left 3
   .rw[M T]at a;have P:=Y a;have x:b_ q=({q with stop:=1},true):=by rw[b_,M T]
    have z:=k;rw[x]at z;clear k x a;go_enter func165,ntmps165
    go_wp2_with(first
     |(go_at_call 82;go_call(l.u _)as e w' ⟨rfl,A⟩;obtain rfl:=A.symm)
     |(go_at_call 105;go_call(z.u _ _ (v.u 0).X)as e w2 ⟨rfl,L3,m⟩))
    go_ret;have S:=P.u;subst S;exact⟨rfl,L3,(v.u 0).call m⟩
  rotate_left 3
  .rw[N,J rfl]at d;have HI:=Y λ(W:World) (B:bA) (C:bD W b {s with A:=s.A+2} B)=>Ot C i.ok i.ev i.sl;rw[<-d]at HI;clear h g d I H i;go_enter func165,ntmps165
   go_wp2_with(first
    |(go_at_call 82;go_call(l.u _)as e w' ⟨rfl,A⟩;obtain rfl:=A.symm)
    |(go_at_call 106;go_call(HI.u _ _ ((K.u.start.drewN 0).store 5 _ {s with A:=s.A+2} (by simp[aR]) rfl rfl rfl).X)as e w1 ⟨rfl,Q,t⟩))
   go_ret;exact⟨rfl,Q,((K.u.start.drewN 0).store 5 _ {s with A:=s.A+2} (by simp[aR]) rfl rfl rfl).call t⟩
 rotate_left 3
 .rw[hl,J rfl]at d;rw[hl]at l;have a5:=Y (H w b s L h g I a7 (by omega) a8);rw[<-d]at a5;clear h g d I H;go_enter func165,ntmps165
  go_wp2_with(first
   |(go_at_call 82;go_call(l.u _)as e w' ⟨rfl,A⟩;obtain rfl:=A.symm)
   |(go_at_call 84;go_call a5.u as e w1 ⟨rfl,Q,t⟩))
  go_ret;exact⟨rfl,Q,t⟩
 all_goals
  go_enter func165,ntmps165
  go_wp2_with(first
   |(go_at_call 82;go_call(l.u _)as e w' ⟨rfl,A⟩;obtain rfl:=A.symm)
   |(go_at_call 105;go_call(z.u _ _ (v.u 0).X)as e w2 ⟨rfl,L3,m⟩;have p:=Y ((v.u 0).call m).drew;have aa:=m.X.cell;have am:=m.X.frozen;unfold aR at aa;clear m))
  go_region;first
   |(go_wp2_with(go_at_call 107;go_call(a0.u _ _ p.u.X)as e w4 ⟨rfl,L4,r⟩);go_ret;have S:=P.u;subst S;exact⟨rfl,L4,p.u.call r⟩)
   |(go_wp2_with(first|(go_at_call 107;go_call(a0.u _ _ p.u.X)as e w4 ⟨rfl,L4,r⟩;have a6:=Y (p.u.call r);clear r)|(go_at_call 108;go_call(a2.u _ _ a6.u.X)as e w5 ⟨rfl,L5,ab⟩));go_ret;exact⟨rfl,L5,a6.u.call ab⟩)
   |(go_wp2_with(go_at_call 208;go_call(a4.u _ _ p.u.X)as e w4 ⟨rfl,L4,r⟩);go_ret;exact⟨rfl,L4,p.u.call r⟩)
end
def OY{a:R}(h:Kp a r)(b:Bool):Kp a (qc b r):=⟨h.s,h.od,h.oa,h.S,h.on,h.nu,h.len,h.ev,h.op,h.tg⟩
def OZ(a:Bool):∀(f:Nat) (r:R),r.A<=r.s.length->0<=r.S->Kp r (jc a f r).1/\((jc a f r).2=true->(jc a f r).1.A+1<r.s.length)
 |0,r,h,_=>⟨.refl h,λe=>by cases e⟩
 |f+1,r,h,k=>by
  rw[Ig];have b:=OY (nE h) a;have l:=b.le;have i:0<=(qc a (aV r)).S:=by rwa[b.S]
  generalize qc a (aV r)=q at *;have j:∀x:R×Bool,Kp q x.1->Kp r (if x.2 then jc a f x.1 else(x.1,false)).1/\((if x.2 then jc a f x.1 else(x.1,false)).2=true->(if x.2 then jc a f x.1 else(x.1,false)).1.A+1<r.s.length):=by
   intro x hx;have c:=b.trans hx;split
   .have:=OZ a f x.1 c.le (by rwa[c.S]);exact⟨c.trans this.1,λe=>by have:=this.2 e;rwa[c.s]at this⟩
   exact⟨c,λe=>by cases e⟩
  unfold Ed;split
  .rename_i m;split
   .exact⟨b.fail 3,λe=>by cases e⟩
   split
   .exact⟨b.stop 1,λe=>by cases e⟩
   rename_i n;split
   .refine⟨b,λ_=>?_⟩;show q.A+1<r.s.length;have:=b.s;rw[<-this];omega
   simp only;have d:Kp q {q with A:=q.A+2}:=.to;refine j _ ?_;split
   .exact d.trans (Ec d.le i)
   have g:=mX (r:={q with A:=q.A+2}) d.le 45;split
   .exact d.trans (g.1.trans (Eb g.1.le))
   exact d.trans g.1
  exact⟨b.stop 1,λe=>by cases e⟩
def BD(a:Bool)(h:r.A<=r.s.length)(b:0<=r.S):Kp r (ig a r).1/\((ig a r).2=true->(ig a r).1.A+1<r.s.length):=OZ a _ r h b
def BF(x:R×Bool):R:=if x.2 then eZ {x.1 with A:=x.1.A+1} 3 else x.1
def zq(f:Nat)(m:R):R:=if Rf.fq (m.E (m.A+1))then(if(je f m).2 then BF (ig true (je f m).1)else(je f m).1)else eZ {m with A:=m.A+1} 3
def Iy(r:R):lY r=if(ig false r).2 then zq (2*r.s.length+2) (ig false r).1 else(ig false r).1:=by
 unfold lY zq BF;simp only;cases(ig false r).2
 .rfl
 simp only[gz,cK,cE,bY];cases Rf.fq ((ig false r).1.E ((ig false r).1.A+1))
 .rfl
 simp only[gz,cK,cE,bY];cases(je (2*r.s.length+2) (ig false r).1).2<;>rfl
def Vo(r:R):Prop:=(∀n∈r.I,n.length<=100000000)/\r.I.length<=r.A
def Le(r x:R):Prop:=x.s=r.s/\x.A<=r.s.length/\x.y.length+4*r.A<=r.y.length+4*x.A/\(Vo r->Vo x)
def Kp.vo(h:Kp r x)(v:Vo r):Vo x:=⟨by rw[h.op];exact v.1,by have:=v.2;have:=h.nu;rw[h.op];omega⟩
def Kp.toLe(h:Kp r x):Le r x:=⟨h.s,h.len,h.ev,h.vo⟩
def Kp.Pf{y:R}(h:Kp r x)(k:Le x y):Le r y:=⟨k.1.trans h.s,by have:=k.2.1;rwa[h.s]at this,by have:=k.2.2.1;have:=h.ev;omega,λv=>k.2.2.2 (h.vo v)⟩
def abu(f:Nat)(S:∀(r:R) (run:Nat),r.A<=r.s.length->1<=r.S->r.s.length<=100000000->Le r (dK f r run).1)(r:R)(h:r.A<r.s.length)(I:1<=r.S)(t:r.s.length<=100000000):Le r (je (f+1) r).1:=by
 by_cases c:(je (f+1) r).2=true
 .exact((rM (f+1)).1 r h I t c).1.toLe
 rw[Eg]at c⊢;have A:Kp r {r with A:=r.A+1}:=.to;unfold zn at c⊢;split
 .exact(A.fail 7).toLe
 rename_i D;rw[M D]at c;generalize T:({r with A:=r.A+1}:R)=q at *;have g:=A.trans (tX (r:=q) A.le<|by rw[A.S];omega);cases K:(cF q).2.2 with
 |false=>rw[M];exact g.toLe
 |true=>
  rw[K,J rfl]at c;rw[J rfl];have i:=g.trans (OA g.le (by rwa[g.S]) (by rwa[g.s])).1;generalize W:lX (cF q).1=x at *;cases L:x.2.2 with
  |false=>rw[M];exact i.toLe
  |true=>
   rw[L,J rfl]at c;rw[J rfl];have j:=Ei (nm:=(cF q).2.1) h I t T.symm (by rw[<-K]) W L;generalize(cF q).2.1=nm at *;obtain⟨a,b,o⟩:=x;simp only at j i c⊢;have X:a.A<a.s.length:=by rw[j.kp.s];exact j.A
   have d:Kp r {a with A:=a.A+1}:=j.kp.trans (.to);unfold xH at c⊢;split
   .exact(i.fail 8).toLe
   rename_i E;rw[M E]at c;split
   .rename_i k;rw[J k]at c;have N:=mX (r:={a with A:=a.A+1}) d.le 62;split
    .rename_i F;exact aj6 (by rw[J F]) c
    exact(d.trans N.1).toLe
   rename_i k;rw[M k]at c;have a0:=j.n;have a1:({a with A:=a.A+1}:R).A=a.A+1:=rfl;have G:({a with A:=a.A+1}:R).y=r.y:=j.ev;generalize N:({a with A:=a.A+1}:R)=m at *;have p:=xI m nm b;have e:(dX m nm b).s=r.s:=by rw[p.1];exact d.s
   have l:(dX m nm b).A=m.A:=by rw[p.1]
   have u:(dX m nm b).S=r.S:=by rw[p.1];exact d.S
   have B:=S (dX m nm b) (dX m nm b).A (by rw[e,l];exact d.len) (by rwa[u]) (by rwa[e]);have w:=(rM f).2 (dX m nm b) (dX m nm b).A (by rw[e,l];exact d.len) (by rwa[u]) (by rwa[e])
   have y:Le r (dK f (dX m nm b) (dX m nm b).A).1:=⟨B.1.trans e,by have:=B.2.1;rwa[e]at this,by have O:=B.2.2.1;have h6:=p.2;rw[G]at h6;omega,λv=>B.2.2.2 (by
    refine⟨?_,?_⟩
    .rw[p.1]
     intro n z
     obtain z|z:=mem_append.1 z
     .exact(d.vo v).1 n z
     rw[mem_singleton.1 z];exact j.nl
    rw[l,p.1,bT,d.op]
    have:=v.2
    simp only[cT,fB]
    omega)⟩
   unfold zm at c⊢;unfold xJ at w;generalize dK f (dX m nm b) (dX m nm b).A=P at *;split
   .rename_i Q;obtain⟨c1,c2⟩:=w Q;have C:=Il (r:=P.1) (by rwa[c1.s]) nm;have H:Le r (jX P.1 nm).1:=⟨C.s.trans y.1,by have:=C.len;rwa[y.1]at this,by have:=C.ev;have:=y.2.2.1;omega,λv=>C.vo (y.2.2.2 v)⟩;rw[J Q]at c;split
    .rename_i O;exact aj6 (by rw[J O]) c
    exact H
   exact y
def abv(f:Nat)(i:∀(r:R),r.A<r.s.length->1<=r.S->r.s.length<=100000000->Le r (je f r).1)(j:∀(r:R) (run:Nat),r.A<=r.s.length->1<=r.S->r.s.length<=100000000->Le r (dK f r run).1)
 (r:R) (run:Nat) (h:r.A<=r.s.length) (g:1<=r.S) (b:r.s.length<=100000000):Le r (dK (f+1) r run).1:=by
 have c:∀(q:R) (k:Nat),Kp r q->Le r (dK f q k).1:=λq k d=>
  d.Pf (j q k d.le (by rwa[d.S]) (by rwa[d.s]))
 rw[dK];split
 .rename_i a;simp only;split
  .split
   .exact((Kp.refl h).stop 1).toLe
   rename_i m;split
   .exact(Kp.refl h).toLe
   split
   .split
    .rename_i l;exact c _ _ ((rM f).1 r a g b l).1
    exact i r a g b
   split
   .exact c _ _ (BB (r:=r) (by omega) (by omega) _).1
   exact(BB (r:=r) (by omega) (by omega) _).1.toLe
  split
  .split
   .rename_i e;exact c _ _ (Ef a e).1
   exact(vQ a).1.toLe
  split
  .exact((Kp.refl h).fail 3).toLe
  split
  .rename_i e;exact c _ _ (zl a e).1
  exact(oC a).1.toLe
 exact((Kp.refl h).stop 1).toLe
def Ej:∀(f:Nat),(∀(r:R),r.A<r.s.length->1<=r.S->r.s.length<=100000000->Le r (je f r).1)/\(∀(r:R) (run:Nat),r.A<=r.s.length->1<=r.S->r.s.length<=100000000->Le r (dK f r run).1)
 |0=>⟨λr h _ _=>(by rw[je];exact(Kp.refl (LC h)).toLe),λr run h _ _=>(by rw[dK];exact(Kp.refl h).toLe)⟩
 |f+1=>⟨abu f (Ej f).2,abv f (Ej f).1 (Ej f).2⟩
def Iz(r:R)(h:r.A<=r.s.length)(l:1<=r.S)(c:r.s.length<=100000000):Le r (lY r):=by
 rw[Iy];have a:=BD false h (by omega);split
 .rename_i d;have n:=a.2 d;unfold zq;generalize(ig false r).1=m at *;have e:m.A+1<m.s.length:=by rwa[a.1.s]
  split
  .split
   .rename_i f;have b:=a.1.trans ((rM _).1 m (by omega) (by rwa[a.1.S]) (by rwa[a.1.s]) f).1;have hx:=BD true b.le (by rw[b.S];omega);unfold BF;split
    .rename_i g;have i:=hx.2 g;rw[b.s]at i;have j:=(b.trans hx.1).ev;exact⟨hx.1.s.trans b.s,by show _+1<=_;omega,by show(ig true (je _ m).1).1.y.length+4*r.A<=r.y.length+4* ((ig true (je _ m).1).1.A+1);omega,λv=>⟨((b.trans hx.1).vo v).1,by have k:=((b.trans hx.1).vo v).2;show(ig true (je _ m).1).1.I.length<=(ig true (je _ m).1).1.A+1;omega⟩⟩
    exact(b.trans hx.1).toLe
   exact a.1.Pf ((Ej _).1 m (by omega) (by rwa[a.1.S]) (by rwa[a.1.s]))
  have j:=a.1.ev;exact⟨a.1.s,by show m.A+1<=_;omega,by show m.y.length+4*r.A<=r.y.length+4* (m.A+1);omega,λv=>⟨(a.1.vo v).1,by have k:=(a.1.vo v).2;show m.I.length<=m.A+1;omega⟩⟩
 exact a.1.toLe
def Ve(r:R):Prop:=∀e∈r.y,e.val.length<=200000000
def Va(l:List aI):Prop:=∀a∈l,a.val.length<=200000000
def Ve.tell(h:Ve r)(e:Ev)(a:e.val.length<=200000000):Ve (gS r e):=λx hx=>by
 obtain hx|hx:=mem_append.1 hx
 .exact h x hx
 rwa[mem_singleton.1 hx]
def tZ(h:Ve r)(c:Int):Ve (bW r c).1:=by
 unfold bW;split
 .split<;>exact h
 exact h
def IP(h:Ve r):Ve (cF r).1:=by
 unfold cF;simp only;split
 .exact h
 unfold b_;split<;>exact h
def BI(h:Ve r)(i:Nat):Ve (mO r i):=by
 unfold mO;split<;>exact h
def Pu{r:R}(h:Ve r):∀(f k:Nat),Ve (iH r f k).1
 |0,k=>h
 |f+1,k=>by
  rw[iH];split
  .simp only;split
   .exact h
   split
   .exact h
   exact Pu h f (k+1)
  exact h
def vR(h:Ve r):Ve (bF r).1:=by
 unfold bF;simp only;split
 .split<;>exact h
 exact Pu h _ _
def IQ:∀(f:Nat) (r:R) (t:U) (c:Int),Ve r->r.A<=r.s.length->r.s.length<=100000000->t.length<=r.A->Ve (jE f r t c).1
 |0,r,t,c,h,_,_,_=>h
 |f+1,r,t,c,h,j,e,l=>by
  rw[jE];split
  .rename_i g;split
   .split
    ·(dsimp only;exact BI h _)
    simp only;split
    .rename_i i;obtain⟨k,m,a,n,o⟩:=(oC g).2 i;have b:(bF r).1.s=r.s:=by rw[a]
     have d:(bF r).1.A=r.A+k:=by rw[a]
     exact IQ f _ _ _ (vR h) (by rwa[b,d]) (by rwa[b]) (by rw[bT,d];omega)
    exact vR h
   split
   .exact h
   split
   .split
    .exact h
    exact Ve.tell h _ (by show t.length<=_;omega)
   split
   ·(dsimp only;exact BI h _)
   exact IQ f {r with A:=r.A+1} _ _ h (by show r.A+1<=r.s.length;omega) e (by rw[bT];show t.length+1<=r.A+1;omega)
  exact h
def Pv(h:Ve r)(b:r.A<=r.s.length)(c:r.s.length<=100000000):Ve (pQ r).1:=by
 unfold pQ;simp only;have a:=mX b 45;split
 .exact IQ _ _ _ _ (tZ h 45) a.1.le (by rwa[a.1.s]) (dO _)
 exact tZ h 45
def Pw(a:U):∀(f:Nat) (r:R) (t:U) (c:Int),Ve r->r.A<=r.s.length->r.s.length<=100000000->t.length<=r.A->Ve (jF a f r t c).1
 |0,r,t,c,h,_,_,_=>h
 |f+1,r,t,c,h,j,l,m=>by
  rw[jF];split
  .rename_i g;split
   .exact h
   split
   .exact Ve.tell h _ (by show t.length<=_;omega)
   split
   ·(dsimp only;exact BI h _)
   split
   ·(dsimp only;exact BI h _)
   simp only;split
   .rename_i i;obtain⟨k,n,b,o,p⟩:=(oC g).2 i;have d:(bF r).1.s=r.s:=by rw[b]
    have e:(bF r).1.A=r.A+k:=by rw[b]
    exact Pw a f _ _ _ (vR h) (by rwa[d,e]) (by rwa[d]) (by rw[bT,e];omega)
   exact vR h
  exact h
def Px(h:Ve r)(e:r.A<=r.s.length)(g:r.s.length<=100000000)(f:0<=r.S):Ve (pq r).1:=by
 unfold pq;split
 .split
  .exact h
  simp only;have a:=IP h;have b:=tX e f;generalize cF r=w at *;split
  .exact a
  split
  .exact a
  split
  .exact a
  split
  .exact a
  split
  .have c:=tZ (r:={w.1 with A:=w.1.A+1}) a 62;split
   .exact c.tell _ (dO _)
   exact c
  have d:=nE b.le;exact Pw _ _ (aV w.1) [] 0 a d.le (by rwa[d.s,b.s]) (dO _)
 exact h
def Py(a:Bool):∀(f:Nat) (r:R),Ve r->r.A<=r.s.length->r.s.length<=100000000->0<=r.S->Ve (jc a f r).1
 |0,r,h,_,_,_=>h
 |f+1,r,h,k,n,o=>by
  rw[Ig];have i:=OY (nE k) a;have p:=i.le;have c:Ve (qc a (aV r)):=h;have j:0<=(qc a (aV r)).S:=by rwa[i.S]
  have l:(qc a (aV r)).s.length<=100000000:=by rwa[i.s]
  generalize qc a (aV r)=q at *;have m:∀x:R×Bool,Kp q x.1->Ve x.1->Ve (if x.2 then jc a f x.1 else(x.1,false)).1:=by
   intro x hx e;split
   .exact Py a f x.1 e hx.le (by rwa[hx.s]) (by rwa[hx.S])
   exact e
  unfold Ed;split
  .rename_i t;split
   .exact c
   split
   .exact c
   split
   .exact c
   simp only;have b:Kp q {q with A:=q.A+2}:=.to;refine m _ ?_ ?_
   .split
    .exact b.trans (Ec b.le j)
    have d:=mX (r:={q with A:=q.A+2}) b.le 45;split
    .exact b.trans (d.1.trans (Eb d.1.le))
    exact b.trans d.1
   split
   .exact Px c b.le l j
   have d:=mX (r:={q with A:=q.A+2}) b.le 45;have g:=tZ (r:={q with A:=q.A+2}) c 45;split
   .exact Pv g d.1.le (by rwa[d.1.s])
   exact g
  exact c
def PD(a:Bool)(h:Ve r)(b:r.A<=r.s.length)(c:r.s.length<=100000000)(d:0<=r.S):Ve (ig a r).1:=Py a _ r h b c d
def IR(a:Int)(first:Nat):∀(f:Nat) (r:R) (n:Int),Ve r->Ve (mV a first f r n).1
 |0,r,n,h=>h
 |f+1,r,n,h=>by
  rw[mV];split
  .simp only;split
   .split<;>exact h
   split
   .exact h
   exact IR a first f _ _ h
  exact h
def abJ(h:Ve r):Ve (rX r).1:=by
 unfold rX;simp only;split
 .exact IR _ _ _ _ _ h
 exact IR _ _ _ _ _ h
def PF(fr:Nat):∀(f:Nat) (r:R),Ve r->Ve (kK fr f r).1
 |0,r,h=>h
 |f+1,r,h=>by
  rw[kK];split
  .split
   .exact abJ h
   split
   .exact h
   .exact PF fr f _ h
   exact h
  exact h
def IU(h:Ve r):Ve (iT r).1:=PF _ _ _ h
def PG(q:Int):∀(f:Nat) (r:R) (t:U) (c:Int),Ve r->r.A<=r.s.length->r.s.length<=100000000->t.length<=2*r.A->Ve (iD q f r t c).1/\(iD q f r t c).2.1.length<=200000000
 |0,r,t,c,h,_,_,_=>⟨h,dO _⟩
 |f+1,r,t,c,h,n,o,p=>by
  rw[iD];split
  .rename_i i;simp only;split
   .exact⟨h,by show t.length<=_;omega⟩
   split
   .exact⟨h,dO _⟩
   split
   ·(dsimp only;exact⟨BI h _,dO _⟩)
   have hx:∀x:R×U×Bool,x=(if r.E r.A==38 then iT r else((bF r).1,if(bF r).2.1=[10]\/(bF r).2.1=[9]then[32]else(bF r).2.1,(bF r).2.2))->Ve x.1/\(x.2.2=true->x.1.s=r.s/\x.1.A<=r.s.length/\x.2.1.length+2*r.A<=2*x.1.A):=by
    intro x hx;subst hx;split
    .refine⟨IU h,λe=>?_⟩;obtain⟨k,d,b,g,j⟩:=(vQ i).2 e;rw[g];exact⟨rfl,b,by show _+2*r.A<=2*k;omega⟩
    refine⟨vR h,λe=>?_⟩;obtain⟨k,d,b,g,j⟩:=(oC i).2 e;refine⟨by show(bF r).1.s=_;rw[b],by show(bF r).1.A<=_;rwa[b],?_⟩;have l:(bF r).1.A=r.A+k:=by rw[b]
    show(if(bF r).2.1=[10]\/(bF r).2.1=[9]then[32]else(bF r).2.1:U).length+2*r.A<=2* (bF r).1.A;rw[l];split
    .simp only[cT,fB];omega
    omega
   generalize u:(if r.E r.A==38 then iT r else((bF r).1,if(bF r).2.1=[10]\/(bF r).2.1=[9]then[32]else(bF r).2.1,(bF r).2.2))=x at *;have a:=hx x rfl;split
   .rename_i m;obtain⟨d,b,g⟩:=a.2 m;exact PG q f x.1 _ _ a.1 (by rwa[d]) (by rwa[d]) (by rw[bT];omega)
   exact⟨a.1,dO _⟩
  exact⟨h,dO _⟩
def abK(h:Ve r)(b:r.A<r.s.length)(a:r.s.length<=100000000):Ve (iA r).1/\(iA r).2.1.length<=200000000:=by
 unfold iA;simp only;split
 .exact⟨h,dO _⟩
 exact PG _ _ {r with A:=r.A+1} [] 0 h (by show r.A+1<=r.s.length;omega) a (dO _)
def abL(h:Ve r)(a:List aI):Ve (fM r a).1:=by
 unfold fM;simp only;split
 .exact h
 have b:=IP h;generalize cF r=w at *;split
 .exact b
 split
 .exact b
 split
 .exact b
 have c:=tZ (r:=aV w.1) b 61;generalize bW (aV w.1) 61=m at *;split
 .exact c
 unfold b_;split
 .split<;>exact c
 split<;>exact c
def PK:∀(f:Nat) (r:R) (c:List aI),Ve r->Va c->r.A<=r.s.length->1<=r.S->r.s.length<=100000000->Ve (kT f r c).1/\Va (kT f r c).2.1
 |0,r,c,h,_,_,_,_=>⟨h,λa d=>nomatch d⟩
 |f+1,r,c,h,d,o,u,v=>by
  rw[Bx];have m:=nE o;have j:Ve (aV r):=h;have p:1<=(aV r).S:=by rwa[m.S]
  have w:(aV r).s.length<=100000000:=by rwa[m.s]
  generalize aV r=q at *;unfold xE;split
  .split
   .exact⟨j,d⟩
   split
   .exact⟨j,λa d=>nomatch d⟩
   split
   .exact⟨j,λa d=>nomatch d⟩
   have n:=abL j c;have e:=Bv m.le p c;split
   .rename_i t;obtain⟨y,z,A⟩:=e.2 t;generalize fM q c=x at *;have k:x.1.A<x.1.s.length:=by rwa[e.1.s]
    have g:=abK n k (by rwa[e.1.s]);have i:=e.1.trans (Bw k);split
    .refine PK f (iA x.1).1 _ g.1 ?_ i.le (by rwa[i.S]) (by rwa[i.s]);intro b l;obtain l|l:=mem_append.1 l
     .exact d b l
     rw[mem_singleton.1 l];exact g.2
    exact⟨g.1,λa d=>nomatch d⟩
   exact⟨n,λa d=>nomatch d⟩
  exact⟨j,λa d=>nomatch d⟩
def abM(h:Ve r)(b:r.A<=r.s.length)(c:1<=r.S)(d:r.s.length<=100000000):Ve (lX r).1/\Va (lX r).2.1:=PK _ r [] h (λa e=>nomatch e) b c d
def IV:∀(l:U) (r:R),Ve r->Ve (kL l r).1
 |[],r,h=>h
 |x::l,r,h=>by
  rw[Ee];split
  .exact IV l _ (tZ h _)
  exact tZ h _
def PL(h:Ve r)(a:r.A<r.s.length)(b:r.s.length<=100000000)(e:(bF r).2.2=true):Ve (Rf.text (bF r).1 (bF r).2.1):=by
 obtain⟨k,c,d,f,g⟩:=(oC a).2 e;exact(vR h).tell _ (by show(bF r).2.1.length<=_;omega)
def abN(h:Ve r)(a:r.A<r.s.length)(e:(iT r).2.2=true):Ve (Rf.text (iT r).1 (iT r).2.1):=by
 obtain⟨k,b,c,d,f⟩:=(vQ a).2 e;exact(IU h).tell _ (by show(iT r).2.1.length<=_;omega)
def PN:∀(f:Nat) (r:R),Ve r->r.A<=r.s.length->r.s.length<=100000000->Ve (jN f r).1
 |0,r,h,_,_=>h
 |f+1,r,h,e,d=>by
  rw[jN];split
  .rename_i a;simp only;split
   .exact h
   split
   .exact h
   split
   .rename_i b;have c:=(zl a b).1;exact PN f _ (PL h a d b) c.le (by rwa[c.s])
   exact vR h
  exact h
def abO(h:Ve r)(b:r.A<=r.s.length)(c:r.s.length<=100000000):Ve (rK r).1:=by
 rw[Ii];have a:=(Ik kC r b).1;split
 .exact PN _ _ (IV _ _ h) a.le (by rwa[a.s])
 exact IV _ _ h
def PO:∀(l:U) (r:R),Ve r->Ve (kU l r).1
 |[],r,h=>h
 |x::l,r,h=>by
  rw[kU];split
  .split
   .exact h
   exact PO l _ h
  exact h
def PR(h:Ve r)(a:U):Ve (jX r a).1:=by
 unfold jX;simp only;have hx:=PO a {r with A:=r.A+2} h;generalize kU a {r with A:=r.A+2}=x at *;split
 .exact hx
 split
 .exact hx
 exact tZ (r:=aV x.1) hx 62
def PS(h:Ve r)(g:r.A+2<=r.s.length)(d:r.s.length<=100000000)(f:0<=r.S)(c:Int):Ve (qz r c).1:=by
 have b:Kp r {r with A:=r.A+2}:=.to;unfold qz;split
 .exact Px (r:={r with A:=r.A+2}) h b.le d f
 split
 .exact h
 simp only;split
 .split
  .have e:=mX (r:={r with A:=r.A+2}) b.le 45;have a:=tZ (r:={r with A:=r.A+2}) h 45;split
   .exact Pv a e.1.le (by rwa[e.1.s])
   exact a
  exact abO (r:={r with A:=r.A+2}) h b.le d
 exact h
def IW(s:R):∀(l:List aI) (q:R) (told:List aI),Va l->Ve q->Ve (jW s l q told).1
 |[],q,told,_,h=>h
 |a::l,q,told,c,h=>by
  rw[Ov];have d:Va l:=λb e=>c b (iU _ e);split
  .exact IW s l _ _ d (h.tell _ (c a jU))
  exact IW s l _ _ d h
def PT(h:Ve r)(b:U)(c:Va a):Ve (dX r b a):=by
 unfold dX Aq;refine Ve.tell (IW _ a {r with I:=r.I++[b],P:=r.P++[a]} [] c h) _ ?_;exact dO _
def PU:∀(l:List aI) (q:R),Ve q->Ve (rD l q)
 |[],q,h=>h
 |a::l,q,h=>by
  rw[rD];refine PU l _ ?_;split
  .exact h.tell _ (dO _)
  exact h
def PV(h:Ve r)(b:U)(a:List aI):Ve (mD r b a):=by
 unfold mD aL;have c:=h.tell ⟨2,b,nD r b,[],[]⟩ (dO _);split
 .exact PU _ _ c
 exact c
def abP(f:Nat)(z:∀(r:R) (run:Nat),Ve r->r.A<=r.s.length->1<=r.S->r.s.length<=100000000->Ve (dK f r run).1)(r:R)(y:Ve r)(h:r.A<r.s.length)(A:1<=r.S)(k:r.s.length<=100000000):Ve (je (f+1) r).1:=by
 rw[Eg];have l:Kp r {r with A:=r.A+1}:=.to;unfold zn;split
 .exact y
 have n:Ve {r with A:=r.A+1}:=y;generalize B:({r with A:=r.A+1}:R)=q at *;have e:=l.trans (tX (r:=q) l.le<|by rw[l.S];omega);have p:=IP n;cases C:(cF q).2.2 with
 |false=>rwa[M]
 |true=>
  rw[J rfl];have c:=abM p e.le (by rwa[e.S]) (by rwa[e.s]);generalize D:lX (cF q).1=x at *;cases E:x.2.2 with
  |false=>rw[M];exact c.1
  |true=>
   rw[J rfl];have j:=Ei (nm:=(cF q).2.1) h A k B.symm (by rw[<-C]) D E;generalize(cF q).2.1=nm at *;obtain⟨a,b,o⟩:=x;simp only at j c⊢;have F:a.A<a.s.length:=by rw[j.kp.s];exact j.A
   have g:Kp r {a with A:=a.A+1}:=j.kp.trans (.to);unfold xH;split
   .exact c.1
   split
   .have d:=tZ (r:={a with A:=a.A+1}) c.1 62;split
    .exact PV (PT d nm c.2) nm b
    exact d
   have d:Ve {a with A:=a.A+1}:=c.1;generalize G:({a with A:=a.A+1}:R)=m at *;have t:=xI m nm b;have i:(dX m nm b).s=r.s:=by rw[t.1];exact g.s
   have u:(dX m nm b).A=m.A:=by rw[t.1]
   have v:(dX m nm b).S=r.S:=by rw[t.1];exact g.S
   have w:=z (dX m nm b) (dX m nm b).A (PT d nm c.2) (by rw[i,u];exact g.len) (by rwa[v]) (by rwa[i]);unfold zm;split
   .split
    .exact PV (PR w nm) nm b
    exact PR w nm
   exact w
def abQ(f:Nat)(l:∀(r:R),Ve r->r.A<r.s.length->1<=r.S->r.s.length<=100000000->Ve (je f r).1)(m:∀(r:R) (run:Nat),Ve r->r.A<=r.s.length->1<=r.S->r.s.length<=100000000->Ve (dK f r run).1)
 (r:R) (run:Nat) (b:Ve r) (h:r.A<=r.s.length) (g:1<=r.S) (a:r.s.length<=100000000):Ve (dK (f+1) r run).1:=by
 have e:∀(q:R) (k:Nat),Ve q->Kp r q->Ve (dK f q k).1:=λq k i j=>
  m q k i j.le (by rwa[j.S]) (by rwa[j.s])
 rw[dK];split
 .rename_i c;simp only;split
  .split
   .exact b
   rename_i o;split
   .exact b
   split
   .split
    .rename_i n;exact e _ _ (l r b c g a) ((rM f).1 r c g a n).1
    exact l r b c g a
   split
   .exact e _ _ (PS b (by omega) a (by omega) _) (BB (r:=r) (by omega) (by omega) _).1
   exact PS b (by omega) a (by omega) _
  split
  .split
   .rename_i d;exact e _ _ (abN b c d) (Ef c d).1
   exact IU b
  split
  .exact b
  split
  .rename_i d;exact e _ _ (PL b c a d) (zl c d).1
  exact vR b
 exact b
def Em:∀(f:Nat),(∀(r:R),Ve r->r.A<r.s.length->1<=r.S->r.s.length<=100000000->Ve (je f r).1)/\(∀(r:R) (run:Nat),Ve r->r.A<=r.s.length->1<=r.S->r.s.length<=100000000->Ve (dK f r run).1)
 |0=>⟨λr a _ _ _=>(by rwa[je]),λr run a _ _ _=>(by rwa[dK])⟩
 |f+1=>⟨abP f (Em f).2,abQ f (Em f).1 (Em f).2⟩
def abR(r:R)(i:Ve r)(h:r.A<=r.s.length)(n:1<=r.S)(f:r.s.length<=100000000):Ve (lY r):=by
 rw[Iy];have b:=BD false h (by omega);have a:=PD false i h f (by omega);split
 .rename_i j;unfold zq;generalize(ig false r).1=m at *;have k:m.A+1<m.s.length:=by rw[b.1.s];exact(b.2 j)
  have c:1<=m.S:=by rwa[b.1.S]
  have d:m.s.length<=100000000:=by rwa[b.1.s]
  split
  .have e:=(Em (2*r.s.length+2)).1 m a (by omega) c d;split
   .rename_i l;have g:=b.1.trans ((rM _).1 m (by omega) c d l).1;unfold BF;split<;>exact(PD true e g.le (by rwa[g.s]) (by rw[g.S];omega))
   exact e
  exact a
 exact a
def IX:∀(l:List Ev) (n:Nat),(∀e∈l,e.val.length<=n)->zB l<=l.length*n
 |[],n,_=>dO _
 |e::l,n,h=>by
  have a:=h e jU;have b:=IX l n λx hx=>h x (iU _ hx);rw[cT,yE];unfold zB;omega
def IY{a:Int}{s:U}(l:8<=a)(c:s.length<=100000000):(fN od oa a on s).y.length<=400000000/\∀e∈(fN od oa a on s).y,e.val.length<=200000000:=by
 have h:∀tx:U,tx.length<=100000000->(lY (gT od oa a on tx)).y.length<=400000000/\Ve (lY (gT od oa a on tx)):=by
  intro tx b;obtain⟨m,d,f,n⟩:=(Iz (gT od oa a on tx) (dO _) (by show 1<=a;omega) b);have g:(gT od oa a on tx).s=tx:=rfl;have i:(gT od oa a on tx).A=0:=rfl;have j:(gT od oa a on tx).y.length=0:=rfl;rw[g]at d;rw[i,j]at f;exact⟨by omega,(abR (gT od oa a on tx) (λe k=>nomatch k) (dO _) (by show 1<=a;omega) b)⟩
 unfold fN;simp only;split
 .exact h _ (by rw[iB];omega)
 exact h s c
def abS{a:Int}{s:U}(j:8<=a)(d:s.length<=100000000):(fN od oa a on s).I.length<=100000000/\∀n∈(fN od oa a on s).I,n.length<=100000000:=by
 have h:∀tx:U,tx.length<=100000000->(lY (gT od oa a on tx)).I.length<=100000000/\∀n∈(lY (gT od oa a on tx)).I,n.length<=100000000:=by
  intro tx e;have b:=Iz (gT od oa a on tx) (dO _) (by show 1<=a;omega) e;have c:=b.2.2.2 ⟨(λn f=>nomatch f),dO _⟩;have g:=b.2.1;have i:(gT od oa a on tx).s=tx:=rfl;rw[i]at g;exact⟨by have:=c.2;omega,c.1⟩
 unfold fN;simp only;split
 .exact h _ (by rw[iB];omega)
 exact h s d
structure Sx(r x:R)(b:Bool):Prop where
 bad:x.stop=2->x.A<x.s.length
 ok:b=true->x.stop=0
 s:x.s=r.s
 S:x.S=r.S
def Sx.trans{r x y:R}{b:Bool}(h:x.s=r.s/\x.S=r.S)(k:Sx x y b):Sx r y b:=⟨k.bad,k.ok,k.s.trans h.1,k.S.trans h.2⟩
def Sx.back{y:R}{b:Bool}(k:Sx x y b)(h:x.s=r.s/\x.S=r.S):Sx r y b:=⟨k.bad,k.ok,k.s.trans h.1,k.S.trans h.2⟩
def kg{e:Int}(h:x.A<x.s.length)(a:x.s=r.s)(b:x.S=r.S):Sx r (eZ x e) false:=⟨λ_=>h,λq=>(by cases q),a,b⟩
def mM(h:x.stop=1)(a:x.s=r.s)(b:x.S=r.S):Sx r x false:=⟨λq=>(by rw[h]at q;cases q),λq=>(by cases q),a,b⟩
def jR{b:Bool}(h:x.stop=0)(a:x.s=r.s)(c:x.S=r.S):Sx r x b:=⟨λq=>(by rw[h]at q;cases q),λ_=>h,a,c⟩
def Sx.no{b:Bool}(h:Sx r x b):Sx r x false:=⟨h.bad,λq=>(by cases q),h.s,h.S⟩
def Ck{i:Nat}(h:i<r.s.length):Sx r (mO r i) false:=by
 unfold mO;split<;>exact kg h rfl rfl
def wH(h:r.stop=0)(c:Int):Sx r (bW r c).1 (bW r c).2:=by
 unfold bW;split
 .rename_i a;split
  .exact jR h rfl rfl
  exact kg a rfl rfl
 exact mM rfl rfl rfl
def Kk(h:r.stop=0)(c:8<=r.S)(d:r.A<=r.s.length):Sx r (cF r).1 (cF r).2.2/\((cF r).2.2=true->(cF r).1.A<r.s.length):=by
 have b:=vM dL (r.s.drop r.A);rw[lm]at b;unfold cF b_;dsimp only;split
 .rename_i a;exact⟨kg (by show r.A+r.S.toNat<r.s.length;omega) rfl rfl,λq=>by cases q⟩
 split
 .rename_i a;exact⟨jR h rfl rfl,λ_=>a⟩
 exact⟨mM rfl rfl rfl,λq=>by cases q⟩
def SV{r:R}(h:r.stop=0):∀(f k:Nat),1<=k->Sx r (iH r f k).1 (iH r f k).2.2
 |0,k,a=>mM rfl rfl rfl
 |f+1,k,a=>by
  unfold iH;split
  .rename_i b;dsimp only;split
   .exact kg (by show r.A+k - 1<r.s.length;omega) rfl rfl
   split
   .exact jR h rfl rfl
   exact SV h f (k+1) (by omega)
  exact mM rfl rfl rfl
def Cm(h:r.stop=0):Sx r (bF r).1 (bF r).2.2:=by
 unfold bF;dsimp only;split
 .split<;>exact jR h rfl rfl
 exact SV h _ 1 (a_ _)
def Kl:∀(f:Nat) {r:R} (t:U) (c:Int),r.stop=0->Sx r (jE f r t c).1 (jE f r t c).2
 |0,r,t,c,h=>jR h rfl rfl
 |f+1,r,t,c,h=>by
  unfold jE;split
  .rename_i b;split
   .split
    .show Sx r (mO r r.A) false;exact Ck b
    dsimp only;have a:=Cm h;split
    .rename_i d;exact Sx.trans ⟨a.s,a.S⟩ (Kl f _ _ (a.ok d))
    exact a.no
   split
   .exact mM rfl rfl rfl
   rename_i g;split
   .rename_i e;split
    .refine kg ?_ rfl rfl;have i:r.E (r.A+1)=45:=by simpa using e
     show r.A+2<r.s.length;omega
    exact jR h rfl rfl
   split
   .show Sx r (mO r (r.A+1)) false;exact Ck (by omega)
   exact Sx.trans (x:={r with A:=r.A+1}) ⟨rfl,rfl⟩ (Kl f _ _ h)
  exact mM rfl rfl rfl
def SW(h:r.stop=0):Sx r (pQ r).1 (pQ r).2:=by
 unfold pQ;dsimp only;have a:=wH h 45;split
 .rename_i b;exact Sx.trans ⟨a.s,a.S⟩ (Kl _ _ _ (a.ok b))
 exact a.no
def SX(n:U):∀(f:Nat) {r:R} (t:U) (c:Int),r.stop=0->Sx r (jF n f r t c).1 (jF n f r t c).2
 |0,r,t,c,h=>jR h rfl rfl
 |f+1,r,t,c,h=>by
  unfold jF;split
  .rename_i e;split
   .exact mM rfl rfl rfl
   rename_i b;split
   .exact jR h rfl rfl
   split
   .rename_i d;refine Ck ?_;simp at b d;have:=b d.1;omega
   split
   .show Sx r (mO r r.A) false;exact Ck e
   dsimp only;have a:=Cm h;split
   .rename_i g;exact Sx.trans ⟨a.s,a.S⟩ (SX n f _ _ (a.ok g))
   exact a.no
  exact mM rfl rfl rfl
def SY(h:r.stop=0)(i:8<=r.S):Sx r (pq r).1 (pq r).2:=by
 unfold pq;split
 .rename_i f;split
  .exact kg f rfl rfl
  dsimp only;obtain⟨a,d⟩:=Kk h i (LC f);split
  .exact a.no
  rename_i c;have c:(cF r).2.2=true:=by simpa using c
  have g:=a.ok c;have e:(cF r).1.A<(cF r).1.s.length:=by rw[a.s];exact(d c)
  split
  .exact kg e a.s a.S
  split
  .exact kg e a.s a.S
  split
  .exact kg e a.s a.S
  split
  .have j:=wH (r:={(cF r).1 with A:=(cF r).1.A+1}) g 62;have b:Sx r _ _:=j.back ⟨a.s,a.S⟩;split
   .rename_i k;exact jR (b.ok k) b.s b.S
   exact b
  exact Sx.trans (x:=aV (cF r).1) ⟨a.s,a.S⟩ (SX _ _ _ _ g)
 exact mM rfl rfl rfl
def Km(a:Bool):∀(f:Nat) {r:R},r.stop=0->8<=r.S->Sx r (jc a f r).1 (jc a f r).2/\((jc a f r).2=true->(jc a f r).1.A+1<(jc a f r).1.s.length)
 |0,r,h,d=>⟨jR h rfl rfl,λq=>by cases q⟩
 |f+1,r,h,d=>by
  unfold jc;dsimp only;split
  .rename_i e;split
   .exact⟨kg e rfl rfl,λq=>by cases q⟩
   split
   .exact⟨mM rfl rfl rfl,λq=>by cases q⟩
   rename_i i;split
   .refine⟨jR h rfl rfl,λ_=>?_⟩;have l:(aV r).A<(aV r).s.length:=e;have m:¬(aV r).A+1=(aV r).s.length:=i;show(aV r).A+1<(aV r).s.length;omega
   have c:∀X:R×Bool,Sx r X.1 X.2->Sx r (if X.2=true then jc a f X.1 else(X.1,false)).1 (if X.2=true then jc a f X.1 else(X.1,false)).2/\((if X.2=true then jc a f X.1 else(X.1,false)).2=true->(if X.2=true then jc a f X.1 else(X.1,false)).1.A+1<(if X.2=true then jc a f X.1 else(X.1,false)).1.s.length):=λX hx=>by
    split
    .rename_i j;have g:=Km a f (hx.ok j) (by rwa[hx.S]);exact⟨g.1.back ⟨hx.s,hx.S⟩,g.2⟩
    exact⟨hx.no,λq=>by cases q⟩
   refine c _ ?_;split
   .exact Sx.back (SY h d) ⟨rfl,rfl⟩
   have b:=wH (r:={aV r with whole:=a&&decide ((aV r).A=(aV r).s.length),A:=(aV r).A+2}) h 45;split
   .rename_i k;exact(SW (b.ok k)).back ⟨b.s,b.S⟩
   exact⟨b.bad,λq=>(by cases q),b.s,b.S⟩
  exact⟨mM rfl rfl rfl,λq=>by cases q⟩
def agT(h:r.stop=0)(i:8<=r.S)(j:r.A<=r.s.length)(l:List aI):Sx r (fM r l).1 (fM r l).2.2/\((fM r l).2.2=true->(fM r l).1.A<(fM r l).1.s.length):=by
 have k:=vM dL (r.s.drop r.A);rw[lm]at k;unfold fM;dsimp only;split
 .rename_i m;simp at m;exact⟨kg (by show r.A+r.S.toNat - 1<r.s.length;omega) rfl rfl,λq=>by cases q⟩
 obtain⟨b,d⟩:=Kk h i j;split
 .exact⟨b.no,λq=>by cases q⟩
 rename_i c;have c:(cF r).2.2=true:=by simpa using c
 have g:(cF r).1.A<(cF r).1.s.length:=by rw[b.s];exact d c
 split
 .exact⟨kg g b.s b.S,λq=>by cases q⟩
 split
 .exact⟨kg g b.s b.S,λq=>by cases q⟩
 have n:=wH (r:=aV (cF r).1) (b.ok c) 61;have a:Sx r _ _:=n.back ⟨b.s,b.S⟩;split
 .exact⟨a.no,λq=>by cases q⟩
 rename_i e;have e:(bW (aV (cF r).1) 61).2=true:=by simpa using e
 unfold b_;by_cases f:(aV (bW (aV (cF r).1) 61).1).A<(aV (bW (aV (cF r).1) 61).1).s.length
 .simp only[J f,cK,cE];exact⟨jR (a.ok e) a.s a.S,λ_=>f⟩
 simp only[M f,bY];exact⟨mM rfl a.s a.S,λq=>by cases q⟩
def Kn(b:Int)(i:Nat):∀(f:Nat) {r:R} (n:Int),r.stop=0->Sx r (mV b i f r n).1 (mV b i f r n).2.2
 |0,r,n,h=>jR h rfl rfl
 |f+1,r,n,h=>by
  unfold mV;split
  .rename_i a;dsimp only;split
   .split
    .exact kg a rfl rfl
    exact jR h rfl rfl
   split
   .exact kg a rfl rfl
   exact Sx.back (Kn b i f (r:={r with A:=r.A+1}) _ h) ⟨rfl,rfl⟩
  exact mM rfl rfl rfl
def agU(h:r.stop=0):Sx r (rX r).1 (rX r).2.2:=by
 unfold rX;dsimp only;split
 .exact Sx.back (Kn _ _ _ (r:={r with A:=r.A+1+1}) _ h) ⟨rfl,rfl⟩
 exact Sx.back (Kn _ _ _ (r:={r with A:=r.A+1}) _ h) ⟨rfl,rfl⟩
def SZ(i:Nat):∀(f:Nat) {r:R},r.stop=0->Sx r (kK i f r).1 (kK i f r).2.2
 |0,r,h=>jR h rfl rfl
 |f+1,r,h=>by
  unfold kK;split
  .rename_i a;split
   .exact agU h
   split
   .exact jR h rfl rfl
   .exact Sx.back (SZ i f (r:={r with A:=r.A+1}) h) ⟨rfl,rfl⟩
   exact kg a rfl rfl
  exact mM rfl rfl rfl
def S_(h:r.stop=0):Sx r (iT r).1 (iT r).2.2:=Sx.back (SZ _ _ (r:={r with A:=r.A+1}) h) ⟨rfl,rfl⟩
def Ta(q:Int):∀(f:Nat) {r:R} (t:U) (c:Int),r.stop=0->Sx r (iD q f r t c).1 (iD q f r t c).2.2
 |0,r,t,c,h=>jR h rfl rfl
 |f+1,r,t,c,h=>by
  unfold iD;split
  .rename_i b;dsimp only;split
   .exact jR h rfl rfl
   split
   .exact kg b rfl rfl
   split
   .show Sx r (mO r r.A) false;exact Ck b
   have a:∀X:R×U×Bool,Sx r X.1 X.2.2->Sx r (if X.2.2=true then iD q f X.1 (t++X.2.1) (c+1)else(X.1,[],false)).1 (if X.2.2=true then iD q f X.1 (t++X.2.1) (c+1)else(X.1,[],false)).2.2:=λX hx=>by
    split
    .rename_i d;exact(Ta q f _ _ (hx.ok d)).back ⟨hx.s,hx.S⟩
    exact hx.no
   refine a _ ?_;split
   .exact S_ h
   exact Cm h
  exact mM rfl rfl rfl
def agV(h:r.stop=0)(a:r.A<r.s.length):Sx r (iA r).1 (iA r).2.2:=by
 unfold iA;dsimp only;split
 .exact kg a rfl rfl
 exact Sx.back (Ta _ _ (r:={r with A:=r.A+1}) _ _ h) ⟨rfl,rfl⟩
def Tc:∀(f:Nat) {r:R} (l:List aI),r.stop=0->8<=r.S->Sx r (kT f r l).1 (kT f r l).2.2/\((kT f r l).2.2=true->(kT f r l).1.A<(kT f r l).1.s.length)
 |0,r,l,h,i=>⟨jR h rfl rfl,λq=>by cases q⟩
 |f+1,r,l,h,i=>by
  unfold kT;dsimp only;split
  .rename_i c;split
   .exact⟨jR h rfl rfl,λ_=>c⟩
   split
   .exact⟨kg c rfl rfl,λq=>by cases q⟩
   split
   .exact⟨kg c rfl rfl,λq=>by cases q⟩
   obtain⟨j,e⟩:=agT (r:=aV r) h i (LC c) l;have b:Sx r _ _:=j.back ⟨rfl,rfl⟩;split
   .exact⟨b.no,λq=>by cases q⟩
   rename_i d;have d:(fM (aV r) l).2.2=true:=by simpa using d
   have k:=agV (j.ok d) (e d);have a:Sx r _ _:=k.back ⟨b.s,b.S⟩;split
   .exact⟨a.no,λq=>by cases q⟩
   rename_i g;have g:(iA (fM (aV r) l).1).2.2=true:=by simpa using g
   have m:=Tc f (l++[⟨(fM (aV r) l).2.1,[],(iA (fM (aV r) l).1).2.1⟩]) (k.ok g) (by rwa[a.S]);exact⟨m.1.back ⟨a.s,a.S⟩,m.2⟩
  exact⟨mM rfl rfl rfl,λq=>by cases q⟩
def Td:∀(l:U) {r:R},r.stop=0->Sx r (kL l r).1 (kL l r).2
 |[],r,h=>jR h rfl rfl
 |x::l,r,h=>by
  unfold kL;dsimp only;have a:=wH h (x.toNat:Int);split
  .rename_i b;exact(Td l (a.ok b)).back ⟨a.s,a.S⟩
  exact a.no
def Tf:∀(f:Nat) {r:R},r.stop=0->Sx r (jN f r).1 (jN f r).2
 |0,r,h=>jR h rfl rfl
 |f+1,r,h=>by
  unfold jN;split
  .dsimp only;split
   .exact mM rfl rfl rfl
   split
   .exact jR h rfl rfl
   have a:=Cm h;split
   .rename_i b;exact(Tf f (r:=Rf.text (bF r).1 (bF r).2.1) (a.ok b)).back ⟨a.s,a.S⟩
   exact a.no
  exact mM rfl rfl rfl
def agW(h:r.stop=0):Sx r (rK r).1 (rK r).2:=by
 unfold rK;dsimp only;have a:=Td [91,67,68,65,84,65,91] h;split
 .rename_i b;exact(Tf _ (a.ok b)).back ⟨a.s,a.S⟩
 exact a.no
def Ti:∀(l:U) {r:R},r.stop=0->Sx r (kU l r).1 (kU l r).2
 |[],r,h=>jR h rfl rfl
 |x::l,r,h=>by
  unfold kU;split
  .rename_i a;split
   .exact kg a rfl rfl
   exact Sx.back (Ti l (r:={r with A:=r.A+1}) h) ⟨rfl,rfl⟩
  exact mM rfl rfl rfl
def agX(h:r.stop=0)(n:U):Sx r (jX r n).1 (jX r n).2:=by
 unfold jX;dsimp only;have hx:Sx r _ _:=(Ti n (r:={r with A:=r.A+2}) h).back ⟨rfl,rfl⟩;split
 .exact hx.no
 rename_i a;have a:(kU n {r with A:=r.A+2}).2=true:=by simpa using a
 split
 .rename_i b;simp at b;exact kg b.1 hx.s hx.S
 exact Sx.back (wH (r:=aV (kU n {r with A:=r.A+2}).1) (hx.ok a) 62) ⟨hx.s,hx.S⟩
def agY(h:r.stop=0)(b:8<=r.S)(d:r.A+1<r.s.length)(c:Int):Sx r (qz r c).1 (qz r c).2:=by
 unfold qz;split
 .exact Sx.back (SY (r:={r with A:=r.A+2}) h b) ⟨rfl,rfl⟩
 split
 .exact kg d rfl rfl
 dsimp only;split
 .split
  .have a:Sx r _ _:=(wH (r:={r with A:=r.A+2}) h 45).back ⟨rfl,rfl⟩;split
   .rename_i e;exact(SW (a.ok e)).back ⟨a.s,a.S⟩
   exact a.no
  exact Sx.back (agW (r:={r with A:=r.A+2}) h) ⟨rfl,rfl⟩
 exact mM rfl rfl rfl
