import Derived.Test.YtmgfijllcdadgaaGreatDoorUW02
set_option linter.all false
namespace Go.Proofs.YtmgfijllcdadgaaGreatDoor.Q
open Rf
open Mk hiding Rf
variable {r:R}{k m:Z}{b:Int}{x:UInt8}{F:Int->Z}
def KG(c:r.A<r.s.length)(d:r.E r.A<128)(e:eX (r.E r.A)=true)(a:r.E r.A≠10)(b:r.E r.A≠13):
 bF r=({r with A:=r.A+1},[r.s.getD r.A 0],true):=by
 rw[bF,M<|by simp[a,b],iH,J,yg,iS r c];dsimp only;rw[zu];have:eF ((r.s.getD r.A 0).toNat:Int)=some (r.E r.A,0):=by rw[eF,J ⟨d,e⟩];rfl
 rw[this];dsimp only;rw[M,J rfl]
def In(k:Z)(r:R):Prop:=k.H=11\/(k.H=10/\k.D=[]/\(r.A<r.s.length->Rf.bJ (nb (r.s.getD r.A 0))=false))
def yj(d:k.t=0)(a:aZ k.rp=false)(h:k.H=11\/(k.H=10/\Rf.bJ b=false)):aP k b=dN {k with H:=11} b:=by
 have c:¬(0<k.t):=by omega
 obtain h|⟨h,f⟩:=h
 .unfold aP;have e:({k with H:=11}:Z)=k:=by rw[<-h]
  rw[M c,a,e];simp[h]
 unfold aP;rw[M c,a];simp only[h];simp[bU,jK,h,<-Ae,f]
def ahF(f:k.t=0)(i:aZ k.rp=false)(h:k.H=11\/(k.H=10/\Rf.bJ b=false))(j:b=62->k.D≠[63])(d:b≠63):
 ∀L T a r l c e,aP {k with C:=L,F:=T,A:=a,K:=l,aN:=c,O:=r,j:=e} b=Mk.cV {k with C:=L,F:=T,A:=a,K:=l,aN:=c,O:=r,j:=e,H:=11} b:=by
 intro L T a r l c e;rw[yj (k:={k with C:=L,F:=T,A:=a,K:=l,aN:=c,O:=r,j:=e}) f i h,dN,M λg=>j g.1 g.2,M λg=>d g.1,M d]
def ahG(d:k.t=0)(f:aZ k.rp=false)(h:k.H=11\/(k.H=10/\Rf.bJ b=false)):
 (∀X g,Does {k with H:=11} b X g->Does k b X g)/\(∀e,fQ {k with H:=11} b e->fQ k b e):=by
 have e:∀L T a r l c e,aP {k with C:=L,F:=T,A:=a,K:=l,aN:=c,O:=r,j:=e} b=aP {k with C:=L,F:=T,A:=a,K:=l,aN:=c,O:=r,j:=e,H:=11} b:=by
  intro L T a r l c e;rw[yj (k:={k with C:=L,F:=T,A:=a,K:=l,aN:=c,O:=r,j:=e}) d f h,yj (k:={k with C:=L,F:=T,A:=a,K:=l,aN:=c,O:=r,j:=e,H:=11}) d f (.inl rfl)]
 refine⟨λX g hd L T a r l c e0=>?_,λi hd L T a r l c e0=>?_⟩
 .rw[e];exact hd L T a r l c e0
 rw[e];exact hd L T a r l c e0
def TQ(i:k.H=11)(d:k.t=0)(f:aZ k.rp=false)(g:b=62->k.D≠[63])(h:b≠63):Rc k b b:=by
 intro L T a r l c e;rw[ahF d f (.inl i) g h];have:({k with C:=L,F:=T,A:=a,K:=l,aN:=c,O:=r,j:=e,H:=11}:Z)={k with C:=L,F:=T,A:=a,K:=l,aN:=c,O:=r,j:=e}:=by rw[i]
 rw[this]
def ahH(f:k.H=11)(b:k.t=0)(d:aZ k.rp=false)(g:k.D=[]):Does k 63 [] {k with D:=[63]}:=by
 intro L T a r l c e;rw[yj (k:={k with C:=L,F:=T,A:=a,K:=l,aN:=c,O:=r,j:=e}) b d (.inl f)];unfold dN;simp[g,bM,f]
def ahI(f:k.H=11)(b:k.t=0)(d:aZ k.rp=false)(g:k.D=[63])(h:k.G+1<=k.S):Does k 63 [] {k with i:=k.i++[63],G:=k.G+1}:=by
 intro L T a r l c e;rw[yj (k:={k with C:=L,F:=T,A:=a,K:=l,aN:=c,O:=r,j:=e}) b d (.inl f)];unfold dN;simp[g,bM,f,gb,bI,h,bV];rfl
def ahJ(f:k.H=11)(b:k.t=0)(d:aZ k.rp=false)(g:k.D=[63])(h:k.S<k.G+1):fQ k 63 7:=by
 intro L T a r l c e;rw[yj (k:={k with C:=L,F:=T,A:=a,K:=l,aN:=c,O:=r,j:=e}) b d (.inl f)];unfold dN;have:gb {k with C:=L,F:=T,A:=a,K:=l,aN:=c,O:=r,j:=e,H:=11} 1=false:=by
  unfold gb bI;simp;exact h
 rw[M,J ⟨rfl,g⟩,this];rfl
def ahK(f:k.H=11)(b:k.t=0)(d:aZ k.rp=false)(g:k.D=[63]):
 Does k 62 [⟨5,k.B,[],k.i,[]⟩] {k with D:=[],i:=[],G:=0,B:=[],H:=if k.I.length=0 then 0 else 1}:=by
 intro L T a r l c e;rw[yj (k:={k with C:=L,F:=T,A:=a,K:=l,aN:=c,O:=r,j:=e}) b d (.inl f)];unfold dN;simp only[g];simp[kG,Fj,iy,bH]
def TR{e:Ev}(h:e.kind≠3):Pc [e]:=λx hx a=>by
 simp only[oN,qm,uD]at hx;subst hx;exact aj6 a h
def ahL(w:U):∀(f:Nat) (r:R) (k m:Z),In k r->k.t=0->aZ k.rp=false->(k.D=[]\/(k.D=[63]/\r.A<r.s.length/\r.E r.A≠62))->k.G+k.D.length<=k.S->k.S=r.S->k.B=w->
 r.I=k.I->r.whole=false->r.A<=r.s.length->r.s.length<r.A+f->Lk k m->Rt r m->
  (∃u I D,jF w f r (k.i++k.D) (k.G+k.D.length)=(u,true)/\dF r m u I/\u.I=r.I/\u.P=r.P/\I.O=false/\Lk D I/\Sa k D/\Cl D/\D.H=(if k.I.length=0 then 0 else 1)/\D.bG=k.bG)
  \/(∃u,jF w f r (k.i++k.D) (k.G+k.D.length)=(u,false)/\Fin r m u):=by
 intro f;induction f with
 |zero=>intro r k m _ _ _ _ _ _ _ _ _ _ hf;omega
 |succ f ih=>
  intro r k m hs z B hh G K L ho hw hl hf hm hr;have a0:∀x∈k.D,x.toNat<128:=by
   obtain g|g:=hh
   .rw[g];intro x hx;cases hx
   rw[g.1];intro x hx;simp only[oN,qm,uD]at hx;subst hx;decide
  have a1:fO k=false:=by unfold fO;obtain g|g:=hs<;>simp[g]
  unfold jF;by_cases l:r.A<r.s.length
  .rw[J l];have a8:k.H=11\/(k.H=10/\Rf.bJ (nb (r.s.getD r.A 0))=false):=by
    obtain g|g:=hs
    .exact .inl g
    exact .inr ⟨g.1,g.2.2 l⟩
   obtain⟨hL,a2⟩:=ahG (k:=k) (b:=nb (r.s.getD r.A 0)) z B a8;by_cases d:r.E r.A=63
   .have E:nb (r.s.getD r.A 0)=63:=by rw[fo<|by rw[d];decide,d]
    have a3:r.s.getD r.A 0≠13:=by rw[(lT r r.A 63).1 d];decide
    have N:∃h C,dF r m {r with A:=r.A+1} C/\Lk h C/\C.O=false/\h.D=[63]/\h.i=k.i++k.D/\h.G=k.G+k.D.length/\h.H=11/\h.B=w/\h.t=0/\h.rp=k.rp/\Sa k h/\h.bG=k.bG:=by
     obtain g|g:=hh
     .obtain⟨C,e,o,v⟩:=kY (X:=[]) l hm hr a3 (hL _ _<|by rw[E];exact ahH (k:={k with H:=11}) rfl z B g) kO;rw[aj1]at e;exact⟨_,C,e,o,v,rfl,by rw[g];simp,by rw[g];simp,rfl,L,z,rfl,⟨rfl,rfl,rfl,rfl,rfl,rfl,rfl,rfl,rfl⟩,rfl⟩
     rw[g.1]at G;obtain⟨C,e,o,v⟩:=kY (X:=[]) l hm hr a3 (hL _ _<|by rw[E];exact ahI (k:={k with H:=11}) rfl z B g.1 (by simpa using G)) kO;rw[aj1]at e;exact⟨_,C,e,o,v,g.1,by rw[g.1],by rw[g.1];simp,rfl,L,z,rfl,⟨rfl,rfl,rfl,rfl,rfl,rfl,rfl,rfl,rfl⟩,rfl⟩
    obtain⟨h,C,e,o,v,O,e2,e3,T,e5,e6,e7,a,a4⟩:=N;have p:aZ h.rp=false:=by rwa[e7]
    have P:fO h=false:=by unfold fO;simp[T]
    by_cases Q:r.A+1=r.s.length
    .rw[J<|by simp[d,Q]];refine .inr ⟨_,rfl,Fin.of e ?_⟩;exact jS (r:={r with A:=r.A+1}) Q o (by rwa[a.I]) (by rwa[P])
    have y:r.A+1<r.s.length:=by omega
    rw[M<|by simp[Q]];by_cases q:r.E (r.A+1)=62
    .rw[J<|by simp[d,q]];have a5:r.s.getD (r.A+1) 0≠13:=by rw[(lT r (r.A+1) 62).1 q];decide
     obtain⟨m2,a9,aa,ab⟩:=kY (r:={r with A:=r.A+1}) (X:=[⟨5,h.B,[],h.i,[]⟩]) y o (Rt.of v) a5 (by show Does _ (nb (r.s.getD (r.A+1) 0)) _ _;rw[fo<|by rw[q];decide,q];exact ahK T e6 p O) (TR<|by intro g;cases g);refine .inl ⟨_,m2,_,rfl,?_,rfl,rfl,ab,aa,⟨a.od,a.oa,a.S,a.on,a.I,a.over,a.m,a.T,a.f⟩,⟨e6,p,rfl,rfl,rfl⟩,by show(if h.I.length=0 then(0:Int)else 1)=_;rw[a.I],a4⟩;have:=e.trans a9;rwa[e5,e2]at this
    rw[M<|by simp[q]];have ad:nb (r.s.getD (r.A+1) 0)≠62:=by
     by_cases g:r.E (r.A+1)=13
     .rw[lF g];decide
     rwa[fo g]
    by_cases A:k.G+k.D.length=r.S
    .rw[J<|by simp[d,A],Ad];refine .inr ⟨_,rfl,Fin.of e ?_⟩;refine f_ (r:={r with A:=r.A+1}) y o (Rt.of v) ?_ (by split<;>decide);by_cases a6:nb (r.s.getD (r.A+1) 0)=63
     .rw[a6];exact ahJ T e6 p O (by rw[e3,a.S,K];omega)
     exact Ct (TQ T e6 p (λg=>aj6 g ad) a6) (by rw[bI,T];rfl) (by rw[e3,a.S,K,O];simp;omega)
    rw[M<|by simp[A],M<|by simpa using A,KG l (by rw[d];decide) (by rw[d];decide) (by rw[d];decide) (by rw[d];decide),J rfl];have q0:k.i++k.D++[r.s.getD r.A 0]=h.i++h.D:=by rw[O,e2,(lT r r.A 63).1 d];rfl
    have F:k.G+k.D.length+1=h.G+h.D.length:=by rw[O,e3];simp
    rw[q0,F];rcases ih {r with A:=r.A+1} h C (.inl T) e6 p (.inr ⟨O,y,q⟩) (by rw[O,e3,a.S];simp;omega) (by rwa[a.S]) e5 (by rwa[a.I]) hw (LC y) (by simp;omega) o (Rt.of v)with⟨u,I,D,F,q2,q3,q4,q5,q6,q7,q8,q9,Cu⟩|⟨u,F,q2⟩
    .exact .inl ⟨u,I,D,F,e.trans q2,q3,q4,q5,q6,a.trans q7,q8,by rw[<-a.I];exact q9,by rw[Cu,a4]⟩
    exact .inr ⟨u,F,Fin.of e q2⟩
   ·
    rw[M<|by simp[d],M<|by simp[d],M<|by simp[d]];have E:nb (r.s.getD r.A 0)≠63:=by
     by_cases g:r.E r.A=13
     .rw[lF g];decide
     rwa[fo g]
    have q:nb (r.s.getD r.A 0)=62->k.D≠[63]:=by
     intro H W;obtain g|g:=hh
     .rw[g]at W;cases W
     by_cases S:r.E r.A=13
     .rw[lF S]at H;cases H
     rw[fo S]at H;exact g.2.2 H
    have a7:Rc {k with H:=11} (nb (r.s.getD r.A 0)) (nb (r.s.getD r.A 0)):=TQ (k:={k with H:=11}) rfl z B q E;by_cases A:k.G+k.D.length=r.S
    .rw[J<|by simpa using A,Ad];exact .inr ⟨_,rfl,f_ l hm hr (a2 _ (Ct a7 rfl<|by show k.S<k.G+(k.D.length+1);omega)) (by split<;>decide)⟩
    rw[M<|by simpa using A];have i:=KE a7 rfl (by show k.G+(k.D.length+1)<=k.S;omega) a0 (by intro g;cases g);have cx:Cx k [] (λ_=>[]) _ _ (nb (r.s.getD r.A 0)) (nb (r.s.getD r.A 0)):=⟨λc G=>hL _ _ (i.one c G),λc n hn G=>hL _ _ (i.more c n hn G),λG=>a2 _ (i.non G),i.on,i.last,i.bad,i.Cr,i.pc1,i.I,i.doc⟩;obtain⟨c,C,j,t,H,W,S,g4,g5,g6,g7,g8⟩|⟨r1,H,g0,W⟩:=Cs cx (.inl rfl) ho hw l hm hr
    .have ht:dB c=t:=by
      obtain g|g:=g8
      .exact g.2
      exfalso;omega
     rw[H];rw[J rfl];simp only[ul,aj1]at S g5;rcases ih {r with A:=r.A+j} {k with H:=11,i:=k.i++k.D++dB c,G:=k.G+k.D.length+1,D:=[],pc:=c,t:=0} C (.inl rfl) rfl B (.inl rfl) (by simp;omega) K L ho hw S.lt (by simp;omega) g4 g5 with⟨u,I,D,F,q2,q3,q4,q5,q6,q7,q8⟩|⟨u,F,q2⟩
     .refine .inl ⟨u,I,D,?_,S.trans q2,q3,q4,q5,q6,⟨q7.od,q7.oa,q7.S,q7.on,q7.I,q7.over,q7.m,q7.T,q7.f⟩,q8⟩;rw[<-ht];simpa using F
     refine .inr ⟨u,?_,Fin.of S q2⟩;rw[<-ht];simpa using F
    rw[H];dsimp only;rw[M];rw[aj1]at W;exact .inr ⟨r1,rfl,by rwa[<-g0]at W⟩
  rw[M l];exact .inr ⟨_,rfl,jS (by omega) hm ho (by rw[a1,hw])⟩
def ahM:∀n,n<256->((((UInt8.ofNat n)|||32)==120)=(((UInt8.ofNat n).toNat:Int)==120||((UInt8.ofNat n).toNat:Int)==88))/\((((UInt8.ofNat n)|||32)==109)=(((UInt8.ofNat n).toNat:Int)==109||((UInt8.ofNat n).toNat:Int)==77))/\((((UInt8.ofNat n)|||32)==108)=(((UInt8.ofNat n).toNat:Int)==108||((UInt8.ofNat n).toNat:Int)==76)):=by decide+kernel
def KH(x:UInt8):(((x|||32)==120)=((x.toNat:Int)==120||(x.toNat:Int)==88))/\(((x|||32)==109)=((x.toNat:Int)==109||(x.toNat:Int)==77))/\(((x|||32)==108)=((x.toNat:Int)==108||(x.toNat:Int)==76)):=by
 have:=ahM x.toNat x.toNat_lt;simpa using this
def TS(l:U):Rf.jg l=Mk.jg l:=by
 match l with
 |[]=>rfl
 |[_]=>rfl
 |[_,_]=>rfl
 |[a,b,c]=>simp only[Rf.jg,Mk.jg];rw[(KH a).1,(KH b).2.1,(KH c).2.2]
 |_::_::_::_::_=>rfl
def vA:∀(l:U),Rf.cW l=Mk.cW l
 |[]=>rfl
 |x::l=>by
  have ih:=vA l;unfold Rf.cW Mk.cW Mk.aj4 at ih⊢;rw[yD,AA];by_cases h:x=58
  .simp[h]
  simp only[bne_iff_ne,ne_eq,h,not_false_eq_true,bY,cT,FW];rw[<-ih];simp[h]
def Fp(h:dP b=true):0<=b/\b<128:=by
 unfold dP Mk.fq at h;simp at h;omega
def wJ(h:eD b=true):0<=b/\b<128:=by
 unfold eD dP Mk.fq tj at h;simp at h;omega
def Af(c:k.H=8)(d:k.t=0)(a:aZ k.rp=false)(b:Int):aP k b=cN k b:=by
 rw[aP,M,a];simp[bU,c]
def Ag(h:bI k=false)(n:Int)(a:k.G+n<=k.S):gb k n=true:=by rw[gb,h];simpa using a
def Cv(h:bI k=false)(n:Int)(a:k.S<k.G+n):gb k n=false:=by rw[gb,h];simpa using a
def TT(j:k.H=8)(f:k.t=0)(h:aZ k.rp=false)(i:eD b=true)(m:k.G≠0\/dP b=true)(n:k.G+1<=k.S):
 Does k b [] {k with i:=k.i++[Mk.u8 b],G:=k.G+1}:=by
 intro L T a r l c e;rw[Af (k:={k with C:=L,F:=T,A:=a,K:=l,aN:=c,O:=r,j:=e}) j f h];have d:bI {k with C:=L,F:=T,A:=a,K:=l,aN:=c,O:=r,j:=e}=false:=by unfold bI;simp[j]
 rw[cN,M (by obtain g|g:=m<;>simp[g]),J i,fS,J (Ag d 1 n),bV,d,uZ (wJ i).1 (wJ i).2];rfl
def ahN(h:k.H=8)(d:k.t=0)(f:aZ k.rp=false)(i:eD b=true)(j:k.G≠0)(m:k.S<k.G+1):fQ k b 7:=by
 intro L T a r l c e;rw[Af (k:={k with C:=L,F:=T,A:=a,K:=l,aN:=c,O:=r,j:=e}) h d f];have g:bI {k with C:=L,F:=T,A:=a,K:=l,aN:=c,O:=r,j:=e}=false:=by unfold bI;simp[h]
 rw[cN,M<|by simp[j],J i];rw[fS,Cv g 1 m];rfl
def ahO(g:k.H=8)(d:k.t=0)(f:aZ k.rp=false)(h:dP b=false)(i:k.G=0):fQ k b 3:=by
 intro L T a r l c e;rw[Af (k:={k with C:=L,F:=T,A:=a,K:=l,aN:=c,O:=r,j:=e}) g d f,cN,J<|by simp[i,h]]
def TU(i:k.H=8)(d:k.t=0)(f:aZ k.rp=false)(j:k.G≠0)(m:eD b=false):
 ((Mk.jg k.i=true\/(b≠63/\Mk.bJ b=false))->fQ k b 3)/\
 (Mk.jg k.i=false->(b=63\/Mk.bJ b=true)->(k.on&&Mk.cW k.i)=true->fQ k b 8)/\
 (Mk.jg k.i=false->(k.on&&Mk.cW k.i)=false->(b=63\/Mk.bJ b=true)->Does k b [] {k with i:=[],G:=0,B:=k.i,H:=if b==63 then 9 else 10}):=by
 refine⟨λh L T a r l c e=>?_,λn o p L T a r l c e=>?_,λn o p L T a r l c e=>?_⟩
 .rw[Af (k:={k with C:=L,F:=T,A:=a,K:=l,aN:=c,O:=r,j:=e}) i d f,cN,M<|by simp[j],M<|by simp[m],J<|by obtain g|g:=h<;>simp[g]]
 .rw[Af (k:={k with C:=L,F:=T,A:=a,K:=l,aN:=c,O:=r,j:=e}) i d f,cN,M<|by simp[j],M<|by simp[m],M (by simp only[n];obtain g|g:=o<;>simp[g]),J p]
 rw[Af (k:={k with C:=L,F:=T,A:=a,K:=l,aN:=c,O:=r,j:=e}) i d f,cN,M<|by simp[j],M<|by simp[m],M (by simp only[n];obtain g|g:=p<;>simp[g]),M<|by show ¬(k.on&&Mk.cW k.i)=true;rw[o];decide];rfl
def ahP(g:k.H=9)(f:k.t=0)(d:aZ k.rp=false):
 Does k 62 [⟨5,k.B,[],k.i,[]⟩] {k with D:=[],i:=[],G:=0,B:=[],H:=if k.I.length=0 then 0 else 1}/\∀b,b≠62->fQ k b 3:=by
 have h:∀(k:Z),k.H=9->k.t=0->aZ k.rp=false->∀b,aP k b=jD k b:=by
  intro k g f d b;rw[aP,M,d];simp[bU,g]
 refine⟨λL T a r l c e=>?_,λb i L T a r l c e=>?_⟩
 .rw[h {k with C:=L,F:=T,A:=a,K:=l,aN:=c,O:=r,j:=e} g f d];unfold jD;simp[kG,Fj,iy,bH]
 rw[h {k with C:=L,F:=T,A:=a,K:=l,aN:=c,O:=r,j:=e} g f d,jD,M<|by simpa using i]
def ahQ(f:k.H=10)(g:k.t=0)(d:aZ k.rp=false)(h:Mk.bJ b=true):Does k b [] k:=by
 intro L T a r l c e;rw[aP,M<|by show ¬0<k.t;omega,d];simp[bU,f,jK,h,bM]
def Ok(r:R)(k m:Z)(x:R×Bool):Prop:=
 (∃a c b,x=(a,true)/\dF r m a c/\a.I=r.I/\a.P=r.P/\c.O=false/\Lk b c/\Sa k b/\Cl b/\b.H=(if k.I.length=0 then 0 else 1)/\b.bG=k.bG)\/(∃a,x=(a,false)/\Fin r m a)
def Ok.of{r a:R}{k k1 m f:Z}{x:R×Bool}(g:dF r m a f)(j:a.I=r.I)(l:a.P=r.P)(i:Sa k k1)(n:k1.bG=k.bG)(h:Ok a k1 f x):Ok r k m x:=by
 obtain⟨b,o,p,c,d,q,s,t,u,v,w,y,e⟩|⟨b,c,d⟩:=h
 .exact .inl ⟨b,o,p,c,g.trans d,q.trans j,s.trans l,t,u,i.trans v,w,by rwa[<-i.I],e.trans n⟩
 exact .inr ⟨b,c,Fin.of g d⟩
def wK:Rf.bJ (nb x)=Rf.bJ (x.toNat:Int):=by
 unfold nb;split
 .rename_i g;rw[g];rfl
 rfl
def Fq:dL (nb x)=dL (x.toNat:Int):=by
 unfold nb;split
 .rename_i g;rw[g];rfl
 rfl
def KJ:Rf.fq (nb x)=Rf.fq (x.toNat:Int):=by
 unfold nb;split
 .rename_i g;rw[g];rfl
 rfl
def lU(h:k.H≠0):fO k=false:=by unfold fO;simp[h]
def sW:Mk.bJ b=true↔b=32\/b=9\/b=10\/b=13:=by unfold Mk.bJ;simp[or_assoc]
def TV(C:k.H=8)(a:Cl k)(D:k.S=r.S)(S:k.on=r.on)(h1:1<=r.S)(P:r.I=k.I)(Q:r.whole=false)(hl:r.A<=r.s.length)(T:Lk k m)(hr:Rt r m):
 Ok r k m (pq r):=by
 unfold pq;by_cases x:r.A<r.s.length
 .rw[J x];by_cases d:Rf.fq (r.E r.A)=true
  .rw[M<|by simp[d]];have W:dP (r.E r.A)=true:=by rwa[<-letter_eq]
   have a0:eD (r.E r.A)=true:=by rw[<-qJ];exact KF d
   have h0:Does k (r.E r.A) [] {k with i:=[Mk.u8 (r.E r.A)],G:=1}:=by
    have:=TT C a.t a.rp a0 (.inr W) (by rw[a.ct];omega);rwa[a.tk,a.ct]at this
   rcases TP (k:=k) x d D h1 h0 (λt n b hn G hc=>TT (k:={k with i:=t,G:=n}) C a.t a.rp (by rwa[<-qJ]) (.inl<|by show n≠0;omega) hc)
    (λt b G=>ahN (k:={k with i:=t,G:=k.S}) C a.t a.rp (by rwa[<-qJ]) (by show k.S≠0;omega) (by show k.S<k.S+1;omega)) T hr P Q (by rw[C];decide)with⟨m1,q,e1,ha1,hr1,hm1,hq,hlt1,hnn,hqo⟩|⟨r', t,e1,hF⟩
   .rw[e1];dsimp only;rw[M];obtain⟨name,E⟩:=akb (seg r r.A (r.A+q));rw[E]at hm1⊢;have a1:∀i,({r with A:=r.A+q}:R).E i=r.E i:=λ_=>rfl;simp only[a1];have H:eD (nb (r.s.getD (r.A+q) 0))=false:=by rw[<-qJ,Fq];exact hnn
    have l:(k.on&&Mk.cW name)=(r.on&&Rf.cW name):=by rw[S,vA]
    obtain⟨E1,E2,E3⟩:=TU (k:={k with i:=name,G:=(q:Int)}) C a.t a.rp (by show(q:Int)≠0;omega) H;have I:Mk.bJ (nb (r.s.getD (r.A+q) 0))=Rf.bJ (r.E (r.A+q)):=wK;have y:nb (r.s.getD (r.A+q) 0)=63↔r.E (r.A+q)=63:=by
     by_cases g:r.E (r.A+q)=13
     .rw[lF g,g];decide
     rw[fo g]
    by_cases z:r.E (r.A+q)=63\/Rf.bJ (r.E (r.A+q))=true
    .rw[M<|by obtain g|g:=z<;>simp[g]];by_cases hx:Rf.jg name=true
     .rw[J hx];exact .inr ⟨_,rfl,Fin.of ha1 (f_ (r:={r with A:=r.A+q}) hlt1 hm1 hr1 (E1 (.inl<|by rwa[<-TS])) (by decide))⟩
     rw[M hx];have F:Mk.jg name=false:=by rw[<-TS];simpa using hx
     have K:nb (r.s.getD (r.A+q) 0)=63\/Mk.bJ (nb (r.s.getD (r.A+q) 0))=true:=by rwa[y,I]
     by_cases A:(r.on&&Rf.cW name)=true
     .rw[J A];exact .inr ⟨_,rfl,Fin.of ha1 (f_ (r:={r with A:=r.A+q}) hlt1 hm1 hr1 (E2 F K<|by show(k.on&&Mk.cW name)=true;rwa[l]) (by decide))⟩
     rw[M A];have hD:=E3 F (by show(k.on&&Mk.cW name)=false;rw[l];simpa using A) K;by_cases c:r.E (r.A+q)=63
     .rw[J<|by simpa using c];have a2:r.s.getD (r.A+q) 0≠13:=by rw[(lT r (r.A+q) 63).1 c];decide
      obtain⟨m2,o,j,B⟩:=kY (r:={r with A:=r.A+q}) (X:=[]) hlt1 hm1 hr1 a2 hD kO;rw[aj1]at o;simp only[(y.2 c)]at j;obtain⟨d9,f9⟩:=ahP (k:={k with i:=[],G:=0,B:=name,H:=9}) rfl a.t a.rp;have u:=ha1.trans o;unfold bW;by_cases e:r.A+q+1<r.s.length
      .dsimp only;rw[J e];by_cases v:r.E (r.A+q+1)=62
       .have w:(({r with A:=r.A+q+1}:R).E (r.A+q+1)==62)=true:=by show(r.E (r.A+q+1)==62)=true;simpa using v
        rw[J w];dsimp only;rw[J rfl];obtain⟨m3,a3,a4,a5⟩:=kY (r:={r with A:=r.A+q+1}) e j (Rt.of B) (by show r.s.getD (r.A+q+1) 0≠13;rw[(lT r (r.A+q+1) 62).1 v];decide) (by show Does _ (nb (r.s.getD (r.A+q+1) 0)) _ _;rwa[fo<|by rw[v];decide,v]) (TR<|by intro g;cases g);exact .inl ⟨_,m3,_,rfl,u.trans a3,rfl,rfl,a5,a4,⟨rfl,rfl,rfl,rfl,rfl,rfl,rfl,rfl,rfl⟩,⟨a.t,a.rp,rfl,rfl,rfl⟩,rfl,rfl⟩
       have w:(({r with A:=r.A+q+1}:R).E (r.A+q+1)==62)=false:=by show(r.E (r.A+q+1)==62)=false;simpa using v
       rw[w];refine .inr ⟨_,rfl,Fin.of u (f_ (r:={r with A:=r.A+q+1}) e j (Rt.of B) (f9 _ ?_) (by decide))⟩;show nb (r.s.getD (r.A+q+1) 0)≠62;by_cases g:r.E (r.A+q+1)=13
       .rw[lF g];decide
       rwa[fo g]
      dsimp only;rw[M e];exact .inr ⟨_,rfl,Fin.of u (jS (r:={r with A:=r.A+q+1}) (by show r.A+q+1=r.s.length;omega) j P (by show r.whole=_;rw[Q];exact(lU<|by intro g;cases g).symm))⟩
     rw[M<|by simpa using c];have ad:nb (r.s.getD (r.A+q) 0)≠63:=λg=>c (y.1 g);have L:Rf.bJ (r.E (r.A+q))=true:=by
      obtain g|g:=z
      .exact aj6 g c
      exact g
     have d0:∀b,b=32\/b=9\/b=10->Does {k with i:=name,G:=(q:Int)} b [] {k with i:=[],G:=0,B:=name,H:=10}:=by
      intro b G;have a6:Mk.bJ b=true:=sW.2 (by omega);have a7:eD b=false:=by obtain rfl|rfl|rfl:=G<;>decide
      have:=(TU (k:={k with i:=name,G:=(q:Int)}) C a.t a.rp (by show(q:Int)≠0;omega) a7).2.2 F (by show(k.on&&Mk.cW name)=false;rw[l];simpa using A) (.inr a6);rwa[show(b==63)=false by obtain rfl|rfl|rfl:=G<;>decide]at this
     have d1:∀b,b=32\/b=9\/b=10->Does {k with i:=[],G:=0,B:=name,H:=10} b [] {k with i:=[],G:=0,B:=name,H:=10}:=λb G=>ahQ (k:={k with i:=[],G:=0,B:=name,H:=10}) rfl a.t a.rp (sW.2<|by omega);obtain⟨m2,o,B,a8,a9⟩:=Ac d0 d1 _ {r with A:=r.A+q} m1 rfl (LC hlt1) hm1 hr1;have N:=oz (p:=Rf.bJ) hlt1;rw[J (show Rf.bJ ((r.s.getD (r.A+q) 0).toNat:Int)=true from L)]at N;have O:r.A+q<(aV {r with A:=r.A+q}).A:=by unfold aV;show r.A+q<r.A+q+_;rw[N];omega
     obtain⟨g,_⟩|⟨_,j⟩:=a8
     .rw[g]at O;exact aj6 O (by simp)
     have aa:(aV {r with A:=r.A+q}).s=r.s:=rfl;have:=ahL name (r.s.length+1) (aV {r with A:=r.A+q}) {k with i:=[],G:=0,B:=name,H:=10} m2 (.inr ⟨rfl,a.hd,λh=>by rw[wK];exact a9 h⟩) a.t a.rp (.inl a.hd) (by show(0:Int)+(k.D.length:Int)<=k.S;rw[a.hd,D];simp;omega) D rfl P Q o.lt (by rw[aa];omega) j B;have e0:(({k with i:=[],G:=0,B:=name,H:=10}:Z).i++({k with i:=[],G:=0,B:=name,H:=10}:Z).D)=[]:=by show[]++k.D=[];rw[a.hd];rfl
     have ab:(({k with i:=[],G:=0,B:=name,H:=10}:Z).G+(({k with i:=[],G:=0,B:=name,H:=10}:Z).D.length:Int))=0:=by show(0:Int)+(k.D.length:Int)=0;rw[a.hd];rfl
     rw[e0,ab]at this;exact Ok.of (k1:={k with i:=[],G:=0,B:=name,H:=10}) (ha1.trans o) rfl rfl ⟨rfl,rfl,rfl,rfl,rfl,rfl,rfl,rfl,rfl⟩ rfl (show Ok _ {k with i:=[],G:=0,B:=name,H:=10} m2 _ from this)
    have f:r.E (r.A+q)≠63/\Rf.bJ (r.E (r.A+q))=false:=⟨λg=>z (.inl g),by simpa using λg=>z (.inr g)⟩;rw[J<|by simp[f.1,f.2]];exact .inr ⟨_,rfl,Fin.of ha1 (f_ (r:={r with A:=r.A+q}) hlt1 hm1 hr1 (E1 (.inr ⟨λg=>f.1 (y.1 g),by rw[I];exact f.2⟩)) (by decide))⟩
   rw[e1];dsimp only;rw[J];exact .inr ⟨_,rfl,hF⟩
  rw[J<|by simpa using d];refine .inr ⟨_,rfl,f_ x T hr (ahO C a.t a.rp ?_ a.ct)⟩;rw[<-letter_eq,KJ];simpa[R.E]using d
 rw[M x];exact .inr ⟨_,rfl,jS (by omega) T P (by rw[Q,lU<|by rw[C];decide])⟩
def TW(j:k.H=4)(d:Cl k)(t:k.S=r.S)(h1:1<=r.S)(y:r.I=k.I)(z:r.whole=false)(hl:r.A<=r.s.length)(A:Lk k m)(N:Rt r m)
 (B:k.I≠[]->r.E r.A≠91):
 Ok r k m (let x:=bW r 45;if x.2 then pQ x.1 else(x.1,false)):=by
 have Fs:∀(k:Z),k.H=4->k.t=0->aZ k.rp=false->∀b,aP k b=gF k b:=by
  intro k j C n b;rw[aP,M,n];simp[bU,j]
 have u:∀(k:Z),k.H=5->k.t=0->aZ k.rp=false->∀b,aP k b=iO k b:=by
  intro k j C n b;rw[aP,M,n];simp[bU,j]
 have d4:Does k 45 [] {k with H:=5}:=by
  intro L T a r l c e;rw[Fs {k with C:=L,F:=T,A:=a,K:=l,aN:=c,O:=r,j:=e} j d.t d.rp];simp[gF,bM]
 have P:∀b,b≠45->(b=91->k.I=[])->fQ k b 3:=by
  intro b f Q L T a r l c e;rw[Fs {k with C:=L,F:=T,A:=a,K:=l,aN:=c,O:=r,j:=e} j d.t d.rp,gF,M<|by simpa using f,M<|by rintro⟨S,W⟩;have:=Q S;simp[this]at W]
 have d5:Does {k with H:=5} 45 [] {k with H:=7}:=by
  intro L T a r l c e;rw[u {k with C:=L,F:=T,A:=a,K:=l,aN:=c,O:=r,j:=e,H:=5} rfl d.t d.rp];simp[iO,bM]
 have f5:∀b,b≠45->fQ {k with H:=5} b 3:=by
  intro b f L T a r l c e;rw[u {k with C:=L,F:=T,A:=a,K:=l,aN:=c,O:=r,j:=e,H:=5} rfl d.t d.rp,iO,M<|by simpa using f]
 have h:(∃v,bW r 45=({r with A:=r.A+1},true)/\dF r m {r with A:=r.A+1} v/\Lk {k with H:=5} v/\v.O=false)\/(∃p,bW r 45=(p,false)/\Fin r m p):=by
  unfold bW;by_cases i:r.A<r.s.length
  .rw[J i];by_cases f:r.E r.A=45
   .rw[J<|by simpa using f];obtain⟨v,O,D,E⟩:=kY (X:=[]) i A N (by rw[(lT r r.A 45).1 f];decide) (by rwa[fo<|by rw[f];decide,f]) kO;rw[aj1]at O;exact .inl ⟨v,rfl,O,D,E⟩
   rw[M<|by simpa using f];refine .inr ⟨_,rfl,f_ i A N (P _ ?_ ?_)⟩
   .by_cases g:r.E r.A=13
    .rw[lF g];decide
    rwa[fo g]
   intro w;by_cases g:r.E r.A=13
   .rw[lF g]at w;cases w
   rw[fo g]at w;by_cases q:k.I=[]
   .exact q
   exact aj6 w (B q)
  rw[M i];exact .inr ⟨_,rfl,jS (by omega) A y (by rw[z,lU<|by rw[j];decide])⟩
 obtain⟨m1,F,o,G,H⟩|⟨p,F,I⟩:=h
 .rw[F];rw[J rfl];unfold pQ;obtain⟨m2,e2,ha2,hm2,hr2⟩|⟨p,e2,I⟩:=TJ (r:={r with A:=r.A+1}) (by decide) (by decide) d5 f5 (by have:=o.lt;exact this) G (Rt.of H) y z (lU<|by intro g;cases g)
  .rw[e2];rw[J rfl];have:=ahE (r.s.length+1) {r with A:=r.A+1+1} {k with H:=7} m2 rfl d.t d.rp (.inl d.hd) (by show k.G+(k.D.length:Int)<=k.S;rw[d.hd,d.ct,t];simp;omega) t y z ha2.lt (by show r.s.length<r.A+1+1+(r.s.length+1);omega) hm2 (Rt.of hr2);have e0:(({k with H:=7}:Z).i++({k with H:=7}:Z).D)=[]:=by rw[d.hd,d.tk];rfl
   have K:(({k with H:=7}:Z).G+(({k with H:=7}:Z).D.length:Int))=0:=by show k.G+(k.D.length:Int)=0;rw[d.hd,d.ct];rfl
   rw[e0,K]at this;exact Ok.of (k1:={k with H:=7}) (o.trans ha2) rfl rfl ⟨rfl,rfl,rfl,rfl,rfl,rfl,rfl,rfl,rfl⟩ rfl this
  rw[e2];exact .inr ⟨p,rfl,Fin.of o I⟩
 rw[F];exact .inr ⟨p,rfl,I⟩
def KL(c:k.H=0)(d:k.t=0)(a:aZ k.rp=false)(b:Int):aP k b=h_ k b:=by
 rw[aP,M,a];simp[c]
def yp(c:k.H=3)(d:k.t=0)(a:aZ k.rp=false)(b:Int):aP k b=eG k b:=by
 rw[aP,M,a];simp[bU,c]
def ahR(f:k.H=0)(d:Cl k)(g:Mk.bJ b=true):Does k b [] k:=by
 intro L T a r l c e;rw[KL (k:={k with C:=L,F:=T,A:=a,K:=l,aN:=c,O:=r,j:=e}) f d.t d.rp];simp[h_,g,bM]
def KM(d:k.H=0)(b:Cl k):Does k 60 [] {k with H:=3}:=by
 intro L T a r l c e;rw[KL (k:={k with C:=L,F:=T,A:=a,K:=l,aN:=c,O:=r,j:=e}) d b.t b.rp];simp[h_,bM,Mk.bJ]
def ahS(f:k.H=0)(d:Cl k)(g:Mk.bJ b=false)(h:b≠60):fQ k b 3:=by
 intro L T a r l c e;rw[KL (k:={k with C:=L,F:=T,A:=a,K:=l,aN:=c,O:=r,j:=e}) f d.t d.rp];simp[h_,g,h]
def KN(d:k.H=3)(b:Cl k):Does k 33 [] {k with H:=4}/\Does k 63 [] {k with H:=8}:=by
 constructor
 .intro L T a r l c e;rw[yp (k:={k with C:=L,F:=T,A:=a,K:=l,aN:=c,O:=r,j:=e}) d b.t b.rp];simp[eG,bM]
 intro L T a r l c e;rw[yp (k:={k with C:=L,F:=T,A:=a,K:=l,aN:=c,O:=r,j:=e}) d b.t b.rp];simp[eG,bM]
def Cl.st(h:Cl k)(n:Int):Cl {k with H:=n}:=⟨h.t,h.rp,h.tk,h.ct,h.hd⟩
def Sa.st(k:Z)(n:Int):Sa k {k with H:=n}:=⟨rfl,rfl,rfl,rfl,rfl,rfl,rfl,rfl,rfl⟩
def wL{b:Z}{c:Nat}{X:List Ev}(e:r.A<r.s.length)(f:Lk k m)(h:Rt r m)(l:c<256)(i:c≠13)(d:r.E r.A=(c:Int))(hd:Does k (c:Int) X b)(j:Pc X):
 ∃a,dF r m {r with A:=r.A+1,y:=r.y++X} a/\Lk b a/\a.O=false:=by
 refine kY e f h ?_ (by rwa[fo<|by rw[d];omega,d]) j;intro g;have:=(lT r r.A 13).2 g;omega
def nM{d:Z}(c:Nat)(f:r.A<r.s.length)(g:Lk k m)(i:Rt r m)(j:c<256)(b:c≠13)(l:r.E r.A=(c:Int))(hd:Does k (c:Int) [] d):
 ∃a,dF r m {r with A:=r.A+1} a/\Lk d a/\a.O=false:=by
 obtain⟨a,e,h⟩:=wL f g i j b l hd kO;rw[aj1]at e;exact⟨a,e,h⟩
def Cw(r:R):R×Bool:=if r.E (r.A+1)==63 then pq {r with A:=r.A+2}else(let m:=bW {r with A:=r.A+2} 45;if m.2 then pQ m.1 else(m.1,false))
def Ft(a:Bool)(f:Nat)(r:R):R×Bool:=
 if r.A<r.s.length then
  if r.E r.A !=60 then(Rf.eZ r 3,false)
  else if r.A+1=r.s.length then({r with stop:=1},false)
  else
   if r.E (r.A+1) !=33&&r.E (r.A+1) !=63 then(r,true)
   else
    if(Cw r).2 then jc a f (Cw r).1 else((Cw r).1,false)
 else({r with stop:=1},false)
def ahT{a:Bool}{f:Nat}(h:¬r.A<r.s.length):Ft a f r=({r with stop:=1},false):=by rw[Ft,M h]
theorem ahU(a:Bool)(f:Nat)(r:R):jc a (f+1) r=Ft a f {aV r with whole:=a&&decide ((aV r).A=r.s.length)}:=rfl
def TX(a:Bool):∀(f:Nat) (r:R) (k m:Z),k.H=0->Cl k->k.I=[]->k.over=a->k.S=r.S->k.on=r.on->1<=r.S->r.I=[]->r.whole=false->r.A<=r.s.length->r.s.length<r.A+f->Lk k m->Rt r m->
 (∃d u l,jc a f r=(d,true)/\dF r m d u/\d.I=[]/\d.P=r.P/\Rt d u/\Lk l u/\Sa k l/\Cl l/\l.H=0/\d.whole=false/\d.A+1<r.s.length/\d.E d.A=60/\d.E (d.A+1)≠33/\d.E (d.A+1)≠63/\l.bG=k.bG)
 \/(∃d,jc a f r=(d,false)/\Fin r m d):=by
 intro f;induction f with
 |zero=>intro r k m _ _ _ _ _ _ _ _ _ _ hf;omega
 |succ f ih=>
  intro r k m N i j O H P h1 ho hw hl hf hm hr;have dS:∀b,b=32\/b=9\/b=10->Does k b [] k:=λb hb=>ahR N i (sW.2<|by omega);obtain⟨Q,v,S,T,W⟩:=Ac dS dS _ r m rfl hl hm hr;have w:Lk k Q:=by
   obtain⟨_,_,g⟩|⟨_,g⟩:=T
   .exact g
   exact g
  rw[ahU];by_cases X:(aV r).A<r.s.length
  .have a0:(a&&decide ((aV r).A=r.s.length))=false:=by
    rw[pV<|by omega,kx]
   have a1:({aV r with whole:=a&&decide ((aV r).A=r.s.length)}:R)=aV r:=by
    rw[a0];unfold aV;simp only[hw]
   rw[a1];have D:=W X;have p:(aV r).s=r.s:=rfl;have y:(aV r).I=[]:=ho;have aa:(aV r).P=r.P:=rfl;have z:(aV r).whole=false:=hw;have n:(aV r).S=r.S:=rfl;have a2:(aV r).on=r.on:=rfl;have ak:Rf.bJ ((aV r).E (aV r).A)=false:=D;have ha:=v;have I:=S;clear a1 a0 W D T v S;generalize aV r=e at *;rw[Ft,J<|by rwa[p]];by_cases A:e.E e.A=60
   .rw[M<|by simp[A]];have a3:e.A<e.s.length:=by rwa[p]
    obtain⟨m2,a4,a5,ab⟩:=nM 60 a3 w I (by decide) (by decide) A (KM N i);by_cases E:e.A+1=e.s.length
    .rw[J E];refine .inr ⟨_,rfl,Fin.of (ha.trans a4) ?_⟩;have:=jS (r:={e with A:=e.A+1}) E a5 (by rw[y,j]) (by rw[z];exact(lU<|by intro g;cases g).symm);obtain⟨g1,g2,kk,g3,g4,g5,g6⟩|⟨g,_⟩:=this
     .exact .inl ⟨rfl,g2,kk,g3,g4,g5,g6⟩
     cases g
    rw[M E];have a6:e.A+1<e.s.length:=by omega
    by_cases hc:e.E (e.A+1)=33\/e.E (e.A+1)=63
    .rw[M<|by obtain g|g:=hc<;>simp[g]];have F:=i.st 3;have a7:∀(st:Int) (c:Nat),c<256->c≠13->e.E (e.A+1)=(c:Int)->Does {k with H:=3} (c:Int) [] {k with H:=st}->∀x,(∀B,dF r m {e with A:=e.A+2} B->Lk {k with H:=st} B->B.O=false->Ok {e with A:=e.A+2} {k with H:=st} B x)->
      (∃d u l,(if x.2 then jc a f x.1 else(x.1,false))=(d,true)/\dF r m d u/\d.I=[]/\d.P=r.P/\Rt d u/\Lk l u/\Sa k l/\Cl l/\l.H=0/\d.whole=false/\d.A+1<r.s.length/\d.E d.A=60/\d.E (d.A+1)≠33/\d.E (d.A+1)≠63/\l.bG=k.bG)\/(∃d,(if x.2 then jc a f x.1 else(x.1,false))=(d,false)/\Fin r m d):=by
      intro st c ad ae af hd x hx;obtain⟨B,ag,ah,ai⟩:=nM (r:={e with A:=e.A+1}) c a6 a5 (Rt.of ab) ad ae af hd;have q:dF r m {e with A:=e.A+2} B:=(ha.trans a4).trans ag;obtain⟨d,u,l,K,G,q3,q4,q5,q6,q7,q8,q9,aj⟩|⟨d,K,G⟩:=hx B q ah ai
      .rw[K];rw[J rfl];have h:=q.trans G;have t:=(Sa.st k st).trans q7;have a8:l.H=0:=by rw[q9];show(if k.I.length=0 then(0:Int)else 1)=0;rw[j];rfl
       obtain⟨r2,m4,k4,p1,p2,p3,p4,p5,p6,p7,p8,p9,wM,KO,TY,T_,p14,p15⟩|⟨r2,p1,p2⟩:=ih d l u a8 q8 (by rw[t.I,j]) (by rw[t.over,O]) (by rw[t.S,h.o.2.2.1,H]) (by rw[t.on,h.o.2.2.2.1,P]) (by rwa[h.o.2.2.1]) (by rwa[q3]) (h.wh hw) (by rw[h.s];exact h.lt) (by rw[h.s];have:=G.le;simp at this;have:=ha.le;omega) q6 (Rt.of q5)
       .exact .inl ⟨r2,m4,k4,p1,h.trans p2,p3,by rwa[p4,q4],p5,p6,t.trans p7,p8,p9,wM,by rw[h.s]at KO;exact KO,TY,T_,p14,p15.trans aj⟩
       exact .inr ⟨r2,p1,Fin.of h p2⟩
      rw[K];exact .inr ⟨d,rfl,Fin.of q G⟩
     by_cases L:e.E (e.A+1)=33
     .refine a7 4 33 (by decide) (by decide) L (KN (k:={k with H:=3}) rfl F).1 _ λB K G q3=>?_;rw[Cw,M<|by simp[L]];exact TW rfl (i.st 4) (by rw[n,H]) (by rwa[n]) (by rw[y,j]) z (by have:=K.lt;rwa[<-p]at this) G (Rt.of q3) λg=>aj6 j g
     have a9:e.E (e.A+1)=63:=by obtain g|g:=hc;exact aj6 g L;exact g
     refine a7 8 63 (by decide) (by decide) a9 (KN (k:={k with H:=3}) rfl F).2 _ λB K G q3=>?_;rw[Cw,J<|by simp[a9]];exact TV rfl (i.st 8) (by rw[n,H]) (by rw[a2,P]) (by rwa[n]) (by rw[y,j]) z (by have:=K.lt;rwa[<-p]at this) G (Rt.of q3)
    have C:e.E (e.A+1)≠33/\e.E (e.A+1)≠63:=⟨λg=>hc (.inl g),λg=>hc (.inr g)⟩;rw[J<|by simp[C.1,C.2]];exact .inl ⟨e,Q,k,rfl,ha,y,aa,I,w,Sa.refl k,i,N,z,by rwa[<-p],A,C.1,C.2,rfl⟩
   rw[J<|by simpa using A];refine .inr ⟨_,rfl,Fin.of ha (f_ (by rwa[p]) w I (ahS N i ?_ ?_))⟩
   .rwa[<-Ae,wK]
   by_cases g:e.E e.A=13
   .rw[lF g];decide
   rwa[fo g]
  rw[ahT (r:={aV r with whole:=a&&decide ((aV r).A=r.s.length)}) X];have E:(aV r).A=r.s.length:=by have:=v.lt;omega
  refine .inr ⟨_,rfl,Fin.of v (.inl ⟨rfl,rfl,k,?_,?_,?_,?_,?_⟩)⟩
  .rw[E];show Lk k (Mk.aQ Q (r.s.drop r.s.length));simp;exact w
  .rw[E];show _=_++tE Q (r.s.drop r.s.length);simp[tE]
  .show r.I=k.I;rw[ho,j]
  .show(a&&decide ((aV r).A=r.s.length))=_;rw[nR E,qN];rw[fO,O,N];simp
  rw[E];show Un Q (r.s.drop r.s.length);rw[Dc];exact Un.nil _
def Cy(T:List (U×Int)):List U:=T.map λx=>x.1++[Mk.u8 x.2]
def ahV:ow=Cy fG:=by decide
def KP:∀(a n:U),a.isPrefixOf n=true↔a.length<=n.length/\n.take a.length=a
 |[],n=>by simp
 |x::g,[]=>by simp
 |x::g,y::n=>by
  have:=KP g n;simp only[List.isPrefixOf,nQ,ajP,cT,oq,List.cons.injEq];rw[this];constructor
  .rintro⟨rfl,c,b⟩;exact⟨by omega,rfl,b⟩
  rintro⟨c,rfl,b⟩;exact⟨rfl,by omega,b⟩
def Ua(a:U):∀(T:List (U×Int)) (b:Bool),(∀x∈T,x.1≠a)->
 kJ a (Cy T) b=(none,b||T.any λx=>a.isPrefixOf x.1)/\(jI a T=if T.any λx=>a.isPrefixOf x.1 then some ⟨2,a,0⟩else none)
 |[],b,_=>by simp[Cy,kJ,jI]
 |(n,c)::T,b,h=>by
  have i:n≠a:=h (n,c) (by simp);have ih:=λb=>Ua a T b λx hx=>h x (by simp[hx]);have j:=KP a n;have e:Cy ((n,c)::T)=(n++[Mk.u8 c])::Cy T:=rfl;rw[e];unfold kJ jI;rw[M i];by_cases g:a.isPrefixOf n=true
  .have f:=j.1 g;have k:a.length≠n.length:=by
    intro q;apply i;have:=f.2;rwa[q,tv]at this
   have d:(decide ((n++[Mk.u8 c]).length<=a.length)||decide ((n++[Mk.u8 c]).take a.length≠a))=false:=by
    rw[CX f.1,f.2];simp;omega
   rw[d,M,M<|by simp;omega,(ih true).1,J g];simp[g]
  have d:(decide ((n++[Mk.u8 c]).length<=a.length)||decide ((n++[Mk.u8 c]).take a.length≠a))=true:=by
   by_cases l:a.length<=n.length
   .rw[CX l];have:n.take a.length≠a:=λq=>g (j.2 ⟨l,q⟩);simp[this]
   simp;left;omega
  rw[d,J rfl,(ih b).1,M g,(ih b).2];simp only[yD,(Bool.eq_false_iff.2 g),ku,wP]
def Ub(a:U):
 (∃c,kJ a ow false=(some (dB c),(kJ a ow false).2)/\jI a fG=some ⟨7,[],c⟩/\0<=c/\eX c=true)\/
 (kJ a ow false=(none,true)/\jI a fG=some ⟨2,a,0⟩)\/(kJ a ow false=(none,false)/\jI a fG=none):=by
 by_cases h:∀x∈fG,x.1≠a
 .obtain⟨b,d⟩:=Ua a fG false h;rw[ahV,b,d];cases fG.any λx=>a.isPrefixOf x.1
  .exact .inr (.inr ⟨rfl,rfl⟩)
  exact .inr (.inl ⟨rfl,rfl⟩)
 left;have:∃x,x∈fG/\x.1=a:=by
  by_cases q:∃x,x∈fG/\x.1=a
  .exact q
  exact aj6 (λx hx e=>q ⟨x,hx,e⟩) h
 obtain⟨x,hx,rfl⟩:=this;simp only[fG,oN,qm,uD]at hx;obtain rfl|rfl|rfl|rfl|rfl:=hx
 .exact⟨60,by decide,by simp[jI,fG],by decide,by decide⟩
 .exact⟨62,by decide,by simp[jI,fG],by decide,by decide⟩
 .exact⟨38,by decide,by simp[jI,fG],by decide,by decide⟩
 .exact⟨34,by decide,by simp[jI,fG],by decide,by decide⟩
 exact⟨39,by decide,by simp[jI,fG],by decide,by decide⟩
def digit_eq(c a:Int)(f:a=10\/a=16):(ni c a= -1/\nN c a=none)\/(0<=ni c a/\nN c a=some (ni c a)):=by
 unfold ni nN Ap tj;by_cases g:48<=c/\c<=57
 .simp only[g,ajO,AO,bY];obtain rfl|rfl:=f
  .right;rw[J,M];exact⟨by omega,rfl⟩
  right;rw[J,M];exact⟨by omega,rfl⟩
 have e:(decide (48<=c)&&decide (c<=57))=false:=by simpa using g
 simp only[e];obtain rfl|rfl:=f
 .left;simp;split
  .omega
  split
  .omega
  omega
 by_cases h:65<=c/\c<=70
 .right;have b:(decide (97<=c)&&decide (c<=102))=false:=by simp;omega
  have d:(decide (65<=c)&&decide (c<=70))=true:=by simp;omega
  simp[b,d];omega
 have d:(decide (65<=c)&&decide (c<=70))=false:=by simpa using h
 by_cases i:97<=c/\c<=102
 .right;have b:(decide (97<=c)&&decide (c<=102))=true:=by simp;omega
  simp[b,d];omega
 left;have b:(decide (97<=c)&&decide (c<=102))=false:=by simpa using i
 simp[b,d]
def ahW(n:Int):uK n=dB n:=by
 unfold uK dB Mk.jf;split
 .rfl
 split
 .simp only[lf,qO,Mk.u8];rw[Int.add_comm]
 split
 .simp only[lf,qO,Mk.u8];rw[Int.add_comm]
 simp only[lf,qO,Mk.u8];rw[Int.add_comm]
def iY(k:Z)(p:Int)(n:U)(c:Int):Z:={k with rp:=p,rn:=n,rc:=c}
structure Rx(k:Z)(X1:Int->List Ev)(F:Int->Z):Prop where
 on:∀p n c b p' n' c', aZ p=true->dJ ⟨p,n,c⟩ b=some ⟨p', n', c'⟩->aZ p' =true->Does (iY k p n c) b [] (iY k p' n' c')
 last:∀p n c b c', aZ p=true->dJ ⟨p,n,c⟩ b=some ⟨7,[],c'⟩->Does (iY k p n c) b (X1 c') (F c')
 bad:∀p n c b,aZ p=true->dJ ⟨p,n,c⟩ b=none->fQ (iY k p n c) b 4
 pc1:∀c,eX c=true->0<=c->Pc (X1 c)
 doc:fO k=false
def Ah(c:k.t=0)(a:aZ k.rp=true)(b:Int):aP k b=fD k b:=by
 rw[aP,M,J a]
def ahX(d:k.t=0)(o:bI k=true)(j:k.H≠0):Rx k (λc=>[gu (dB c)]) (λc=>iY k 7 [] c):=by
 have f:=o;unfold bI at f;refine⟨λp n c b u v q g h m L T a r l i e=>?_,λp n c b q g h L T a r l i e=>?_,λp n c b g h L T a r l i e=>?_,λc s t=>KD (KC s t),lU j⟩
 .rw[Ah (k:={iY k p n c with C:=L,F:=T,A:=a,K:=l,aN:=i,O:=r,j:=e}) d g];unfold fD;simp only[iY]at *;rw[h];simp[m,kZ,bM]
 .rw[Ah (k:={iY k p n c with C:=L,F:=T,A:=a,K:=l,aN:=i,O:=r,j:=e}) d g];unfold fD;simp only[iY]at *;rw[h,Fh];simp[aZ,kZ,bV,bI,f]
 rw[Ah (k:={iY k p n c with C:=L,F:=T,A:=a,K:=l,aN:=i,O:=r,j:=e}) d g];unfold fD;simp only[iY]at *;rw[h]
def ahY(d:k.t=0)(o:bI k=false)(j:k.H≠0):Rx k (λ_=>[]) (λc=>{iY k 7 [] c with i:=k.i++dB c,G:=k.G+1}):=by
 have f:=o;unfold bI at f;refine⟨λp n c b s t q g h m L T a r l i e=>?_,λp n c b q g h L T a r l i e=>?_,λp n c b g h L T a r l i e=>?_,λ_ _ _=>kO,lU j⟩
 .rw[Ah (k:={iY k p n c with C:=L,F:=T,A:=a,K:=l,aN:=i,O:=r,j:=e}) d g];unfold fD;simp only[iY]at *;rw[h];simp[m,kZ,bM]
 .rw[Ah (k:={iY k p n c with C:=L,F:=T,A:=a,K:=l,aN:=i,O:=r,j:=e}) d g];unfold fD;simp only[iY]at *;rw[h];simp[aZ,kZ,bV,bI,f,bM]
 rw[Ah (k:={iY k p n c with C:=L,F:=T,A:=a,K:=l,aN:=i,O:=r,j:=e}) d g];unfold fD;simp only[iY]at *;rw[h]
def rV(r:R)(m:Z)(e:Int->List Ev)(F:Int->Z)(x:R×U×Bool):Prop:=
 (∃c b a,x=({r with A:=a},dB c,true)/\r.A<a/\dF r m {r with A:=a,y:=r.y++e c} b/\Lk (F c) b/\b.O=false/\eX c=true/\0<=c)
 \/(∃d,x=(d,[],false)/\Fin r m d)
def rV.of{r b:R}{m f:Z}{g:Int->List Ev}{F:Int->Z}{x:R×U×Bool}(d:dF r m b f)(i:b={r with A:=b.A})(h:rV b f g F x):rV r m g F x:=by
 obtain⟨c,k,a,e,j,l,n⟩|⟨o,e,j⟩:=h
 .have:=d.le;refine .inl ⟨c,k,a,by rw[e,i],by omega,?_,n⟩;have p:=d.trans l;rwa[i]at p
 exact .inr ⟨o,e,Fin.of d j⟩
def Uc{S:Int->List Ev}(u:Rx k S F){base:Int}{pz p1:Int}(v:(base=10/\pz=3/\p1=5)\/(base=16/\pz=4/\p1=6))(first:Nat):
 ∀(f:Nat) (r:R) (m:Z) (n:Int),0<=n->first<=r.A->(r.A=first->n=0)->(base=10->r.A=first->r.A<r.s.length->r.E r.A≠120)->Lk (iY k (if r.A=first then pz else p1) [] n) m->Rt r m->r.I=k.I->r.whole=false->r.A<=r.s.length->r.s.length<r.A+f->
  rV r m S F (mV base first f r n):=by
 intro f;induction f with
 |zero=>intro r m n _ _ _ _ _ _ _ _ _ hf;omega
 |succ f ih=>
  intro r m n G a0 hz hx w B T W hl hf;unfold mV;by_cases d:r.A<r.s.length
  .rw[J d];obtain⟨b,a⟩:=akb (nb (r.s.getD r.A 0));have i:aZ (if r.A=first then pz else p1)=true:=by
    obtain⟨_,rfl,rfl⟩|⟨_,rfl,rfl⟩:=v<;>split<;>decide
   have e:base=10\/base=16:=by obtain g|g:=v;exact .inl g.1;exact .inr g.1
   have D:∀c:Int,c≠59->(base=10->r.A=first->c≠120)->dJ ⟨if r.A=first then pz else p1,[],n⟩ c=iN n c base p1:=by
    intro c x K;obtain⟨rfl,rfl,rfl⟩|⟨rfl,rfl,rfl⟩:=v
    .by_cases g:r.A=first
     .simp[g,dJ,K rfl g]
     simp[g,dJ,jl,x]
    by_cases g:r.A=first
    .simp[g,dJ]
    simp[g,dJ,jl,x]
   by_cases j:r.E r.A=59
   .rw[J<|by simpa using j];have l:b=59:=by rw[<-a,fo<|by rw[j];decide,j]
    by_cases x:r.A=first\/nY n n=false
    .rw[J<|by obtain g|g:=x<;>simp[g]];refine .inr ⟨_,rfl,f_ d w B ?_⟩;rw[a,l];refine u.bad _ _ _ _ i ?_;by_cases g:r.A=first
     .rw[J g];obtain⟨rfl,rfl,rfl⟩|⟨rfl,rfl,rfl⟩:=v
      .simp[dJ,iN,nN,Ap,tj]
      simp[dJ,iN,nN,Ap,tj]
     have H:eX n=false:=by
      rw[<-Ku n G];obtain q|q:=x;exact aj6 q g;exact q
     rw[M g];obtain⟨rfl,rfl,rfl⟩|⟨rfl,rfl,rfl⟩:=v
     .simp[dJ,jl,H]
     simp[dJ,jl,H]
    have g:r.A≠first:=λq=>x (.inl q)
    have H:nY n n=true:=by
     cases q:nY n n
     .exact aj6 (.inr q) x
     rfl
    rw[M<|by simp[g,H],ahW];have p:eX n=true:=by rwa[<-Ku n G]
    have hd:=u.last (if r.A=first then pz else p1) [] n 59 n i (by
     rw[M g]
     obtain⟨rfl,rfl,rfl⟩|⟨rfl,rfl,rfl⟩:=v
     .simp[dJ,jl,p]
     simp[dJ,jl,p])
    obtain⟨m', ha,L,N⟩:=wL (c:=59) d w B (by decide) (by decide) j hd (u.pc1 n p G);exact .inl ⟨n,m', r.A+1,rfl,by omega,ha,L,N,p,G⟩
   rw[M<|by simpa using j];have l:b≠59:=by
    rw[<-a];by_cases g:r.E r.A=13
    .rw[lF g];decide
    rwa[fo g]
   have y:base=10->r.A=first->b≠120:=by
    intro I C;rw[<-a];by_cases g:r.E r.A=13
    .rw[lF g];decide
    rw[fo g];exact hx I C d
   have t:=D b l y;have z:r.E r.A=13->nN 10 base=none:=by
    intro _;obtain rfl|rfl:=e<;>decide
   by_cases o:r.E r.A=13
   .have O:ni (r.E r.A) base= -1:=by rw[o];obtain rfl|rfl:=e<;>decide
    rw[J<|by simp[O]];refine .inr ⟨_,rfl,f_ d w B ?_⟩;rw[a];refine u.bad _ _ _ _ i ?_;rw[t,<-a,lF o];rw[iN,z o]
   have A:b=r.E r.A:=by rw[<-a];exact fo o
   obtain⟨I,C⟩|⟨I,C⟩:=digit_eq (r.E r.A) base e
   .rw[J<|by simp[I]];refine .inr ⟨_,rfl,f_ d w B ?_⟩;rw[a];refine u.bad _ _ _ _ i ?_;rw[t,A];rw[iN,C]
   by_cases h:1114111<n*base+ni (r.E r.A) base
   .rw[J<|by simp[h]];refine .inr ⟨_,rfl,f_ d w B ?_⟩;rw[a];refine u.bad _ _ _ _ i ?_;rw[t,A];rw[iN,C];simp[h]
   rw[M<|by simp[h];omega];obtain⟨m1,E,a1,P⟩:=kY (X:=[]) d w B (λg=>o ((lT r r.A 13).2 g)) (by rw[a];exact(u.on (if r.A=first then pz else p1) [] n b p1 [] (n*base+ni (r.E r.A) base) i (by rw[t,A];rw[iN,C];simp[h]) (by obtain⟨_,_,rfl⟩|⟨_,_,rfl⟩:=v<;>decide))) kO;rw[aj1]at E;have Q:0<=n*base+ni (r.E r.A) base:=by
    have:0<=n*base:=by obtain rfl|rfl:=e<;>omega
    omega
   refine rV.of E rfl (ih {r with A:=r.A+1} m1 _ Q (by simp;omega) (λg=>by simp at g;omega) (λ_ g=>by simp at g;omega) ?_ (Rt.of P) T W (by simp;omega) (by simp;omega));show Lk (iY k (if r.A+1=first then pz else p1) [] _) m1;rwa[M]
  rw[M d];refine .inr ⟨_,rfl,jS (by omega) w T (by rw[W];exact u.doc.symm)⟩
def KQ(a:U):∀(T:List (U×Int)) (z:Mk.Rf),jI a T=some z->∃y∈T,∀x∈a,x∈y.1
 |[],z,h=>by simp[jI]at h
 |(n,c)::T,z,h=>by
  unfold jI at h;split at h
  .rename_i g;exact⟨(n,c),by simp,λx hx=>by rwa[g]⟩
  split at h
  .rename_i g;exact⟨(n,c),by simp,λx hx=>tG<|by rwa[((KP a n).1 g).2]⟩
  obtain⟨y,b,d⟩:=KQ a T z h;exact⟨y,by simp[b],d⟩
def Ud(n:U)(x:UInt8)(hx:x=10\/x=13):jI (n++[x]) fG=none:=by
 cases h:jI (n++[x]) fG with
 |none=>rfl
 |some z=>
  exfalso;obtain⟨y,a,b⟩:=KQ _ _ z h;have:=b x (by simp);simp only[fG,oN,qm,uD]at a;obtain rfl|rfl:=hx<;>obtain rfl|rfl|rfl|rfl|rfl:=a<;>simp at this
def ahZ{j:Int->List Ev}(d:Rx k j F)(f:r.A<r.s.length)(o:r.E r.A=35)(p:Lk (iY k 1 [] 0) m)(t:Rt r m)(l:r.I=k.I)(n:r.whole=false):
 rV r m j F (rX r):=by
 obtain⟨u,a,h,b⟩:=nM 35 f p t (by decide) (by decide) o (d.on 1 [] 0 35 3 [] 0 (by decide) (by simp[dJ]) (by decide));unfold rX;dsimp only;by_cases hx:r.A+1<r.s.length/\r.E (r.A+1)=120
 .have e:(decide (r.A+1<r.s.length)&&({r with A:=r.A+1}:R).E (r.A+1)==120)=true:=by
   show(decide (r.A+1<r.s.length)&&r.E (r.A+1)==120)=true;simp[hx.1,hx.2]
  rw[J e];obtain⟨v,c,w,i⟩:=nM (r:={r with A:=r.A+1}) 120 hx.1 h (Rt.of b) (by decide) (by decide) hx.2 (d.on 3 [] 0 120 4 [] 0 (by decide) (by simp[dJ]) (by decide));refine rV.of (a.trans c) rfl (Uc d (base:=16) (pz:=4) (p1:=6) (.inr ⟨rfl,rfl,rfl⟩) (r.A+1+1) (r.s.length+1) {r with A:=r.A+1+1} v 0 (by decide) (a_ _) (λ_=>rfl) (λg=>by cases g) ?_ (Rt.of i) l n (by have:=c.lt;exact this) (by show r.s.length<r.A+1+1+(r.s.length+1);omega));rwa[J rfl]
 have e:(decide (r.A+1<r.s.length)&&({r with A:=r.A+1}:R).E (r.A+1)==120)=false:=by
  rw[wU];intro g;simp at g;exact hx g
 rw[e,M];refine rV.of a rfl (Uc d (base:=10) (pz:=3) (p1:=5) (.inl ⟨rfl,rfl,rfl⟩) (r.A+1) (r.s.length+1) {r with A:=r.A+1} u 0 (by decide) (a_ _) (λ_=>rfl) (λ_ _ g q=>hx ⟨g,q⟩) ?_ (Rt.of b) l n (by have:=a.lt;exact this) (by show r.s.length<r.A+1+(r.s.length+1);omega));rwa[J rfl]
def ah0{H:Int->List Ev}(u:Rx k H F)(d:Nat):
 ∀(f:Nat) (r:R) (m:Z),d<=r.A->Lk (iY k (if r.A=d then 1 else 2) (seg r d r.A) 0) m->Rt r m->r.I=k.I->r.whole=false->r.A<=r.s.length->r.s.length<r.A+f->rV r m H F (kK d f r):=by
 intro f;induction f with
 |zero=>intro r m _ _ _ _ _ _ P;omega
 |succ f ih=>
  intro r m A v x B C hl P;unfold kK;by_cases h:r.A<r.s.length
  .rw[J h];by_cases i:r.A=d/\r.E r.A=35
   .rw[J<|by rw[nR i.1];simp[i.2]];rw[J i.1,i.1,uk]at v;exact ahZ u h i.2 v x B C
   have e:(decide (r.A=d)&&r.E r.A==35)=false:=by rw[wU];intro g;simp at g;exact i g
   rw[e,M];have t:(r.s.drop d).take (r.A+1 - d)=seg r d r.A++[r.s.getD r.A 0]:=by
    have:=rU r (a:=d) (b:=r.A) (c:=r.A+1) A (by omega);rw[iS r h]at this;rw[<-this];rfl
   rw[t];have p:aZ (if r.A=d then 1 else 2)=true:=by split<;>decide
   obtain⟨b,j⟩:=akb (nb (r.s.getD r.A 0));have l:dJ ⟨if r.A=d then 1 else 2,seg r d r.A,0⟩ b=jI (seg r d r.A++[Mk.u8 b]) fG:=by
    by_cases g:r.A=d
    .have y:b≠35:=by
      rw[<-j];by_cases I:r.E r.A=13
      .rw[lF I];decide
      rw[fo I];exact λq=>i ⟨g,q⟩
     simp[g,dJ,y,pP]
    simp[g,dJ,pP]
   by_cases n:r.s.getD r.A 0=13
   .have K:jI (seg r d r.A++[r.s.getD r.A 0]) fG=none:=Ud _ _ (.inr n);obtain⟨c,_,o,_⟩|⟨_,o⟩|⟨w,_⟩:=Ub (seg r d r.A++[r.s.getD r.A 0])
    .rw[K]at o;cases o
    .rw[K]at o;cases o
    rw[w];refine .inr ⟨_,rfl,f_ h v x ?_⟩;rw[j];refine u.bad _ _ _ _ p ?_;rw[l,<-j,n];exact Ud _ _ (.inl rfl)
   have Q:Mk.u8 b=r.s.getD r.A 0:=by rw[<-j,qI n,rT]
   rw[Q]at l;obtain⟨c,w,o,L,N⟩|⟨w,o⟩|⟨w,o⟩:=Ub (seg r d r.A++[r.s.getD r.A 0])
   .rw[w];obtain⟨S,T,D,E⟩:=kY h v x n (by rw[j];exact u.last _ _ _ b c p (l.trans o)) (u.pc1 c N L);exact .inl ⟨c,S,r.A+1,rfl,by omega,T,D,E,N,L⟩
   .rw[w];obtain⟨O,z,W,G⟩:=kY (X:=[]) h v x n (by rw[j];exact u.on _ _ _ b 2 _ 0 p (l.trans o) (by decide)) kO;rw[aj1]at z;refine rV.of z rfl (ih {r with A:=r.A+1} O (by simp;omega) ?_ (Rt.of G) B C (by simp;omega) (by simp;omega));show Lk (iY k (if r.A+1=d then 1 else 2) (seg r d (r.A+1)) 0) O;rw[M];have:seg r d (r.A+1)=seg r d r.A++[r.s.getD r.A 0]:=by rw[<-t];rfl
    rwa[this]
   rw[w];refine .inr ⟨_,rfl,f_ h v x ?_⟩;rw[j];exact u.bad _ _ _ _ p (l.trans o)
  rw[M h];exact .inr ⟨_,rfl,jS (by omega) v B (by rw[C];exact u.doc.symm)⟩
def Ue{d:Z}{e:Int->List Ev}(f:Rx k e F)(b:r.A<r.s.length)(g:r.E r.A=38)(hd:Does d 38 [] (iY k 1 [] 0))(h:Lk d m)(i:Rt r m)(j:r.I=k.I)(l:r.whole=false):
 rV r m e F (iT r):=by
 obtain⟨n,a,o,c⟩:=nM 38 b h i (by decide) (by decide) g hd;unfold iT;refine rV.of a rfl (ah0 f (r.A+1) (r.s.length+1) {r with A:=r.A+1} n (a_ _) ?_ (Rt.of c) j l (by have:=a.lt;exact this) (by show r.s.length<r.A+1+(r.s.length+1);omega));rwa[J rfl,uk]
def ah1(b:r.A<r.s.length):∀(f k:Nat) (a:R) (t:U),0<k->iH r f k=(a,t,true)->t.head?=some (r.s.getD r.A 0):=by
 intro f;induction f with
 |zero=>intro k a t _ h;unfold iH at h;cases h
 |succ f ih=>
  intro k a t c h;unfold iH at h;split at h
  .dsimp only at h;split at h
   .cases h
   split at h
   .simp only[Prod.mk.injEq]at h;rw[<-h.2.1];cases k with
    |zero=>omega
    |succ k=>
     rw[gB b,oq];simp[List.getD,b]
   exact ih (k+1) a t (by omega) h
  cases h
def ah2{c:R}{t:U}(d:r.A<r.s.length)(a:r.E r.A≠10)(b:r.E r.A≠13)(h:bF r=(c,t,true)):t.head?=some (r.s.getD r.A 0):=by
 rw[bF,M<|by simp[a,b]]at h;exact ah1 d _ 1 c t (by decide) h
def Cz(c:k.H=17)(d:k.t=0)(a:aZ k.rp=false)(b:Int):aP k b=fA k b:=by
 rw[aP,M,a];simp[c]
def KS(c:k.H=16)(d:k.t=0)(a:aZ k.rp=false)(b:Int):aP k b=gW k b:=by
 rw[aP,M,a];simp[bU,Mk.dV,c]
def ah3(h:k.H=17)(d:k.t=0)(f:aZ k.rp=false)(i:b≠k.aj2)(j:b≠60)(m:b≠38):Rc k b (if b=9\/b=10 then 32 else b):=by
 intro L T a r l c e;rw[Cz (k:={k with C:=L,F:=T,A:=a,K:=l,aN:=c,O:=r,j:=e}) h d f,fA,M<|by simpa using i,M<|by simpa using j,M<|by simpa using m];by_cases g:b=9\/b=10
 .rw[J (by obtain g|g:=g<;>simp[g]),J g]
 rw[M<|by simp;omega,M g]
structure Sv(k k' :Z):Prop where
 od:k'.od=k.od
 oa:k'.oa=k.oa
 S:k'.S=k.S
 on:k'.on=k.on
 I:k'.I=k.I
 over:k'.over=k.over
 m:k'.m=k.m
 T:k'.T=k.T
 B:k'.B=k.B
 br:k'.bG=k.bG
def Sv.trans{a b c:Z}(h:Sv a b)(g:Sv b c):Sv a c:=
 ⟨g.od.trans h.od,g.oa.trans h.oa,g.S.trans h.S,g.on.trans h.on,g.I.trans h.I,g.over.trans h.over,g.m.trans h.m,g.T.trans h.T,g.B.trans h.B,g.br.trans h.br⟩
def Val(r:R)(k m:Z)(x:R×U×Bool):Prop:=
 (∃a v c b,x=({r with A:=a},v,true)/\r.A<a/\dF r m {r with A:=a} c/\c.O=false/\Lk b c/\Sv k b/\Cl b/\b.H=18/\b.f=k.f++[⟨k.attr,[],v⟩])\/(∃d,x=(d,[],false)/\Fin r m d)
def Val.of{r b:R}{k k1 m g:Z}{x:R×U×Bool}(c:dF r m b g)(i:b={r with A:=b.A})(h:Val b k1 g x)(l:Sv k k1)(d:k1.f=k.f)(e:k1.attr=k.attr):Val r k m x:=by
 obtain⟨a,v,n,o,f,j,p,q,s,t,u,w,y⟩|⟨z,f,j⟩:=h
 .have:=c.le;refine .inl ⟨a,v,n,o,by rw[f,i],by omega,?_,q,s,l.trans t,u,w,by rw[y,d,e]⟩;have A:=c.trans p;rwa[i]at A
 exact .inr ⟨z,f,Fin.of c j⟩
def ah4(d:Nat)(hq:d=34\/d=39):∀(f:Nat) (r:R) (k m:Z),k.H=17->k.t=0->aZ k.rp=false->k.D=[]->k.aj2=(d:Int)->k.G<=k.S->k.S=r.S->r.I=k.I->r.whole=false->r.A<=r.s.length->r.s.length<r.A+f->Lk k m->Rt r m->
 Val r k m (iD (d:Int) f r k.i k.G):=by
 intro f;induction f with
 |zero=>intro r k m _ _ _ _ _ _ _ _ _ _ hf;omega
 |succ f ih=>
  intro r k m u p q B z hc N O P hl hf E K;have F:bI k=false:=by rw[bI,u];rfl
  unfold iD;by_cases o:r.A<r.s.length
  .rw[J o];dsimp only;by_cases G:r.E r.A=(d:Int)
   .rw[J<|by simpa using G];have hd:Does k (d:Int) [] {k with i:=[],G:=0,f:=k.f++[⟨k.attr,[],k.i⟩],attr:=[],H:=18}:=by
     intro L T a r l c e;rw[Cz (k:={k with C:=L,F:=T,A:=a,K:=l,aN:=c,O:=r,j:=e}) u p q,fA,J<|by show((d:Int)==k.aj2)=true;rw[z];simp];simp[Mk.yA,bH,bM]
    obtain⟨m', ha,X,a0⟩:=nM d o E K (by omega) (by omega) G hd;exact .inl ⟨_,k.i,m', _,rfl,by omega,ha,a0,X,⟨rfl,rfl,rfl,rfl,rfl,rfl,rfl,rfl,rfl,rfl⟩,⟨p,q,rfl,rfl,B⟩,rfl,rfl⟩
   rw[M<|by simpa using G];obtain⟨b,h⟩:=akb (nb (r.s.getD r.A 0));have n:b≠k.aj2:=by
    rw[<-h,z];by_cases g:r.E r.A=13
    .rw[lF g];omega
    rwa[fo g]
   by_cases A:r.E r.A=60
   .rw[J<|by simpa using A];refine .inr ⟨_,rfl,f_ o E K ?_⟩;have C:b=60:=by rw[<-h,fo<|by rw[A];decide,A]
    rw[h,C];intro L T a r l c e;rw[Cz (k:={k with C:=L,F:=T,A:=a,K:=l,aN:=c,O:=r,j:=e}) u p q,fA,M<|by rw[C]at n;simpa using n,J]
   rw[M<|by simpa using A];have H:b≠60:=by
    rw[<-h];by_cases g:r.E r.A=13
    .rw[lF g];decide
    rwa[fo g]
   by_cases v:r.E r.A=38
   .have w:b=38:=by rw[<-h,fo<|by rw[v];decide,v]
    by_cases y:k.G=r.S
    .rw[J<|by simpa using y,Ad];refine .inr ⟨_,rfl,f_ o E K ?_<|by split<;>decide⟩;rw[h,w];intro L T a r' l c e;rw[Cz (k:={k with C:=L,F:=T,A:=a,K:=l,aN:=c,O:=r', j:=e}) u p q,fA,M<|by rw[w]at n;simpa using n,M,J,Cv (by unfold bI;simp[u]) 1 (by show k.S<k.G+1;omega)];show(7:Int)=if eF 38=none then 2 else 7;decide
    rw[M<|by simpa using y,J (c:=(r.E r.A==38)=true)<|by simpa using v];have hd:Does k 38 [] (iY k 1 [] 0):=by
     intro L T a r' l c e;rw[Cz (k:={k with C:=L,F:=T,A:=a,K:=l,aN:=c,O:=r', j:=e}) u p q,fA,M<|by rw[w]at n;simpa using n,M,J,Ag (by unfold bI;simp[u]) 1 (by show k.G+1<=k.S;omega)];simp[kZ,iY,bM]
    obtain⟨c,m1,a,g1,g2,g3,g4,g5,g6,g7⟩|⟨r1,g1,g2⟩:=Ue (ahY p F<|by rw[u];decide) o v hd E K O P
    .rw[g1];dsimp only;rw[J rfl];rw[aj1]at g3;exact Val.of g3 rfl (ih {r with A:=a} {iY k 7 [] c with i:=k.i++dB c,G:=k.G+1} m1 u p (by show aZ 7=false;decide) B z (by show k.G+1<=k.S;omega) N O P g3.lt (by show r.s.length<a+f;omega) g4 (Rt.of g5)) ⟨rfl,rfl,rfl,rfl,rfl,rfl,rfl,rfl,rfl,rfl⟩ rfl rfl
    rw[g1];dsimp only;rw[M];exact .inr ⟨r1,rfl,g2⟩
   have I:b≠38:=by
    rw[<-h];by_cases g:r.E r.A=13
    .rw[lF g];decide
    rwa[fo g]
   have Q:=ah3 u p q n H I;by_cases y:k.G=r.S
   .rw[J<|by simpa using y,Ad];refine .inr ⟨_,rfl,f_ o E K ?_<|by split<;>decide⟩;rw[h];have:=Ct Q F (by rw[B];simp;omega);by_cases g:b=9\/b=10
    .rw[J g]at this;have e1:(if eF 32=none then(2:Int)else 7)=7:=by decide
     have e2:(if eF b=none then(2:Int)else 7)=7:=by obtain g|g:=g<;>(rw[g];decide)
     rw[e1]at this;rwa[e2]
    rwa[M g]at this
   rw[M<|by simpa using y,M (c:=(r.E r.A==38)=true)<|by simpa using v];have a1:(if b=9\/b=10 then(32:Int)else b)=nb (r.s.getD r.A 0)\/((if b=9\/b=10 then(32:Int)else b)=32/\(nb (r.s.getD r.A 0)=10\/nb (r.s.getD r.A 0)=9)):=by
    rw[h];by_cases g:b=9\/b=10
    .rw[J g];exact .inr ⟨rfl,g.symm⟩
    rw[M g];exact .inl rfl
   obtain⟨c,m1,j,t,g1,g2,g3,g4,g5,g6,g7,g8⟩|⟨r1,g1,g0,g2⟩:=Cs (b' :=if b=9\/b=10 then 32 else b) (by rw[h];exact KE Q F (by rw[B];simp;omega) (by rw[B];intro x hx;cases hx) (by rw[u];decide)) a1 O P o E K
   .have ht:dB c=if t=[10]\/t=[9]then[32]else t:=by
     obtain⟨W,q2⟩|⟨_,_,W,q2⟩:=g8
     .rw[h]at W;have hn:¬(b=9\/b=10):=by intro g;rw[J g]at W;omega
      have D:r.E r.A≠10:=by
       intro g;apply hn;right;rw[<-h,fo<|by rw[g];decide,g]
      have S:r.E r.A≠13:=by intro g;apply hn;right;rw[<-h,lF g]
      have a2:r.E r.A≠9:=by
       intro g;apply hn;left;rw[<-h,fo<|by rw[g];decide,g]
      have i:=ah2 o D S g1;rwa[M ?_];rintro(g|g)
      .rw[g]at i;simp at i;exact D ((lT r r.A 10).2<|by rw[List.getD];exact i.symm)
      rw[g]at i;simp at i;exact a2 ((lT r r.A 9).2<|by rw[List.getD];exact i.symm)
     rw[J q2,W];rfl
    rw[g1];dsimp only;rw[J rfl,<-ht];simp only[ul,aj1]at g3 g5;have:=ih {r with A:=r.A+j} {k with i:=k.i++k.D++dB c,G:=k.G+k.D.length+1,D:=[],pc:=c,t:=0} m1 u rfl q rfl z (by show k.G+(k.D.length:Int)+1<=k.S;rw[B];simp;omega) N O P g3.lt (by show r.s.length<r.A+j+f;omega) g4 g5;have e1:k.i++k.D++dB c=k.i++dB c:=by rw[B];simp
    have e2:k.G+(k.D.length:Int)+1=k.G+1:=by rw[B];simp
    simp only[e1,e2]at this;exact Val.of g3 rfl this ⟨rfl,rfl,rfl,rfl,rfl,rfl,rfl,rfl,rfl,rfl⟩ rfl rfl
   rw[g1];dsimp only;rw[M];rw[aj1]at g2;exact .inr ⟨r1,rfl,by rw[<-g0]at g2;exact g2⟩
  rw[M o];exact .inr ⟨_,rfl,jS (by omega) E O (by rw[P,lU<|by rw[u];decide])⟩
def ah5(w:k.H=16)(d:Cl k)(F:0<=k.S)(o:k.S=r.S)(A:r.I=k.I)(B:r.whole=false)(f:r.A<r.s.length)(C:Rf.bJ (r.E r.A)=false)(x:Lk k m)(y:Rt r m):Val r k m (iA r):=by
 unfold iA;have p:∀b:Int,b=34\/b=39->Does k b [] {k with aj2:=b,H:=17}:=by
  intro b h L T a r l c e;rw[KS (k:={k with C:=L,F:=T,A:=a,K:=l,aN:=c,O:=r,j:=e}) w d.t d.rp,gW,M (by obtain rfl|rfl:=h<;>decide),J<|by obtain rfl|rfl:=h<;>decide];simp[bM]
 by_cases n:r.E r.A=34\/r.E r.A=39
 .rw[M<|by obtain g|g:=n<;>simp[g]];have z:∀q:Nat,(q=34\/q=39)->r.E r.A=(q:Int)->Val r k m (iD (r.E r.A) (r.s.length+1) {r with A:=r.A+1} [] 0):=by
   intro q n h;obtain⟨D,i,t,u⟩:=nM q f x y (by omega) (by omega) h (p (q:Int)<|by omega);rw[h];have:=ah4 q n (r.s.length+1) {r with A:=r.A+1} {k with aj2:=(q:Int),H:=17} D rfl d.t d.rp d.hd rfl (by rwa[d.ct]) o A B i.lt (by show r.s.length<r.A+1+(r.s.length+1);omega) t (Rt.of u);simp only[d.tk,d.ct]at this;exact Val.of i rfl this ⟨rfl,rfl,rfl,rfl,rfl,rfl,rfl,rfl,rfl,rfl⟩ rfl rfl
  obtain g|g:=n
  .exact z 34 (.inl rfl) g
  exact z 39 (.inr rfl) g
 rw[J<|by simp;omega];refine .inr ⟨_,rfl,f_ f x y ?_⟩;have v:Mk.bJ (nb (r.s.getD r.A 0))=false:=by rwa[<-Ae,wK]
 have j:nb (r.s.getD r.A 0)≠34/\nb (r.s.getD r.A 0)≠39:=by
  by_cases g:r.E r.A=13
  .rw[lF g];decide
  rw[fo g];omega
 generalize nb (r.s.getD r.A 0)=b at *;intro L T a E l c e;rw[KS (k:={k with C:=L,F:=T,A:=a,K:=l,aN:=c,O:=E,j:=e}) w d.t d.rp,gW,M<|by simp[v],M<|by simp[j.1,j.2]]
