import Derived.Test.YtmgfijllcdadgaaGreatDoorUW09
set_option linter.all false
namespace Go.Proofs.YtmgfijllcdadgaaGreatDoor.Q
open List
open Rf
open Mk hiding Rf
variable {k m:Z}{b c:Int}{r:R}{B g:List (U×U)}{C:List Nat}{nm:U}{aC:List aI}{aG:List U}
def aio(r:R)(E:List Ev):∀(f k:Nat),iH {r with y:=E} f k=({(iH r f k).1 with y:=E},(iH r f k).2):=by
 intro f;induction f with
 |zero=>intro k;rfl
 |succ f ih=>
  intro k;unfold iH;dsimp only;split
  .split
   .rfl
   split
   .rfl
   exact ih (k+1)
  rfl
def Uu(r:R)(E:List Ev):bF {r with y:=E}=({(bF r).1 with y:=E},(bF r).2):=by
 unfold bF;have e:∀i,({r with y:=E}:R).E i=r.E i:=λ_=>rfl;simp only[e];split
 .split<;>rfl
 exact aio r E _ 1
def Lg(k d:Z)(b f:Int):Prop:=
 ∀L T a r l c e,aP {k with C:=L,F:=T,A:=a,K:=l,aN:=c,O:=r,j:=e} b=cV {d with C:=L,F:=T,A:=a,K:=l,aN:=c,O:=r,j:=e} f
def Uv{d:Z}{o:Int}(g:Lg k d b o)(p:bI d=true)(q:∀x∈d.D,x.toNat<128)(m:d.H≠0)(u:d.I=k.I):
 Cx k (d.D.map λx=>gu [x]) (λc=>[gu (dB c)]) (λc=>{d with D:=[],pc:=c,t:=0}) (λc n=>{d with D:=[],pc:=c,t:=n}) b o:=by
 have f:=p;unfold bI at f;have s:∀L T a r l c e,gb {d with C:=L,F:=T,A:=a,K:=l,aN:=c,O:=r,j:=e} (d.D.length+1)=true:=λL T a r l c e=>by
  rw[gb,bI,f];rfl
 have t:∀L T a r l c e,Mk.dW {d with C:=L,F:=T,A:=a,K:=l,aN:=c,O:=r,j:=e} d.D={d with C:=L,F:=T++d.D,A:=a,K:=l,aN:=c,O:=r,j:=e}:=λL T a r l c e=>TI _ _ p q;refine⟨λc j=>?_,λc n i j=>?_,λj=>?_,λc n x v w i hx y=>?_,λc n x v i hx=>?_,λc n x i hx=>?_,ahA q,λc z A=>KD (KC z A),λ_ _=>u,λc n=>?_⟩
 .intro L T a r l h e;rw[g];rw[cV,j];dsimp only;rw[J (s L T a r l h e),t,Ky,KB,Fh];simp[gD,bV,bI,f]
 .intro L T a r l h e;rw[g];rw[cV,j];dsimp only;rw[J (s L T a r l h e),t,KB];simp[gD,show n≠0 by omega]
 .intro L T a r l h e;rw[g];rw[cV,j]
 .intro L T a r l h e;rw[yh i];rw[fT,hx];simp[gD,show w≠0 by omega,bM]
 .intro L T a r l h e;rw[yh i];rw[fT,hx,Fh];simp[gD,bV,bI,f]
 .intro L T a r l h e;rw[yh i];rw[fT,hx]
 unfold Mk.fO;simp[m]
def Fz(c:k.H=2)(d:k.t=0)(a:aZ k.rp=false)(b:Int):aP k b=fH k b:=by
 rw[aP,M,a];simp[c]
def hx(h:U):List Ev:=h.map λx=>gu [x]
def Sc(h:U)(r:R):Prop:=
 h=[]\/((h=[93]\/(h=[93,93]/\r.E r.A≠62))/\r.A<r.s.length/\(r.E r.A=93->r.A+1<r.s.length/\r.E (r.A+1)≠62))
def Uw(q:k.H=2)(j:k.t=0)(n:aZ k.rp=false)(x:k.D=[]\/k.D=[93]\/k.D=[93,93])(i:r.A<r.s.length)(t:r.E r.A=93)(u:Lk k m)(v:Rt r m):
 ∃f o X,dF r m {r with A:=r.A+1,y:=r.y++X} f/\Lk {k with D:=o} f/\f.O=false/\X++hx o=hx k.D++hx [93]/\(o=[93]\/o=[93,93])/\(o=[93,93]↔k.D≠[]):=by
 have w:k.D≠[93,93]->Does k 93 [] {k with D:=k.D++[93]}:=by
  intro h L T a r l c e;rw[Fz (k:={k with C:=L,F:=T,A:=a,K:=l,aN:=c,O:=r,j:=e}) q j n];unfold fH;simp[h,bM]
 obtain g|g|g:=x
 .obtain⟨f,p,b,d⟩:=wL (c:=93) i u v (by decide) (by decide) t (w<|by rw[g];decide) kO;refine⟨f,[93],[],p,by rwa[g]at b,d,by rw[g];rfl,.inl rfl,by simp[g]⟩
 .obtain⟨f,p,b,d⟩:=wL (c:=93) i u v (by decide) (by decide) t (w<|by rw[g];decide) kO;refine⟨f,[93,93],[],p,by rwa[g]at b,d,by rw[g];rfl,.inr rfl,by simp[g]⟩
 have z:Does k 93 [gu [93]] {k with D:=[93,93]}:=by
  intro L T a r l c e;rw[Fz (k:={k with C:=L,F:=T,A:=a,K:=l,aN:=c,O:=r,j:=e}) q j n,Fh];unfold fH;simp[g,bV,bI,q];rfl
 obtain⟨f,p,b,d⟩:=wL (c:=93) i u v (by decide) (by decide) t z (KD<|by refine⟨by decide,λy A=>by cases A⟩);exact⟨f,[93,93],[gu [93]],p,b,d,by rw[g];rfl,.inr rfl,by simp[g]⟩
def aip(f:k.H=2)(b:k.t=0)(d:aZ k.rp=false)(g:k.D=[93,93]):Does k 62 [] {k with D:=[],H:=1}:=by
 intro L T a r l c e;rw[Fz (k:={k with C:=L,F:=T,A:=a,K:=l,aN:=c,O:=r,j:=e}) f b d];unfold fH;simp[g,bM]
def lag(r:R)(h:U):R:={r with y:=r.y++hx h}
def aiq(c:r.A<r.s.length)(e:r.E r.A=93):(r.s.drop r.A=[93]↔r.A+1=r.s.length)/\(r.s.drop r.A=[93,93]↔r.A+2=r.s.length/\r.E (r.A+1)=93):=by
 have e0:r.s.drop r.A=r.s.getD r.A 0::r.s.drop (r.A+1):=by
  rw[gB c];simp[List.getD,c]
 have d:(UInt8.ofNat 93)=93:=rfl;rw[e0,((lT r r.A 93).1 e),d];constructor
 .constructor
  .intro g;have:=congrArg List.length g;simp at this;omega
  intro g;rw[oQ<|by omega]
 constructor
 .intro g;have b:r.s.drop (r.A+1)=[93]:=by simpa using g
  have:=congrArg List.length b;simp at this;refine⟨by omega,?_⟩;have a:r.A+1<r.s.length:=by omega
  rw[gB a]at b;simp only[List.cons.injEq]at b;refine(lT r (r.A+1) 93).2 ?_;simp[List.getD,a,b.1]
 rintro⟨h,b⟩;have a:r.A+1<r.s.length:=by omega
 have f:r.s.drop (r.A+1)=r.s.getD (r.A+1) 0::r.s.drop (r.A+1+1):=by
  rw[gB a];simp[List.getD,a]
 rw[f,((lT r (r.A+1) 93).1 b),oQ<|by omega];rfl
def air(i:k.H=2)(d:k.t=0)(f:aZ k.rp=false)(j:b=62->k.D≠[93,93])(h:b≠93):Lg k k b b:=by
 intro L T a r l c e;rw[Fz (k:={k with C:=L,F:=T,A:=a,K:=l,aN:=c,O:=r,j:=e}) i d f,fH,M λg=>j g.1 g.2,M λg=>h g.1,M h]
def ais:∀(f:Nat) (r:R) (k m:Z),k.H=2->k.t=0->aZ k.rp=false->Sc k.D r->k.i=[]->k.G=0->r.I=k.I->r.whole=false->r.A<=r.s.length->r.s.length<r.A+f->Lk k m->Rt r m->
 (∃b w i,jN f (lag r k.D)=(b,true)/\dF r m b w/\b.I=r.I/\b.P=r.P/\w.O=false/\Lk i w/\Sa k i/\Cl i/\i.H=1/\i.bG=k.bG)
 \/(∃b,jN f (lag r k.D)=(b,false)/\Fin r m b):=by
 intro f;induction f with
 |zero=>intro r k m _ _ _ _ _ _ _ _ _ hf;omega
 |succ f ih=>
  intro r k m G u l hh P Q ho hw hl hf hm hr;have y:k.D=[]\/k.D=[93]\/k.D=[93,93]:=by
   obtain g|⟨g|g,_⟩:=hh
   .exact .inl g
   .exact .inr (.inl g)
   exact .inr (.inr g.1)
  have a7:bI k=true:=by rw[bI,G];rfl
  have a0:∀x∈k.D,x.toNat<128:=by
   obtain g|g|g:=y<;>rw[g]<;>intro x hx<;>simp at hx<;>subst hx<;>decide
  have o:k.H≠0:=by rw[G];decide
  unfold jN;by_cases n:r.A<r.s.length
  .rw[J (show(lag r k.D).A<(lag r k.D).s.length from n)];dsimp only;by_cases a:r.E r.A=93
   .obtain⟨D1,D2⟩:=aiq n a;obtain⟨m1,H,p,C,S,a1,T,D,I⟩:=Uw G u l y n a hm hr;have d:((lag r k.D).E (lag r k.D).A==93)=true:=by show(r.E r.A==93)=true;simpa using a
    have a2:k.D≠[]->r.A+1<r.s.length/\r.E (r.A+1)≠62:=by
     intro g;obtain q|⟨_,_,q⟩:=hh
     .exact aj6 q g
     exact q a
    have K:r.A+1<r.s.length->(r.E (r.A+1)=93->r.A+2<r.s.length/\r.E (r.A+2)≠62)->
     (∃b w i,(if(bF (lag r k.D)).2.2=true then jN f (Rf.text (bF (lag r k.D)).1 (bF (lag r k.D)).2.1)else((bF (lag r k.D)).1,false))=(b,true)/\dF r m b w/\b.I=r.I/\b.P=r.P/\w.O=false/\Lk i w/\Sa k i/\Cl i/\i.H=1/\i.bG=k.bG)
     \/(∃b,(if(bF (lag r k.D)).2.2=true then jN f (Rf.text (bF (lag r k.D)).1 (bF (lag r k.D)).2.1)else((bF (lag r k.D)).1,false))=(b,false)/\Fin r m b):=by
     intro B E;have ec:bF (lag r k.D)=({lag r k.D with A:=r.A+1},[r.s.getD r.A 0],true):=
      KG (r:=lag r k.D) n (by show r.E r.A<128;rw[a];decide) (by show eX (r.E r.A)=true;rw[a];decide) (by show r.E r.A≠10;rw[a];decide) (by show r.E r.A≠13;rw[a];decide)
     rw[ec];dsimp only;rw[J rfl];have e3:Rf.text {lag r k.D with A:=r.A+1} [r.s.getD r.A 0]=lag {r with A:=r.A+1,y:=r.y++p} H:=by
      rw[(lT r r.A 93).1 a];show({r with A:=r.A+1,y:=r.y++hx k.D++hx [93]}:R)={r with A:=r.A+1,y:=r.y++p++hx H};rw[jB,jB,T]
     rw[e3];rcases ih {r with A:=r.A+1,y:=r.y++p} {k with D:=H} m1 G u l (.inr ⟨by obtain q|q:=D;exact .inl q;exact .inr ⟨q,(a2 (I.1 q)).2⟩,B,E⟩) P Q ho hw (LC B) (by show r.s.length<r.A+1+f;omega) S (Rt.of a1)with⟨b,w,i,z,F,q3,q4,q5,q6,q7,q8,q9⟩|⟨b,z,F⟩
     .exact .inl ⟨b,w,i,z,C.trans F,q3,q4,q5,q6,⟨q7.od,q7.oa,q7.S,q7.on,q7.I,q7.over,q7.m,q7.T,q7.f⟩,q8,q9⟩
     exact .inr ⟨b,z,Fin.of C F⟩
    by_cases hA:r.A+1=r.s.length
    ·
     have hk:k.D=[]:=by
      by_cases g:k.D=[]
      .exact g
      have:=(a2 g).1;omega
     have e:(((lag r k.D).E (lag r k.D).A==93)&&(decide (List.drop (lag r k.D).A (lag r k.D).s=[93])||decide (List.drop (lag r k.D).A (lag r k.D).s=[93,93])))=true:=by
      rw[d,ja,CW];left;exact nR (D1.2 hA)
     rw[J e];refine .inr ⟨_,rfl,Fin.of C ?_⟩;have a8:p=[]:=by
      have:p++hx H=hx [93]:=by rw[T,hk];rfl
      obtain q|q:=D
      .rw[q]at this;exact append_cancel_right (bs:=hx [93]) (by simpa using this)
      exact aj6 hk (I.1 q)
     have:=jS (r:={r with A:=r.A+1,y:=r.y++p}) hA S ho (by show r.whole=_;rw[hw];exact(lU (k:={k with D:=H}) o).symm);have W:qQ (lag r k.D)={r with A:=r.A+1,y:=r.y++p,stop:=1}:=by
      unfold qQ lag;rw[a8,hk,hA];rfl
     rwa[W]
    have A:r.A+1<r.s.length:=by omega
    by_cases h:r.E (r.A+1)=93
    .obtain⟨m2,h2,X,a9,a3,aa,ab,ah,a4⟩:=Uw (k:={k with D:=H}) (r:={r with A:=r.A+1,y:=r.y++p}) G u l (by obtain q|q:=D;exact .inr (.inl q);exact .inr (.inr q)) A h S (Rt.of a1);have L:h2=[93,93]:=a4.2 (by show H≠[];obtain q|q:=D<;>(rw[q];decide));have N:=C.trans a9;have a5:p++X=hx k.D:=by
      have z:(p++X)++hx h2=hx k.D++hx [93]++hx [93]:=by
       have F:X++hx h2=hx H++hx [93]:=ab;rw[jB,F,<-jB,T]
      rw[L]at z;have q3:hx k.D++hx [93]++hx [93]=hx k.D++hx [93,93]:=by rw[jB];rfl
      rw[q3]at z;exact append_cancel_right z
     by_cases hB:r.A+2=r.s.length
     .have e:(((lag r k.D).E (lag r k.D).A==93)&&(decide (List.drop (lag r k.D).A (lag r k.D).s=[93])||decide (List.drop (lag r k.D).A (lag r k.D).s=[93,93])))=true:=by
       rw[d,ja,CW];right;exact nR (D2.2 ⟨hB,h⟩)
      rw[J e];refine .inr ⟨_,rfl,Fin.of N ?_⟩;have:=jS (r:={r with A:=r.A+1+1,y:=r.y++p++X}) hB a3 ho (by show r.whole=_;rw[hw];exact(lU (k:={k with D:=h2}) o).symm);have W:qQ (lag r k.D)={r with A:=r.A+1+1,y:=r.y++p++X,stop:=1}:=by
       unfold qQ lag;rw[jB,a5,show r.A+1+1=r.s.length from hB]
      rwa[W]
     have e:(((lag r k.D).E (lag r k.D).A==93)&&(decide (List.drop (lag r k.D).A (lag r k.D).s=[93])||decide (List.drop (lag r k.D).A (lag r k.D).s=[93,93])))=false:=by
      rw[d,ja,uq];exact⟨pV λg=>hA (D1.1 g),pV λg=>hB (D2.1 g).1⟩
     rw[e,M];have O:r.A+2<r.s.length:=by omega
     by_cases v:r.E (r.A+2)=62
     .rw[J<|by show(r.E r.A==93&&r.E (r.A+1)==93&&r.E (r.A+2)==62)=true;simp[a,h,v]];obtain⟨m3,ad,ae,af⟩:=nM (r:={r with A:=r.A+1+1,y:=r.y++p++X}) 62 O a3 (Rt.of aa) (by decide) (by decide) v (aip (k:={k with D:=h2}) G u l L);refine .inl ⟨_,m3,_,rfl,?_,rfl,rfl,af,ae,⟨rfl,rfl,rfl,rfl,rfl,rfl,rfl,rfl,rfl⟩,⟨u,l,P,Q,rfl⟩,rfl,rfl⟩;have:=N.trans ad;have W:({lag r k.D with A:=(lag r k.D).A+3}:R)={r with A:=r.A+1+1+1,y:=r.y++p++X}:=by
       unfold lag;rw[jB,a5]
      rwa[W]
     rw[M<|by show ¬(r.E r.A==93&&r.E (r.A+1)==93&&r.E (r.A+2)==62)=true;simp[v]];exact K A λ_=>⟨O,v⟩
    have e:(((lag r k.D).E (lag r k.D).A==93)&&(decide (List.drop (lag r k.D).A (lag r k.D).s=[93])||decide (List.drop (lag r k.D).A (lag r k.D).s=[93,93])))=false:=by
     rw[d,ja,uq];exact⟨pV λg=>hA (D1.1 g),pV λg=>h (D2.1 g).2⟩
    rw[e,M,M<|by show ¬(r.E r.A==93&&r.E (r.A+1)==93&&r.E (r.A+2)==62)=true;simp[h]];exact K A λg=>aj6 g h
   ·
    have d:((lag r k.D).E (lag r k.D).A==93)=false:=by show(r.E r.A==93)=false;simpa using a
    rw[d];simp only[iL,cK,cE];have ag:nb (r.s.getD r.A 0)≠93:=pO (by decide) a;have v:nb (r.s.getD r.A 0)=62->k.D≠[93,93]:=by
     intro B E;have a6:r.E r.A=62:=by
      by_cases g:r.E r.A=13
      .rw[lF g]at B;cases B
      rwa[fo g]at B
     obtain q|⟨q|q,_⟩:=hh
     .rw[q]at E;cases E
     .rw[q]at E;cases E
     exact q.2 a6
    obtain⟨c,m1,j,t,B,E,g3,g4,g5,g6,g7,g8⟩|⟨r1,B,g0,E⟩:=Cs (Uv (air G u l v ag) a7 a0 o rfl) (.inl rfl) ho hw n hm hr
    .have ht:dB c=t:=by
      obtain g|g:=g8
      .exact g.2
      exfalso;omega
     have ec:bF (lag r k.D)=({lag r k.D with A:=r.A+j},t,true):=by
      unfold lag;rw[Uu,B]
     rw[ec];dsimp only;rw[J rfl];have e3:Rf.text {lag r k.D with A:=r.A+j} t=lag {r with A:=r.A+j,y:=r.y++((k.D.map λx=>gu [x])++[gu (dB c)])} []:=by
      show({r with A:=r.A+j,y:=r.y++hx k.D++[gu t]}:R)={r with A:=r.A+j,y:=r.y++(hx k.D++[gu (dB c)])++[]};rw[ht];simp
     rw[e3];rcases ih {r with A:=r.A+j,y:=r.y++((k.D.map λx=>gu [x])++[gu (dB c)])} {k with D:=[],pc:=c,t:=0} m1 G rfl l (.inl rfl) P Q ho hw g3.lt (by show r.s.length<r.A+j+f;omega) g4 g5 with⟨b,w,i,z,F,q3,q4,q5,q6,q7,q8,q9⟩|⟨b,z,F⟩
     .exact .inl ⟨b,w,i,z,g3.trans F,q3,q4,q5,q6,⟨q7.od,q7.oa,q7.S,q7.on,q7.I,q7.over,q7.m,q7.T,q7.f⟩,q8,q9⟩
     exact .inr ⟨b,z,Fin.of g3 F⟩
    have ec:bF (lag r k.D)=({r1 with y:=r.y++hx k.D},[],false):=by
     unfold lag;rw[Uu,B]
    rw[ec];dsimp only;rw[M];exact .inr ⟨_,rfl,E⟩
  have hk:k.D=[]:=by
   obtain g|⟨_,g,_⟩:=hh
   .exact g
   exact aj6 g n
  rw[M (show ¬(lag r k.D).A<(lag r k.D).s.length from n)];have:=jS (r:=r) (by omega) hm ho (by rw[hw,lU o]);have W:lag r k.D=r:=by unfold lag;rw[hk];show({r with y:=r.y++[]}:R)=r;rw[aj1]
  rw[W];exact .inr ⟨_,rfl,this⟩
def Fs(c:k.H=4)(d:k.t=0)(a:aZ k.rp=false)(b:Int):aP k b=gF k b:=by
 rw[aP,M,a];simp[bU,c]
def Ux(c:k.H=6)(d:k.t=0)(a:aZ k.rp=false)(b:Int):aP k b=dQ k b:=by
 rw[aP,M,a];simp[bU,c]
def marks:U:=[67,68,65,84,65,91]
def ait:∀i,i<6->lK.getD i 0=((marks.getD i 0).toNat:Int)/\(marks.getD i 0).toNat≠13/\(marks.getD i 0).toNat≠10:=by decide
def aiu(p:k.H=6)(d:Cl k):∀(n i:Nat) (r:R) (m:Z),n+i=6->0<n->r.I=k.I->r.whole=false->r.A<=r.s.length->Lk {k with aW:=(i:Int)} m->Rt r m->
 (∃t,kL (marks.drop i) r=({r with A:=r.A+n},true)/\dF r m {r with A:=r.A+n} t/\Lk {k with aW:=6,H:=2} t/\t.O=false)\/(∃g,kL (marks.drop i) r=(g,false)/\Fin r m g):=by
 intro n;induction n with
 |zero=>intro i r m _ h;omega
 |succ n ih=>
  intro i r m F _ w x A B C;have u:i<6:=by omega
  obtain⟨y,G,H⟩:=ait i u;have v:marks.drop i=marks.getD i 0::marks.drop (i+1):=by
   have:i<marks.length:=by show i<6;omega
   rw[gB this];simp[List.getD,this]
  rw[v];have o:=(marks.getD i 0).toNat_lt;have hd:Does {k with aW:=(i:Int)} ((marks.getD i 0).toNat:Int) [] (if n=0 then{k with aW:=6,H:=2}else{k with aW:=((i+1:Nat):Int)}):=by
   intro L T a r l c e;rw[Ux (k:={k with C:=L,F:=T,A:=a,K:=l,aN:=c,O:=r,j:=e,aW:=(i:Int)}) p d.t d.rp,dQ,M<|by show ¬(6<=(i:Int)\/lK.getD (i:Int).toNat 0≠_);rw[CN,y];simp;omega];by_cases j:n=0
   .rw[J<|by show(i:Int)+1=6;omega,J j];have:(i:Int)+1=6:=by omega
    simp[bM,this]
   rw[M<|by show ¬(i:Int)+1=6;omega,M j];simp[bM]
  have D:∀b:Int,b≠((marks.getD i 0).toNat:Int)->fQ {k with aW:=(i:Int)} b 3:=by
   intro b E L T a r l c e;rw[Ux (k:={k with C:=L,F:=T,A:=a,K:=l,aN:=c,O:=r,j:=e,aW:=(i:Int)}) p d.t d.rp,dQ,J<|by show(6<=(i:Int)\/lK.getD (i:Int).toNat 0≠_);rw[CN,y];right;exact λq=>E q.symm]
  unfold kL;obtain⟨z,q1,f,hm1,hr1⟩|⟨g,q1,hF⟩:=TJ (r:=r) (c:=((marks.getD i 0).toNat:Int)) (by omega) (by omega) hd D A B C w x (lU<|by rw[p];decide)
  .rw[q1,J rfl];by_cases j:n=0
   .subst j;rw[J rfl]at hm1;have:marks.drop (i+1)=[]:=by rw[show i+1=6 by omega];rfl
    rw[this];exact .inl ⟨z,rfl,f,hm1,hr1⟩
   rw[M j]at hm1;rcases ih (i+1) {r with A:=r.A+1} z (by omega) (by omega) w x (by have:=f.lt;exact this) hm1 (Rt.of hr1)with⟨m2,p1,p2,p3,p4⟩|⟨g,p1,p2⟩
   .refine .inl ⟨m2,?_,?_,p3,p4⟩
    .rw[p1];show({r with A:=r.A+1+n},true)=_;rw[show r.A+1+n=r.A+(n+1) by omega]
    have:=f.trans p2;rwa[show r.A+(n+1)=r.A+1+n by omega]
   exact .inr ⟨g,p1,Fin.of f p2⟩
  rw[q1];exact .inr ⟨g,rfl,hF⟩
def aiv(x:k.H=4)(b:Cl k)(g:k.I≠[])(u:r.I=k.I)(v:r.whole=false)(h:r.A<r.s.length)(w:r.E r.A=91)(y:Lk k m)(z:Rt r m):Ok r k m (rK r):=by
 have A:Does k 91 [] {k with H:=6,aW:=0}:=by
  intro L T a r l c e;rw[Fs (k:={k with C:=L,F:=T,A:=a,K:=l,aN:=c,O:=r,j:=e}) x b.t b.rp];unfold gF;have:0<k.I.length:=length_pos_iff.2 g;rw[M,J ⟨rfl,this⟩];simp[bM]
 obtain⟨B,d,j,n⟩:=nM 91 h y z (by decide) (by decide) w A;unfold rK;have C:kL [91,67,68,65,84,65,91] r=kL marks {r with A:=r.A+1}:=by
  show(let m:=bW r ((91:UInt8).toNat:Int);if m.2 then kL marks m.1 else(m.1,false))=_;have:bW r ((91:UInt8).toNat:Int)=({r with A:=r.A+1},true):=by
   rw[bW,J h,J<|by simpa using w]
  rw[this];rfl
 rw[C];rcases aiu (k:={k with H:=6}) rfl ⟨b.t,b.rp,b.tk,b.ct,b.hd⟩ 6 0 {r with A:=r.A+1} B (by omega) (by omega) u v (by have:=d.lt;exact this) j (Rt.of n)with⟨m2,q1,q2,q3,q4⟩|⟨i,q1,q2⟩
 .rw[wX]at q1;rw[q1,J rfl];have:=ais (r.s.length+1) {r with A:=r.A+1+6} {k with aW:=6,H:=2} m2 rfl b.t b.rp (.inl b.hd) b.tk b.ct u v q2.lt (by show r.s.length<r.A+1+6+(r.s.length+1);omega) q3 (Rt.of q4);have D:lag {r with A:=r.A+1+6} ({k with aW:=6,H:=2}:Z).D={r with A:=r.A+1+6}:=by
   rw[b.hd];show({r with A:=r.A+1+6,y:=r.y++[]}:R)=_;rw[aj1]
  rw[D]at this;obtain⟨i,E,F,o,p,G,H,I,K,f,N,O,t⟩|⟨i,o,p⟩:=this
  .refine .inl ⟨i,E,F,o,(d.trans q2).trans p,G,H,I,K,⟨f.od,f.oa,f.S,f.on,f.I,f.over,f.m,f.T,f.f⟩,N,?_,t⟩;rw[O,_root_.if_neg];intro q;exact g (length_eq_zero_iff.1 q)
  exact .inr ⟨i,o,Fin.of (d.trans q2) p⟩
 rw[wX]at q1;rw[q1];exact .inr ⟨i,rfl,Fin.of d q2⟩
def aiw(E:k.H=3)(f:Cl k)(t:k.S=r.S)(w:k.on=r.on)(F:1<=r.S)(x:k.I≠[])(v:r.I=k.I)(y:r.whole=false)(q:r.A+1<r.s.length)
 (u:r.E (r.A+1)≠47) (G:Rf.fq (r.E (r.A+1))=false) (z:Lk k m) (A:Rt {r with A:=r.A+1} m):Ok {r with A:=r.A+1} k m (qz r (r.E (r.A+1))):=by
 obtain⟨B,C⟩:=KN E f;unfold qz;by_cases j:r.E (r.A+1)=63
 .rw[J<|by simp[j]];obtain⟨H,d,h,n⟩:=nM (r:={r with A:=r.A+1}) 63 q z A (by decide) (by decide) j C;exact Ok.of (k1:={k with H:=8}) d rfl rfl (Sa.st k 8) rfl (TV (r:={r with A:=r.A+2}) rfl (f.st 8) t w F v y d.lt h (Rt.of n))
 rw[M<|by simpa using j];by_cases o:r.E (r.A+1)=33
 .rw[M<|by simp[o]];obtain⟨H,d,h,n⟩:=nM (r:={r with A:=r.A+1}) 33 q z A (by decide) (by decide) o B;dsimp only;by_cases i:r.A+2<r.s.length
  .rw[J i];have D:({r with A:=r.A+2}:R).E (r.A+2)=r.E (r.A+2):=rfl;rw[D];by_cases p:r.E (r.A+2)=91
   .rw[M<|by simp[p]];exact Ok.of (k1:={k with H:=4}) d rfl rfl (Sa.st k 4) rfl (aiv (r:={r with A:=r.A+2}) rfl (f.st 4) x v y i p h (Rt.of n))
   rw[J<|by simpa using p];exact Ok.of (k1:={k with H:=4}) d rfl rfl (Sa.st k 4) rfl (TW (r:={r with A:=r.A+2}) rfl (f.st 4) t F v y d.lt h (Rt.of n) λ_=>p)
  rw[M i];exact .inr ⟨_,rfl,Fin.of d (jS (r:={r with A:=r.A+2}) (by show r.A+2=r.s.length;omega) h v (by rwa[lU<|by intro g;cases g]))⟩
 rw[J<|by simpa using o];refine .inr ⟨_,rfl,f_ (r:={r with A:=r.A+1}) q z A ?_ (by decide)⟩;have I:nb (r.s.getD (r.A+1) 0)≠33:=pO (by decide) o;have K:nb (r.s.getD (r.A+1) 0)≠63:=pO (by decide) j;have N:nb (r.s.getD (r.A+1) 0)≠47:=pO (by decide) u;have O:dP (nb (r.s.getD (r.A+1) 0))=false:=by rwa[<-letter_eq,KJ]
 generalize nb (r.s.getD (r.A+1) 0)=b at *;intro L T a r l c e;rw[yp (k:={k with C:=L,F:=T,A:=a,K:=l,aN:=c,O:=r,j:=e}) E f.t f.rp,eG,M<|by simpa using I,M<|by simpa using K,M λg=>N g.1,M<|by simp[O]]
def CF(c:k.H=20)(d:k.t=0)(a:aZ k.rp=false)(b:Int):aP k b=iC k b:=by
 rw[aP,M,a];simp[bU,c]
def Lh(c:k.H=21)(d:k.t=0)(a:aZ k.rp=false)(b:Int):aP k b=gh k b:=by
 rw[aP,M,a];simp[bU,c]
def aix(B:k.H=20)(f:Cl k){d:U}(p:bP k=d):∀(l:U) (i:Nat) (r:R) (m:Z),d.drop i=l->i<=d.length->(∀x∈l,x≠13/\x≠10)->r.I=k.I->r.whole=false->r.A<=r.s.length->Lk {k with aW:=(i:Int)} m->Rt r m->
 (∃C,kU l r=({r with A:=r.A+l.length},true)/\dF r m {r with A:=r.A+l.length} C/\Lk {k with aW:=(d.length:Int)} C/\Rt {r with A:=r.A+l.length} C)\/(∃z,kU l r=(z,false)/\Fin r m z):=by
 intro l;induction l with
 |nil=>
  intro i r m hd N _ D E K t A;have:i=d.length:=by have:=congrArg List.length hd;simp at this;omega
  subst this;exact .inl ⟨m,rfl,dF.refl K,t,A⟩
 |cons x l ih=>
  intro i r m hd N hx D E K t A;have n:i<d.length:=by
   by_cases g:i<d.length
   .exact g
   rw[oQ<|by omega]at hd;cases hd
  have o:d.getD i 0=x/\d.drop (i+1)=l:=by
   rw[gB n]at hd;simp only[List.cons.injEq]at hd;exact⟨by simp[List.getD,n,hd.1],hd.2⟩
  have u:x≠13:=(hx x<|by simp).1;have O:Does {k with aW:=(i:Int)} (x.toNat:Int) [] {k with aW:=((i+1:Nat):Int)}:=by
   intro L T a r l c e;rw[CF (k:={k with C:=L,F:=T,A:=a,K:=l,aN:=c,O:=r,j:=e,aW:=(i:Int)}) B f.t f.rp];unfold iC;have F:bP {k with C:=L,F:=T,A:=a,K:=l,aN:=c,O:=r,j:=e,aW:=(i:Int)}=d:=p;rw[F,J<|by show(i:Int)<(d.length:Int);omega,M<|by show ¬((d.getD (i:Int).toNat 0).toNat:Int)≠_;rw[CN,o.1];simp];simp[bM]
  have P:∀b:Int,b≠(x.toNat:Int)->fQ {k with aW:=(i:Int)} b 5:=by
   intro b v L T a r l c e;rw[CF (k:={k with C:=L,F:=T,A:=a,K:=l,aN:=c,O:=r,j:=e,aW:=(i:Int)}) B f.t f.rp];unfold iC;have F:bP {k with C:=L,F:=T,A:=a,K:=l,aN:=c,O:=r,j:=e,aW:=(i:Int)}=d:=p;rw[F,J<|by show(i:Int)<(d.length:Int);omega,J<|by show((d.getD (i:Int).toNat 0).toNat:Int)≠_;rw[CN,o.1];exact λq=>v q.symm]
  unfold kU;by_cases h:r.A<r.s.length
  .rw[J h];by_cases v:r.E r.A=(x.toNat:Int)
   .rw[M<|by simp[v]];have w:r.s.getD r.A 0=x:=by
     unfold R.E at v;exact UInt8.toNat_inj.1 (by omega)
    obtain⟨Q,j,G,H⟩:=kY (X:=[]) h t A (by rwa[w]) (by rwa[w,qI u]) kO;rw[aj1]at j;rcases ih (i+1) {r with A:=r.A+1} Q o.2 (by omega) (λy S=>hx y<|by simp[S]) D E (by have:=j.lt;exact this) G (Rt.of H)with⟨m2,p1,p2,p3,p4⟩|⟨z,p1,p2⟩
    .have I:r.A+(x::l).length=r.A+1+l.length:=by simp;omega
     refine .inl ⟨m2,?_,?_,p3,?_⟩
     .rw[p1,I]
     .rw[I];exact j.trans p2
     rw[I];exact p4
    exact .inr ⟨z,p1,Fin.of j p2⟩
   rw[J<|by simpa using v];refine .inr ⟨_,rfl,f_ h t A (P _ ?_)⟩;by_cases g:r.s.getD r.A 0=13
   .rw[g];intro q;have:x=10:=UInt8.toNat_inj.1 (by have:(10:Int)=(x.toNat:Int):=q;show x.toNat=10;omega);exact(hx x<|by simp).2 this
   rwa[qI g]
  rw[M h];exact .inr ⟨_,rfl,jS (by omega) t D (by rw[E];exact(lU<|by rw[B];decide).symm)⟩
def tl(s:Z)(X:List Ev):Z:={s with C:=(bM (s.C,s.F) X).1,F:=(bM (s.C,s.F) X).2}
def CG(s:Z)(X a:List Ev):tl (tl s X) a=tl s (X++a):=by
 unfold tl;rw[Ky]
def FA(s:Z)(e:Ev)(h:e.kind≠3):Mk.aX s e=tl s [e]:=Fj s e h
def bE(p:U×U):Ev:=⟨6,p.1,[],p.2,[]⟩
def uE(p:U×U):Ev:=⟨7,p.1,[],[],[]⟩
def Uy:∀(l:List (U×U)) (s:Z),gJ s l=tl s (l.map bE)
 |[],s=>rfl
 |p::l,s=>by unfold gJ;rw[FA _ _ (by intro g;cases g),Uy l,CG];rfl
def Uz:∀(l:List (U×U)) (s:Z),iV s l=tl s (l.map uE)
 |[],s=>rfl
 |p::l,s=>by unfold iV;rw[FA _ _ (by intro g;cases g),Uz l,CG];rfl
theorem aiy(s:Z)(X:List Ev):dZ (tl s X)=dZ s:=rfl
def vg(s:Z):Z:={s with f:=[]}
def Li(s:Z)(b:Bool):Z:={s with over:=b}
def Lj(s:Z):bX s=tl (vg s) ((dZ s).map bE++[⟨1,s.B,Mk.bQ s s.B,[],s.f⟩]):=by
 rw[bX,Mk.gK,Uy,FA _ _ (by intro g;cases g),CG];rfl
def UA(s:Z)(n:U):bZ s n=tl (iy (Li (nO s) (decide (s.I.length=0)))) (⟨2,n,Mk.bQ s n,[],[]⟩::(dZ s).reverse.map uE):=by
 rw[bZ,Mk.jb,FA _ _ (by intro g;cases g),aiy,Uz,CG];rfl
def UB{X:List Ev}(h:∀e∈X,e.kind≠3):Pc X:=λe a b=>aj6 b (h e a)
def aiz(l:List (U×U)):∀e∈l.map bE,e.kind≠3:=λe a=>by
 obtain⟨p,_,rfl⟩:=mem_map.1 a;intro g;cases g
def aiA(l:List (U×U)):∀e∈l.map uE,e.kind≠3:=λe a=>by
 obtain⟨p,_,rfl⟩:=mem_map.1 a;intro g;cases g
def FB(b:Bool)(a:List aI):List Ev:=if b then(dA a).map bE else[]
def FC(b:Bool)(a:List aI):List Ev:=if b then(dA a).reverse.map uE else[]
def UC(r:R)(h:r.on=false):∀(l:List aI) (q:R) (told:List aI),(∀a∈l,a.space=[])->jW r l q told=(q,told++l)
 |[],q,told,_=>by simp[jW]
 |a::l,q,told,b=>by
  unfold jW;rw[h];simp only[iL,cK,cE];rw[UC r h l q _ λx hx=>b x<|by simp[hx]];have:(⟨a.B,[],a.val⟩:aI)=a:=by rw[<-b a<|by simp]
  rw[this];simp
def UD{r:R}{aJ:List (U×U)}{c:List Nat}(h:r.on=true)(d:Nm r.P aJ c):∀(l:List aI) (q:R) (told:List aI),(∀a∈l,a.space=[])->(∀a∈l,fC a.B=true)->
 jW r l q told=({q with y:=q.y++(dA l).map bE},told++tw aJ l)
 |[],q,told,_,_=>by
  show(q,told)=_;simp[dA,tw]
 |a::l,q,told,f,g=>by
  have b:=g a (by simp);have ih:=λq told=>UD h d l q told (λx hx=>f x<|by simp[hx]) λx hx=>g x (by simp[hx]);unfold jW;rw[h,(decl_eq b).1,Al];cases hd:jJ a.B with
  |true=>
   simp only[AO,bY];rw[ih,(decl_eq b).2 hd];unfold tw gS;simp[hd,bE]
  |false=>
   simp only[kx,cK,cE,bY];rw[ih];have e:(⟨a.B,Rf.bQ r.P (Rf.iz a.B).1,a.val⟩:aI)=kz aJ a:=by
    have i:=Ld aJ a;rw[<-(Lf d (f a<|by simp) b)];conv=>rhs;rw[show kz aJ a=⟨(kz aJ a).B,(kz aJ a).space,(kz aJ a).val⟩from rfl,i.1,i.2]
   rw[e];unfold tw;simp[hd]
def UE:∀(l:List aI) (q:R),(∀a∈l,fC a.B=true)->rD l q={q with y:=q.y++(dA l).map uE}
 |[],q,_=>by show q=_;simp[dA]
 |a::l,q,c=>by
  have b:=c a (by simp);unfold rD;rw[UE l _ λx hx=>c x<|by simp[hx],(decl_eq b).1,Al];cases hd:jJ a.B with
  |true=>rw[J rfl,(decl_eq b).2 hd];unfold gS;simp[uE]
  |false=>simp
def aiB(l:List aI):dA l.reverse=(dA l).reverse:=by unfold dA;rw[filterMap_reverse]
structure sZ(on:Bool)(tags:List (List aI))(aC:List aI)(B:List (U×U))(C:List Nat)(B' :List (U×U))(C' :List Nat):Prop where
 yes:on=true->B' =B++dA aC/\C' =C++[(dA aC).length]/\Nm (tags++[aC]) B' C'
 no:on=false->B' =B/\C' =C/\C=[]
def FD(b:Bool)(a:List aI):List (U×U):=if b then dA a else[]
def FE(b:Bool)(a:List aI):FB b a=(FD b a).map bE:=by cases b<;>rfl
def Ll(b:Bool)(a:List aI):FC b a=(FD b a).reverse.map uE:=by cases b<;>rfl
def sZ.of{c:Bool}{b:List (List aI)}{a:List aI}{i:List Nat}(h:sZ c b a B C g i){s:Z}(j:s.m=g)(k:s.T=i):dZ s=FD c a/\nO s={s with m:=B,T:=C}:=by
 rw[dZ,nO,Mk.oM,j,k];cases c with
 |true=>
  obtain⟨d,f,_⟩:=h.yes rfl;rw[d,f];have e:((C++[(dA a).length]).getLast?)=some (dA a).length:=by simp
  rw[e];dsimp only;rw[M,bT,ajR,drop_left,take_left,vp];exact⟨rfl,rfl⟩
 |false=>
  obtain⟨d,f,l⟩:=h.no rfl;rw[d,f,l];exact⟨by simp[FD],by simp⟩
def qK(a:Bool)(B:List (U×U))(b:U):U:=if a then lW B (dH b)else[]
def rW(b:Bool)(B:List (U×U))(a:List aI):List aI:=if b then tw B a else a
def ql(b:Bool)(B:List (U×U))(c:U)(a:List aI):List Ev:=FB b a++[⟨1,c,qK b B c,[],rW b B a⟩]
def rA(b:Bool)(B:List (U×U))(c:U)(a:List aI):List Ev:=⟨2,c,qK b B c,[],[]⟩::FC b a
def UF(c:Bool)(B:List (U×U))(d:U)(a:List aI):Pc (ql c B d a):=by
 apply UB;intro e b;unfold ql at b;obtain g|g:=mem_append.1 b
 .rw[FE]at g;exact aiz _ e g
 simp only[oN,qm,uD]at g;subst g;intro q;cases q
def UG(c:Bool)(B:List (U×U))(d:U)(a:List aI):Pc (rA c B d a):=by
 apply UB;intro e b;unfold rA at b;obtain g|g:=mem_cons.1 b
 .subst g;intro q;cases q
 rw[Ll]at g;exact aiA _ e g
def UH{b:U}{a:List aI}{k:List Nat}(h:sZ r.on r.P a B C g k)(f:Raw a)(l:r.on=true->fC b=true):
 dX r b a={r with I:=r.I++[b],P:=r.P++[a],y:=r.y++ql r.on g b a}:=by
 unfold dX Rf.Aq;by_cases c:r.on=true
 .obtain⟨m,n,i⟩:=h.yes c;rw[UD (r:={r with I:=r.I++[b],P:=r.P++[a]}) c i a _ [] f.2 ((i.tg a<|by simp).Lb)];have e:nD {r with I:=r.I++[b],P:=r.P++[a],y:=r.y++(dA a).map bE} b=lW g (dH b):=by
   rw[nD,M<|by show ¬(!r.on)=true;rw[c];decide,i.val,((parts_eq b).2 (l c)).1]
  have j:ql r.on g b a=(dA a).map bE++[⟨1,b,lW g (dH b),[],tw g a⟩]:=by rw[ql,FB,qK,rW,c];rfl
  unfold gS;dsimp only;rw[e,j,ul,jB]
 have d:r.on=false:=by simpa using c
 rw[UC {r with I:=r.I++[b],P:=r.P++[a]} d a _ [] f.2];have e:nD {r with I:=r.I++[b],P:=r.P++[a]} b=[]:=by
  rw[nD,J<|by show(!r.on)=true;rw[d];decide]
 have j:ql r.on g b a=[⟨1,b,[],[],a⟩]:=by rw[ql,FB,qK,rW,d];rfl
 unfold gS;dsimp only;rw[e,j,ul]
def UI{tags:List (List aI)}{B' :List (U×U)}{C' :List Nat}(h:sZ r.on tags aC B C B' C')(d:r.P=tags++[aC])(g:r.I=aG++[nm])(j:r.on=true->fC nm=true):
 mD r nm aC={r with I:=aG,P:=tags,y:=r.y++rA r.on B' nm aC}:=by
 unfold mD Rf.aL;by_cases b:r.on=true
 .obtain⟨l,m,i⟩:=h.yes b;have e:nD r nm=lW B' (dH nm):=by
   rw[nD,M<|by rw[b];decide,d,i.val,((parts_eq nm).2 (j b)).1]
  have f:rA r.on B' nm aC=⟨2,nm,lW B' (dH nm),[],[]⟩::(dA aC).reverse.map uE:=by rw[rA,FC,qK,b];rfl
  rw[e,J b,UE _ _ λa k=>((i.tg aC<|by simp).Lb) a (mem_reverse.1 k),aiB,f];unfold gS;dsimp only;rw[d,g,vp,vp,jB];rfl
 have c:r.on=false:=by simpa using b
 have e:nD r nm=[]:=by rw[nD,J<|by rw[c];decide]
 have f:rA r.on B' nm aC=[⟨2,nm,[],[],[]⟩]:=by rw[rA,FC,qK,c];rfl
 rw[e,M b,f];unfold gS;dsimp only;rw[d,g,vp,vp]
def aiC(C:b=47\/b=62)(p:Gx k nm b)(m:k.f=aC)(q:Raw aC)(t:k.on=r.on)(D:r.on=true->Nm r.P k.m k.T)(u:r.on=false->k.T=[]):
 ((r.on&& !pU r nm aC)=true/\fQ k b 8)\/
 ((r.on&& !pU r nm aC)=false/\(r.on=true->fC nm=true)/\∃v z,sZ r.on r.P aC k.m k.T v z/\
  (b=47->Does k 47 [] {gk k nm with m:=v,T:=z,f:=rW r.on v aC,H:=19})/\
  (b=62->Does k 62 (ql r.on v nm aC) {gk k nm with m:=v,T:=z,f:=[],I:=k.I++[nm],B:=[],H:=1})):=by
 have A:Mk.bJ b=false:=by obtain rfl|rfl:=C<;>decide
 have f:∀s:Z,dR s b=ia s b:=by
  intro s;rw[dR,M<|by simp[A],J<|by obtain rfl|rfl:=C<;>decide]
 have E:¬(k.I++[nm]).length=0:=by simp
 cases w:r.on with
 |true=>
  have h:k.on=true:=t.trans w;have x:∀L T a d l c e,(pU r nm aC=false/\(dY {k with i:=[],G:=0,B:=nm,C:=L,F:=T,A:=a,K:=l,aN:=c,O:=d,j:=e}).2=none)\/_:=λL T a d l c e=>ain (r:=r) (k:={k with i:=[],G:=0,B:=nm,C:=L,F:=T,A:=a,K:=l,aN:=c,O:=d,j:=e}) (nm:=nm) (aC:=aC) (D w) q rfl m;by_cases y:pU r nm aC=true
  .right;have B:∀L T a d l c e,fC nm=true/\dY {k with i:=[],G:=0,B:=nm,C:=L,F:=T,A:=a,K:=l,aN:=c,O:=d,j:=e}=({k with i:=[],G:=0,B:=nm,C:=L,F:=T,A:=a,K:=l,aN:=c,O:=d,j:=e,m:=k.m++dA aC,T:=k.T++[(dA aC).length]},some (tw (k.m++dA aC) aC))/\Tg aC:=by
    intro L T a d l c e;obtain⟨g,_⟩|⟨_,g⟩:=x L T a d l c e
    .rw[y]at g;cases g
    exact g
   obtain⟨F,_,G⟩:=B [] [] 0 false 0 0 0;have i:sZ true r.P aC k.m k.T (k.m++dA aC) (k.T++[(dA aC).length]):=⟨λ_=>⟨rfl,rfl,(D w).push G⟩,λg=>by cases g⟩;refine⟨by simp[y],λ_=>F,_,_,i,λn=>?_,λo=>?_⟩
   .subst n;intro L T a d l c e;rw[p,f];show ia {k with i:=[],G:=0,B:=nm,C:=L,F:=T,A:=a,K:=l,aN:=c,O:=d,j:=e} _=_;rw[ia,J h,(B L T a d l c e).2.1];simp[gL,bM,rW,gk]
   subst o;intro L T a d l c e;rw[p,f];show ia {k with i:=[],G:=0,B:=nm,C:=L,F:=T,A:=a,K:=l,aN:=c,O:=d,j:=e} _=_;rw[ia,J h,(B L T a d l c e).2.1];dsimp only;rw[gL,M,Lj,(i.of (s:={k with i:=[],G:=0,B:=nm,C:=L,F:=T,A:=a,K:=l,aN:=c,O:=d,j:=e,m:=k.m++dA aC,T:=k.T++[(dA aC).length],f:=tw (k.m++dA aC) aC}) rfl rfl).1];have j:Mk.bQ {k with i:=[],G:=0,B:=nm,C:=L,F:=T,A:=a,K:=l,aN:=c,O:=d,j:=e,m:=k.m++dA aC,T:=k.T++[(dA aC).length],f:=tw (k.m++dA aC) aC} nm=qK true (k.m++dA aC) nm:=by
    rw[Mk.bQ,qK,J h];rfl
   unfold iy tl ql;simp only[rW,bY];rw[j,FE];simp[gk,vg]
  .left;refine⟨by simp[y],λL T a d l c e=>?_⟩;rw[p,f];show(ia {k with i:=[],G:=0,B:=nm,C:=L,F:=T,A:=a,K:=l,aN:=c,O:=d,j:=e} _).2=_;rw[ia,J h];obtain⟨_,g⟩|⟨g,_⟩:=x L T a d l c e
   .rw[g]
   .exact aj6 g y
 |false=>
  right;have h:k.on=false:=t.trans w;have i:sZ false r.P aC k.m k.T k.m k.T:=⟨(λg=>by cases g),λ_=>⟨rfl,rfl,u w⟩⟩;refine⟨by simp,(λg=>by cases g),_,_,i,λn=>?_,λo=>?_⟩
  .subst n;intro L T a d l c e;rw[p,f];show ia {k with i:=[],G:=0,B:=nm,C:=L,F:=T,A:=a,K:=l,aN:=c,O:=d,j:=e} _=_;rw[ia,M<|by rw[h];decide];simp[gL,bM,rW,gk,m]
  subst o;intro L T a d l c e;rw[p,f];show ia {k with i:=[],G:=0,B:=nm,C:=L,F:=T,A:=a,K:=l,aN:=c,O:=d,j:=e} _=_;rw[ia,M<|by rw[h];decide];dsimp only;rw[gL,M,Lj,(i.of (s:={k with i:=[],G:=0,B:=nm,C:=L,F:=T,A:=a,K:=l,aN:=c,O:=d,j:=e}) rfl rfl).1];have j:Mk.bQ {k with i:=[],G:=0,B:=nm,C:=L,F:=T,A:=a,K:=l,aN:=c,O:=d,j:=e} nm=qK false k.m nm:=by
   rw[Mk.bQ,qK,M<|by show ¬k.on=true;rw[h];decide];rfl
  unfold iy tl ql;simp only[rW];rw[j,FE,m];simp[gk,vg]
def aiD{f:Bool}{j:List (List aI)}{q:List Nat}(h:sZ f j aC B C g q)(z:k.H=19)(m:k.t=0)(o:aZ k.rp=false)(t:k.on=f)(O:k.m=g)(P:k.T=q)(Q:k.B=nm)(R:k.f=rW f g aC):
 Does k 62 (ql f g nm aC++rA f g nm aC) {k with m:=B,T:=C,f:=[],B:=[],over:=decide (k.I.length=0),H:=if k.I.length=0 then 0 else 1}/\∀b,b≠62->fQ k b 3:=by
 have A:∀s:Z,s.H=19->s.t=0->aZ s.rp=false->∀b,aP s b=jL s b:=by
  intro s E F G b;rw[yt F G (by omega) (by omega) (by omega)];unfold dV;simp[E]
 refine⟨λL T a r l c e=>?_,λb u L T a r l c e=>?_⟩
 .rw[A {k with C:=L,F:=T,A:=a,K:=l,aN:=c,O:=r,j:=e} z m o,jL,M,Lj,UA];obtain⟨S,i⟩:=akb (({k with C:=L,F:=T,A:=a,K:=l,aN:=c,O:=r,j:=e}:Z));have p:S.m=g:=by rwa[<-i]
  have v:S.T=q:=by rwa[<-i]
  have D:=h.of (s:=S) p v;have w:S.B=nm:=by rwa[<-i]
  have x:S.f=rW f g aC:=by rwa[<-i]
  have y:Mk.bQ S nm=qK f g nm:=by
   rw[Mk.bQ,qK,p,show S.on=f by rw[<-i];exact t]
  have H:∀X,dZ (tl (vg S) X)=dZ S:=λ_=>rfl;have I:∀X n,Mk.bQ (tl (vg S) X) n=Mk.bQ S n:=λ_ _=>rfl;have K:∀X,nO (tl (vg S) X)=tl (vg (nO S)) X:=λ_=>rfl;have N:∀d b X,iy (Li (tl (vg d) X) b)=tl (iy (Li (vg d) b)) X:=λ_ _ _=>rfl;rw[i,H,I,K,N,CG,D.1,D.2,w,y,x,<-FE,<-Ll,<-i];rfl
 rw[A {k with C:=L,F:=T,A:=a,K:=l,aN:=c,O:=r,j:=e} z m o,jL,J<|by simpa using u]
def aiE:∀(f k:Nat) (a:R) (t:U),iH r f k=(a,t,true)->∃j,a={r with A:=r.A+j}/\t=seg r r.A (r.A+j)/\r.A+j<=r.s.length:=by
 intro f;induction f with
 |zero=>intro k a t h;unfold iH at h;cases h
 |succ f ih=>
  intro k a t h;unfold iH at h;split at h
  .rename_i b;dsimp only at h;split at h
   .cases h
   split at h
   .simp only[Prod.mk.injEq]at h;exact⟨k,h.1.symm,by rw[<-h.2.1,yg],b⟩
   exact ih (k+1) a t h
  cases h
def aiF{j:Nat}{t:U}(k:r.A<r.s.length)(x:0<j)(h:bF r=({r with A:=r.A+j},t,true))(p:eX c=true)(l:0<=c)(q:dB c=t)(y:r.E r.A≠93):r.E (r.A+j - 1)≠93:=by
 by_cases m:r.E r.A=10\/r.E r.A=13
 .unfold bF at h;rw[J<|by obtain g|g:=m<;>simp[g]]at h;split at h
  .rename_i g;simp only[Prod.mk.injEq,R.mk.injEq]at h;have n:j=2:=by omega
   simp at g;rw[n,show r.A+2 - 1=r.A+1 by omega,g.2];decide
  simp only[Prod.mk.injEq,R.mk.injEq]at h;have d:j=1:=by omega
  rwa[d,show r.A+1 - 1=r.A by omega]
 have e:r.E r.A≠10/\r.E r.A≠13:=⟨λg=>m (.inl g),λg=>m (.inr g)⟩;have z:=h;rw[bF,M<|by simp[e.1,e.2]]at h;obtain⟨u,v,w,A⟩:=aiE _ _ _ _ h;have o:j=u:=by simp only[R.mk.injEq]at v;omega
 subst o;by_cases d:j=1
 .rwa[d,show r.A+1 - 1=r.A by omega]
 have f:=KC p l;rw[q,w,rU r (b:=r.A+1)<|by omega,iS r k]at f;have i:r.s.getD (r.A+j - 1) 0∈seg r (r.A+1) (r.A+j):=by
  rw[rU r (b:=r.A+j - 1) (c:=r.A+j) (by omega) (by omega)];have:=iS r (a:=r.A+j - 1) (by omega);rw[show r.A+j - 1+1=r.A+j by omega]at this;rw[this];simp
 have:=f.2 _ i;intro g;rw[((lT r (r.A+j - 1) 93).1 g)]at this;exact aj6 this
def aiG{d:Bool}{f:List (List aI)}{b:List aI}(h:sZ d f b B C k.m k.T)(y:(k.H=20/\k.aW=(nm.length:Int))\/k.H=21)(g:k.t=0)(i:aZ k.rp=false)(p:k.on=d)(w:k.I=aG++[nm]):
 Does k 62 (rA d k.m nm b) {k with I:=aG,m:=B,T:=C,over:=decide (aG.length=0),H:=if aG.length=0 then 0 else 1}:=by
 intro L T a r l c e;have j:bP {k with C:=L,F:=T,A:=a,K:=l,aN:=c,O:=r,j:=e}=nm:=by
  show k.I.getLastD []=nm;rw[w];simp
 have m:aP {k with C:=L,F:=T,A:=a,K:=l,aN:=c,O:=r,j:=e} 62=(kH {k with C:=L,F:=T,A:=a,K:=l,aN:=c,O:=r,j:=e},0):=by
  obtain⟨q,z⟩|q:=y
  .rw[CF (k:={k with C:=L,F:=T,A:=a,K:=l,aN:=c,O:=r,j:=e}) q g i,iC,j,M<|by show ¬k.aW<(nm.length:Int);omega,M,gh,M,J]
  rw[Lh (k:={k with C:=L,F:=T,A:=a,K:=l,aN:=c,O:=r,j:=e}) q g i,gh,M,J]
 rw[m,kH,j];have t:k.I.dropLast=aG:=by rw[w,vp]
 obtain⟨S,o⟩:=akb (({k with C:=L,F:=T,A:=a,K:=l,aN:=c,O:=r,j:=e,I:=aG}:Z));have e0:({k with C:=L,F:=T,A:=a,K:=l,aN:=c,O:=r,j:=e,I:=k.I.dropLast}:Z)=S:=by rwa[t]
 rw[e0,UA];have n:S.m=k.m:=by rw[<-o]
 have u:S.T=k.T:=by rw[<-o]
 have x:=h.of (s:=S) n u;have v:Mk.bQ S nm=qK d k.m nm:=by
  rw[Mk.bQ,qK,n,show S.on=d by rw[<-o];exact p]
 rw[x.1,x.2,v,<-Ll,<-o];rfl
def aiH(hs:k.H=1)(d:Cl k)(D:k.I=aG++[nm])(W:∀x∈nm,x≠13/\x≠10)(ho:r.I=k.I)(hw:r.whole=false)(X:r.A+1<r.s.length)(a0:r.E r.A=60)(a2:r.E (r.A+1)=47)(hm:Lk k m)(hr:Rt r m):
 (∃a v f,jX r nm=({r with A:=a+1},true)/\dF r m {r with A:=a} v/\Rt {r with A:=a} v/\Lk f v/\a<r.s.length/\r.E a=62/\((f.H=20/\f.aW=(nm.length:Int))\/f.H=21)/\Cl f/\Sa k f/\f.bG=0)
 \/(∃h,jX r nm=(h,false)/\Fin r m h):=by
 have E:0<k.I.length:=by rw[D];simp
 have d1:Does k 60 [] {k with bG:=0,H:=3}:=by
  intro L T a r l c e;rw[aP,M<|by show ¬0<k.t;rw[d.t];decide,d.rp];simp[hs,fw,bM]
 have d2:Does {k with bG:=0,H:=3} 47 [] {k with bG:=0,H:=20,aW:=0}:=by
  intro L T a r l c e;rw[yp (k:={k with C:=L,F:=T,A:=a,K:=l,aN:=c,O:=r,j:=e,bG:=0,H:=3}) rfl d.t d.rp,eG,M,M,J ⟨rfl,E⟩];simp[bM]
 obtain⟨m1,a3,a4,a5⟩:=nM 60 (by omega) hm hr (by decide) (by decide) a0 d1;obtain⟨m2,a6,a7,a8⟩:=nM (r:={r with A:=r.A+1}) 47 X a4 (Rt.of a5) (by decide) (by decide) a2 d2;have o:dF r m {r with A:=r.A+2} m2:=a3.trans a6;have w:bP {k with bG:=0,H:=20}=nm:=by show k.I.getLastD []=nm;rw[D];simp
 have af:({k with bG:=0,H:=20,aW:=(nm.length:Int)}:Z).H≠0:=by intro g;cases g
 unfold jX;dsimp only;rcases aix (k:={k with bG:=0,H:=20}) rfl ⟨d.t,d.rp,d.tk,d.ct,d.hd⟩ w nm 0 {r with A:=r.A+2} m2 rfl (by omega) W ho hw o.lt a7 (Rt.of a8)with⟨m3,q1,q2,q3,q4⟩|⟨h,q1,q2⟩
 .rw[q1];dsimp only;rw[M];have t:=o.trans q2;obtain⟨p,hp⟩:=akb (r.A+2+nm.length);simp only[hp]at t q4⊢;have a9:∀i,({r with A:=p}:R).E i=r.E i:=λ_=>rfl;simp only[a9];by_cases B:p<r.s.length/\dL (r.E p)=true
  .rw[J<|by simp[B.1,B.2]];refine .inr ⟨_,rfl,Fin.of t (f_ (r:={r with A:=p}) B.1 q3 q4 ?_ (by decide))⟩;show fQ {k with bG:=0,H:=20,aW:=(nm.length:Int)} (nb (r.s.getD p 0)) 5;have aa:eD (nb (r.s.getD p 0))=true:=by rw[<-qJ,Fq];exact B.2
   intro L T a h l c e;rw[CF (k:={k with C:=L,F:=T,A:=a,K:=l,aN:=c,O:=h,j:=e,bG:=0,H:=20,aW:=(nm.length:Int)}) rfl d.t d.rp];unfold iC;have e1:bP {k with C:=L,F:=T,A:=a,K:=l,aN:=c,O:=h,j:=e,bG:=0,H:=20,aW:=(nm.length:Int)}=nm:=w;rw[e1,M<|by show ¬(nm.length:Int)<(nm.length:Int);omega,J aa]
  have e0:(decide (p<r.s.length)&&dL (r.E p))=false:=by
   rw[wU];intro g;simp at g;exact B g
  rw[e0,M];have F:∀b:Int,eD b=false->∀L T a h l c e,aP {k with C:=L,F:=T,A:=a,K:=l,aN:=c,O:=h,j:=e,bG:=0,H:=20,aW:=(nm.length:Int)} b=gh {k with C:=L,F:=T,A:=a,K:=l,aN:=c,O:=h,j:=e,bG:=0,H:=20,aW:=(nm.length:Int)} b:=by
   intro b S L T a h l c e;rw[CF (k:={k with C:=L,F:=T,A:=a,K:=l,aN:=c,O:=h,j:=e,bG:=0,H:=20,aW:=(nm.length:Int)}) rfl d.t d.rp];unfold iC;have e1:bP {k with C:=L,F:=T,A:=a,K:=l,aN:=c,O:=h,j:=e,bG:=0,H:=20,aW:=(nm.length:Int)}=nm:=w;rw[e1,M<|by show ¬(nm.length:Int)<(nm.length:Int);omega,M<|by simp[S]]
  have ab:∀b,b=32\/b=9\/b=10->Does {k with bG:=0,H:=20,aW:=(nm.length:Int)} b [] {k with bG:=0,H:=21,aW:=(nm.length:Int)}:=by
   intro b S L T a h l c e;rw[F b<|by obtain rfl|rfl|rfl:=S<;>decide];simp[gh,sW.2 (show b=32\/b=9\/b=10\/b=13 by omega),bM]
  have ad:∀b,b=32\/b=9\/b=10->Does {k with bG:=0,H:=21,aW:=(nm.length:Int)} b [] {k with bG:=0,H:=21,aW:=(nm.length:Int)}:=by
   intro b S L T a h l c e;rw[Lh (k:={k with C:=L,F:=T,A:=a,K:=l,aN:=c,O:=h,j:=e,bG:=0,H:=21,aW:=(nm.length:Int)}) rfl d.t d.rp];simp[gh,sW.2 (show b=32\/b=9\/b=10\/b=13 by omega),bM]
  obtain⟨m4,G,y,H,z⟩:=Ac ab ad _ {r with A:=p} m3 rfl (by have:=t.lt;exact this) q3 q4;have I:aV {r with A:=p}={r with A:=(aV {r with A:=p}).A}:=rfl;obtain⟨a,K⟩:=akb ((aV {r with A:=p}).A);rw[K]at I z;rw[I]at G y⊢;simp only at H;have n:=t.trans G;have N:∀f:Z,Lk f m4->(f.H=20/\f.aW=(nm.length:Int)\/f.H=21)->Cl f->Sa k f->f.bG=0->(a<r.s.length->r.E a≠62->fQ f (nb (r.s.getD a 0)) 3)->
   (∃O v f,bW {r with A:=a} 62=({r with A:=O+1},true)/\dF r m {r with A:=O} v/\Rt {r with A:=O} v/\Lk f v/\O<r.s.length/\r.E O=62/\((f.H=20/\f.aW=(nm.length:Int))\/f.H=21)/\Cl f/\Sa k f/\f.bG=0)\/(∃h,bW {r with A:=a} 62=(h,false)/\Fin r m h):=by
   intro f A C P h3 h4 h5;have ae:f.H≠0:=by
    obtain g|g:=C
    .rw[g.1];decide
    rw[g];decide
   by_cases j:a<r.s.length
   .by_cases u:r.E a=62
    .left;refine⟨a,m4,f,?_,n,y,A,j,u,C,P,h3,h4⟩;rw[bW,J j,J<|by show(r.E a==62)=true;simpa using u]
    right;refine⟨eZ {r with A:=a} 3,?_,Fin.of n (f_ (r:={r with A:=a}) j A y (h5 j u) (by decide))⟩;rw[bW,J j,M<|by show ¬(r.E a==62)=true;simpa using u]
   right;refine⟨{({r with A:=a}:R)with stop:=1},?_,Fin.of n (jS (r:={r with A:=a}) (by have:=n.lt;simp at this;show a=r.s.length;omega) A (by rwa[h3.I]) (by show r.whole=_;rw[hw];exact(lU ae).symm))⟩;rw[bW,M (show ¬({r with A:=a}:R).A<({r with A:=a}:R).s.length from j)]
  obtain⟨g1,g2,g3⟩|⟨g1,g3⟩:=H
  .refine N _ g3 (.inl ⟨rfl,rfl⟩) ⟨d.t,d.rp,d.tk,d.ct,d.hd⟩ ⟨rfl,rfl,rfl,rfl,rfl,rfl,rfl,rfl,rfl⟩ rfl λC P=>?_;have Q:a=p:=by rwa[<-K]
   have n1:eD (nb (r.s.getD a 0))=false:=by
    rw[<-qJ,Fq];cases q:dL ((r.s.getD a 0).toNat:Int)
    .rfl
    exact aj6 ⟨by rwa[<-Q],by rwa[<-Q]⟩ B
   have n2:Mk.bJ (nb (r.s.getD a 0))=false:=by rw[<-Ae,wK];exact z C
   have n3:nb (r.s.getD a 0)≠62:=pO (by decide) P;generalize nb (r.s.getD a 0)=b at *;intro L T a h l c e;rw[F b n1,gh,M<|by simp[n2],M<|by simpa using n3]
  refine N _ g3 (.inr rfl) ⟨d.t,d.rp,d.tk,d.ct,d.hd⟩ ⟨rfl,rfl,rfl,rfl,rfl,rfl,rfl,rfl,rfl⟩ rfl λC P=>?_;have n2:Mk.bJ (nb (r.s.getD a 0))=false:=by rw[<-Ae,wK];exact z C
  have n3:nb (r.s.getD a 0)≠62:=pO (by decide) P;generalize nb (r.s.getD a 0)=b at *;intro L T a h l c e;rw[Lh (k:={k with C:=L,F:=T,A:=a,K:=l,aN:=c,O:=h,j:=e,bG:=0,H:=21,aW:=(nm.length:Int)}) rfl d.t d.rp,gh,M<|by simp[n2],M<|by simpa using n3]
 rw[q1];exact .inr ⟨h,rfl,Fin.of o q2⟩
structure Jb(r:R)(k:Z):Prop where
 cl:Cl k
 I:r.I=k.I
 ov:k.over=false
 od:k.od=r.od
 oa:k.oa=r.oa
 S:k.S=r.S
 on:k.on=r.on
 ats:k.f=[]
 nm:r.on=true->Nm r.P k.m k.T
 off:r.on=false->k.T=[]
 wh:r.whole=false
 dp:(r.I.length:Int)<=r.od
 b2:2<=r.S
 b0:0<=r.oa
def Jb.sa{b:R}{c p:Z}(h:Jb r k)(a:Sa k c)(d:Cl c)(f:dF r m b p)(i:b.I=r.I)(q:b.P=r.P):Jb b c:=by
 obtain⟨j,l,n,e,_⟩:=f.o;refine⟨d,by rw[i,a.I];exact h.I,by rw[a.over];exact h.ov,by rw[a.od,j];exact h.od,by rw[a.oa,l];exact h.oa,by rw[a.S,n];exact h.S,by rw[a.on,e];exact h.on,by rw[a.f];exact h.ats,λg=>?_,λg=>?_,f.wh h.wh,by rw[i,j];exact h.dp,by rw[n];exact h.b2,by rw[l];exact h.b0⟩
 .rw[q,a.m,a.T];exact h.nm (by rwa[<-e])
 rw[a.T];exact h.off (by rwa[<-e])
structure Se(k k' :Z):Prop where
 od:k'.od=k.od
 oa:k'.oa=k.oa
 S:k'.S=k.S
 on:k'.on=k.on
 I:k'.I=k.I
 m:k'.m=k.m
 T:k'.T=k.T
def EOk(r:R)(k m:Z)(x:R×Bool):Prop:=
 (∃a c b,x=(a,true)/\dF {r with A:=r.A+1} m a c/\a.I=r.I/\a.P=r.P/\c.O=false/\Lk b c/\Cl b/\b.H=(if r.I.length=0 then 0 else 1)/\b.over=decide (r.I.length=0)/\Se k b/\b.f=[]/\b.bG=0/\r.A+2<a.A)\/(∃a,x=(a,false)/\Fin {r with A:=r.A+1} m a)
def vh(r:R)(k m:Z)(x:R×Bool):Prop:=
 (∃a c b,x=(a,true)/\dF r m a c/\a.I=r.I/\a.P=r.P/\Rt a c/\Lk b c/\b.H=1/\Jb a b/\b.m=k.m/\b.T=k.T/\a.A+1<r.s.length/\a.E a.A=60/\a.E (a.A+1)=47)\/(∃a,x=(a,false)/\Fin r m a)
def vh.of{r a:R}{k k1 m i:Z}{x:R×Bool}(b:dF r m a i)(j:a.I=r.I)(l:a.P=r.P)(n:k1.m=k.m)(o:k1.T=k.T)(h:vh a k1 i x):vh r k m x:=by
 obtain⟨c,p,q,d,e,t,u,v,w,y,z,A,f,B,g⟩|⟨c,d,e⟩:=h
 .exact .inl ⟨c,p,q,d,b.trans e,t.trans j,u.trans l,v,w,y,z,A.trans n,f.trans o,by rwa[<-b.s],g⟩
 exact .inr ⟨c,d,Fin.of b e⟩
def Br(r:R)(run:Nat)(k:Z):Prop:=
 (k.bG=0\/k.bG=1\/k.bG=2)/\(k.bG=2↔run+2<=r.A/\r.E (r.A - 1)=93/\r.E (r.A - 2)=93)/\(k.bG=0↔¬(run+1<=r.A/\r.E (r.A - 1)=93))
def Br.zero(h:k.bG=0):Br r r.A k:=by
 refine⟨.inl h,?_,?_⟩
 .rw[h];constructor
  .intro g;cases g
  rintro⟨g,_⟩;omega
 rw[h];constructor
 .rintro _ ⟨g,_⟩;omega
 intro _;rfl
def FF(c:k.H=1)(d:k.t=0)(a:aZ k.rp=false)(b:Int):aP k b=fw k b:=by
 rw[aP,M,a];simp[c]
def UJ(d:k.H=12)(a:k.t=0)(c:aZ k.rp=false)(b:Int):aP k b=iP k b:=by
 rw[yt a c (by omega) (by omega) (by omega)];unfold dV;simp[d]
def aiI(i:k.H=12)(f:k.t=0)(g:aZ k.rp=false)(h:eD b=true)(j:k.G+1<=k.S):Does k b [] {k with i:=k.i++[Mk.u8 b],G:=k.G+1}:=by
 intro L T a r l c e;rw[UJ (k:={k with C:=L,F:=T,A:=a,K:=l,aN:=c,O:=r,j:=e}) i f g];have d:bI {k with C:=L,F:=T,A:=a,K:=l,aN:=c,O:=r,j:=e}=false:=by unfold bI;simp[i]
 rw[iP,J h,fS,J (Ag d 1 j),bV,d,uZ (wJ h).1 (wJ h).2];rfl
def aiJ(h:k.H=12)(d:k.t=0)(f:aZ k.rp=false)(i:eD b=true)(j:k.S<k.G+1):fQ k b 7:=by
 intro L T a r l c e;rw[UJ (k:={k with C:=L,F:=T,A:=a,K:=l,aN:=c,O:=r,j:=e}) h d f];have g:bI {k with C:=L,F:=T,A:=a,K:=l,aN:=c,O:=r,j:=e}=false:=by unfold bI;simp[h]
 rw[iP,J i];rw[fS,Cv g 1 j];rfl
def aiK(m:k.H=3)(d:Cl k)(i:k.over=false)(j:dP b=true):
 (k.od<=(k.I.length:Int)->fQ k b 7)/\((k.I.length:Int)<k.od->Does k b [] {k with H:=12,i:=[Mk.u8 b],G:=1}):=by
 have f:b≠33/\b≠63/\b≠47:=by
  refine⟨?_,?_,?_⟩<;>(rintro rfl;exact aj6 j)
 refine⟨λh L T a r l c e=>?_,λh L T a r l c e=>?_⟩
 .rw[yp (k:={k with C:=L,F:=T,A:=a,K:=l,aN:=c,O:=r,j:=e}) m d.t d.rp,eG,M<|by simpa using f.1,M<|by simpa using f.2.1,M λg=>f.2.2 g.1,J<|by simp[j,i],mg,J h]
 rw[yp (k:={k with C:=L,F:=T,A:=a,K:=l,aN:=c,O:=r,j:=e}) m d.t d.rp,eG,M<|by simpa using f.1,M<|by simpa using f.2.1,M λg=>f.2.2 g.1,J<|by simp[j,i],mg,M (show ¬k.od<=(k.I.length:Int) by omega)];unfold bV bI;simp[uZ (Fp j).1 (Fp j).2,d.tk,d.ct,bM]
def aiL{a b:Nat}(h:∀j,j<b - a->dL (r.E (a+j))=true)(f:b<=r.s.length):∀x∈seg r a b,x≠13/\x≠10:=by
 intro x hx;unfold seg at hx;obtain⟨i,e,c⟩:=getElem_of_mem hx;simp at e;have d:=h i (by omega);have:r.s.getD (a+i) 0=x:=by
  rw[<-c];simp[List.getD,show a+i<r.s.length by omega]
 rw[R.E,this]at d;refine⟨?_,?_⟩<;>(rintro rfl;exact aj6 d)
def aiM(a:r.A<r.s.length)(b:r.E r.A=c):bW r c=({r with A:=r.A+1},true):=by rw[bW,J a,J<|by simpa using b]
def aiN(a:r.A<r.s.length)(b:r.E r.A≠c):bW r c=(eZ r 3,false):=by rw[bW,J a,M<|by simpa using b]
def aiO(a:¬r.A<r.s.length):bW r c=({r with stop:=1},false):=by rw[bW,M a]
def UK(f:Nat)(hC:∀(r:R) (k m:Z) (run:Nat),k.H=1->k.I≠[]->Jb r k->Br r run k->run<=r.A->r.A<=r.s.length->r.s.length<r.A+f->Lk k m->Rt r m->vh r k m (Rf.dK f r run))
 (r:R) (k m:Z) (hs:k.H=3) (b7:k.bG=0) (d:Jb r k) (a2:r.A+1<r.s.length) (y:Rf.fq (r.E (r.A+1))=true) (hf:r.s.length<r.A+(f+1)+1) (hm:Lk k m) (hr:Rt {r with A:=r.A+1} m):
 EOk r k m (je (f+1) r):=by
 have ai:dP (r.E (r.A+1))=true:=by rwa[<-letter_eq]
 have a3:r.E (r.A+1)≠13:=by intro g;rw[g]at y;exact aj6 y
 obtain⟨B1,B2⟩:=aiK hs d.cl d.ov ai;unfold je;by_cases z:(r.I.length:Int)=r.od
 .rw[J<|by simpa using z];refine .inr ⟨_,rfl,f_ (r:={r with A:=r.A+1}) a2 hm hr ?_ (by decide)⟩;show fQ k (nb (r.s.getD (r.A+1) 0)) 7;rw[fo a3];exact B1 (by rw[d.od,<-d.I,z];exact vq _)
 rw[M<|by simpa using z];have b8:=d.dp;rcases TP (r:={r with A:=r.A+1}) (k0:=k) (k:={k with H:=12}) a2 y d.S (by have:=d.b2;show 1<=r.S;omega) (B2<|by rw[d.od,<-d.I];omega)
  (λt n b hn hb hc=>aiI (k:={k with H:=12,i:=t,G:=n}) rfl d.cl.t d.cl.rp (by rwa[<-qJ]) hc)
  (λt b hb=>aiJ (k:={k with H:=12,i:=t,G:=k.S}) rfl d.cl.t d.cl.rp (by rwa[<-qJ]) (by show k.S<k.S+1;omega)) hm hr d.I d.wh (by intro g;cases g)with⟨m1,q,e1,ha1,hr1,hm1,hq,hlt1,aj,hqo,hrun⟩|⟨r', t,e1,hF⟩
 .rw[e1];dsimp only;rw[M];obtain⟨nm,a4⟩:=akb (seg {r with A:=r.A+1} (r.A+1) (r.A+1+q));have a5:∀x∈nm,x≠13/\x≠10:=by
   rw[<-a4];refine aiL (λj hj=>?_) (by show r.A+1+q<=r.s.length;exact LC hlt1);exact run_in (p:=dL) (r:={r with A:=r.A+1}) j (r.A+1) (by rw[hrun];omega)
  simp only[a4]at hm1⊢;unfold Rf.lX;rcases aie nm (r.s.length+1) {r with A:=r.A+1+q} {k with H:=12,i:=nm,G:=(q:Int)} m1 [] (.inl ⟨rfl,rfl,λ_=>aj⟩) d.cl.t d.cl.rp d.cl.hd d.ats (by show((0:Nat):Int)<=r.oa;have:=d.b0;omega) d.oa d.S d.b2 d.I d.wh (by have:=ha1.lt;exact this) (by show r.s.length<r.A+1+q+(r.s.length+1);omega) hm1 hr1 ⟨by simp,λa ha=>by cases ha⟩with⟨a,l,m2,k2,e2,hle2,ha2,hr2,hm2,hsw,Lm,Lp,UL,aiP,hlt2,hbb,hG,ajJ,hraw,ajK⟩|⟨r', e2,hF⟩
  .rw[e2];dsimp only;rw[M];have A:=ha1.trans ha2;have ak:r.on=true->Nm r.P k2.m k2.T:=λg=>by rw[hsw.m,hsw.T];exact d.nm g
   have a6:r.on=false->k2.T=[]:=λg=>by rw[hsw.T];exact d.off g
   have D:k2.on=r.on:=by rw[hsw.on];exact d.on
   have v:k2.I=r.I:=by rw[hsw.I];exact d.I.symm
   have a7:pU {r with A:=a} nm l=pU r nm l:=rfl;have T:({r with A:=a}:R).E a=r.E a:=rfl;have W:r.E a≠13:=by intro g;have g2:r.E a=47\/r.E a=62:=hbb;omega
   have b6:r.A+1+q<=a:=hle2;obtain⟨t1,t2⟩|⟨t1,tq,B', C', hO,al,am⟩:=aiC (r:=r) (b:=r.E a) hbb hG aiP hraw D ak a6
   .rw[a7,J t1];refine .inr ⟨_,rfl,Fin.of A (f_ (r:={r with A:=a}) hlt2 hm2 hr2 ?_ (by decide))⟩;show fQ k2 (nb (r.s.getD a 0)) 8;rwa[(fo W)]
   rw[a7,t1,M,T];by_cases H:r.E a=47
   .rw[J<|by simp[H]];obtain⟨m3,X,a9,I⟩:=nM (r:={r with A:=a}) 47 hlt2 hm2 hr2 (by decide) (by decide) H (al H);have w:=A.trans X;obtain⟨S1,S2⟩:=aiD (k:={k2 with i:=[],G:=0,B:=nm,m:=B', T:=C', f:=rW r.on B' l,H:=19}) (nm:=nm) hO rfl Lm Lp D rfl rfl rfl rfl;have E:Lk {k2 with i:=[],G:=0,B:=nm,m:=B', T:=C', f:=rW r.on B' l,H:=19} m3:=a9;by_cases h:a+1<r.s.length
    .by_cases i:r.E (a+1)=62
     .rw[aiM (r:={r with A:=a+1}) h i];dsimp only;rw[J rfl];obtain⟨m4,an,ao,ap⟩:=wL (r:={r with A:=a+1}) (c:=62) h E (Rt.of I) (by decide) (by decide) i S1 (Fg (UF _ _ _ _) (UG _ _ _ _));have e5:mD (dX {r with A:=a+1+1} nm l) nm l={r with A:=a+1+1,y:=r.y++(ql r.on B' nm l++rA r.on B' nm l)}:=by
       rw[UH (r:={r with A:=a+1+1}) hO hraw tq,UI (r:={r with A:=a+1+1,I:=r.I++[nm],P:=r.P++[l],y:=r.y++ql r.on B' nm l}) hO rfl rfl tq];show({r with A:=a+1+1,y:=r.y++ql r.on B' nm l++rA r.on B' nm l}:R)=_;rw[jB]
      rw[e5];have N:k2.I.length=r.I.length:=by rw[v]
      refine .inl ⟨_,m4,_,rfl,w.trans an,rfl,rfl,ap,ao,⟨Lm,Lp,rfl,rfl,UL⟩,by show(if k2.I.length=0 then(0:Int)else 1)=_;rw[N],by show decide (k2.I.length=0)=_;rw[N],⟨hsw.od,hsw.oa,hsw.S,hsw.on,hsw.I,hsw.m,hsw.T⟩,rfl,by show k2.bG=0;rwa[hsw.br],by show r.A+2<a+1+1;omega⟩
     rw[aiN (r:={r with A:=a+1}) h i];refine .inr ⟨_,rfl,Fin.of w (f_ (r:={r with A:=a+1}) h E (Rt.of I) (S2 _ (pO (by decide) i)) (by decide))⟩
    rw[aiO (r:={r with A:=a+1}) h];refine .inr ⟨_,rfl,Fin.of w (jS (r:={r with A:=a+1}) (by have:=w.lt;simp at this;show a+1=r.s.length;omega) E (by show r.I=k2.I;exact v.symm) (by show r.whole=_;rw[d.wh];exact(lU<|by intro g;cases g).symm))⟩
   have i:r.E a=62:=by obtain g|g:=hbb;exact aj6 g H;exact g
   rw[M<|by simp[i]];obtain⟨m3,X,a9,I⟩:=wL (r:={r with A:=a}) (c:=62) hlt2 hm2 hr2 (by decide) (by decide) i (am i) (UF _ _ _ _);rw[(UH (r:={r with A:=a+1}) hO hraw tq)];obtain⟨K,e⟩:=akb (({r with A:=a+1,I:=r.I++[nm],P:=r.P++[l],y:=r.y++ql r.on B' nm l}:R));obtain⟨K6,u⟩:=akb (({k2 with i:=[],G:=0,m:=B', T:=C', f:=[],I:=k2.I++[nm],B:=[],H:=1}:Z));have aq:Lk K6 m3:=by rwa[<-u]
   have a0:dF {r with A:=r.A+1} m K m3:=by
    have:=A.trans X;rw[<-e];exact⟨this.s,this.o,this.wh,this.le,this.lt,this.aU,this.ev,this.Ab⟩
   have ar:Jb K K6:=by
    rw[<-e,<-u];refine⟨⟨Lm,Lp,rfl,rfl,UL⟩,by rw[v],by rw[hsw.over];exact d.ov,by rw[hsw.od];exact d.od,by rw[hsw.oa];exact d.oa,by rw[hsw.S];exact d.S,D,rfl,λg=>(hO.yes g).2.2,λg=>by have:=hO.no g;show C' =[];rw[this.2.1];exact this.2.2,d.wh,by show((r.I++[nm]).length:Int)<=r.od;simp;omega,d.b2,d.b0⟩
   have aa:K6.I=r.I++[nm]:=by rw[<-u];show k2.I++[nm]=_;rw[v]
   have O:K.A=a+1:=by rw[<-e]
   have L:K.s=r.s:=by rw[<-e]
   have ab:K.I=r.I++[nm]:=by rw[<-e]
   have au:K.P=r.P++[l]:=by rw[<-e]
   have P:K.on=r.on:=by rw[<-e]
   have ad:K6.bG=0:=by rw[<-u];show k2.bG=0;rwa[hsw.br]
   have F:K6.m=B' :=by rw[<-u]
   have a1:K6.T=C' :=by rw[<-u]
   rw[e];obtain⟨r7,m7,k7,c1,c2,c3,c4,c5,c6,c7,c8,c9,c10,c11,c12,c13⟩|⟨r', c1,c2⟩:=hC K K6 m3 K.A (by rw[<-u]) (by rw[aa];simp) ar (Br.zero ad) (a_ _) (by have:=a0.lt;rwa[L]) (by rw[L,O];omega) aq (Rt.of I)
   .rw[c1];dsimp only;rw[M];have ae:=a0.trans c2;have af:k7.I=r.I++[nm]:=by rw[<-c8.I,c3,ab]
    have av:r7.s=r.s:=by rw[c2.s,L]
    obtain⟨a8,m8,k8,p1,p2,p3,p4,p5,p6,p7,p8,p9,wM⟩|⟨r', p1,p2⟩:=aiH (nm:=nm) (aG:=r.I) c7 c8.cl af a5 c8.I c8.wh (by rw[av];rw[L]at c11;exact c11) c12 c13 c6 c5
    .rw[p1];dsimp only;rw[M];have aw:sZ r.on r.P l k2.m k2.T k8.m k8.T:=by rwa[p9.m,p9.T,c9,c10,F,a1]
     have Q:k8.on=r.on:=by rw[p9.on,c8.on,c2.o.2.2.2.1,P]
     have ax:k8.I=r.I++[nm]:=by rw[p9.I,af]
     have b9:k8.m=B' :=by rw[p9.m,c9,F]
     obtain⟨m9,ay,az,b1⟩:=wL (r:={r7 with A:=a8}) (c:=62) (by exact p5) p4 p3 (by decide) (by decide) p6 (aiG (nm:=nm) aw p7 p8.t p8.rp Q ax) (UG _ _ _ _);have b3:r7.P=r.P++[l]:=by rw[c4,au]
     have ag:r7.I=r.I++[nm]:=by rw[c3,ab]
     have G:r7.on=r.on:=by rw[c2.o.2.2.2.1,P]
     have e9:=UI (r:={r7 with A:=a8+1}) (nm:=nm) (aC:=l) (tags:=r.P) (aG:=r.I) (B' :=k8.m) (C' :=k8.T) (B:=k2.m) (C:=k2.T) (by rwa[G]) b3 ag (by intro g;exact tq (by rwa[<-G]));rw[e9];have ah:dF {r with A:=r.A+1} m {r7 with A:=a8+1,I:=r.I,P:=r.P,y:=r7.y++rA r7.on k8.m nm l} m9:=by
      have S:=(ae.trans p2).trans ay;exact⟨S.s,S.o,S.wh,S.le,S.lt,S.aU,by rw[G];exact S.ev,S.Ab⟩
     have b4:=p2.le;have b5:=c2.le;refine .inl ⟨_,m9,_,rfl,ah,rfl,rfl,b1,az,⟨p8.t,p8.rp,p8.tk,p8.ct,p8.hd⟩,rfl,rfl,⟨?_,?_,?_,?_,d.I,hsw.m,hsw.T⟩,?_,wM,?_⟩
     .show k8.od=k.od;rw[p9.od,c8.od,c2.o.1,<-e];exact d.od.symm
     .show k8.oa=k.oa;rw[p9.oa,c8.oa,c2.o.2.1,<-e];exact d.oa.symm
     .show k8.S=k.S;rw[p9.S,c8.S,c2.o.2.2.1,<-e];exact d.S.symm
     .show k8.on=k.on;rw[Q];exact d.on.symm
     .show k8.f=[];rw[p9.f];exact c8.ats
     show r.A+2<a8+1;simp at b4;rw[O]at b5;omega
    rw[p1];dsimp only;rw[J];exact .inr ⟨r', rfl,Fin.of ae p2⟩
   rw[c1];dsimp only;rw[J];exact .inr ⟨r', rfl,Fin.of a0 c2⟩
  rw[e2];dsimp only;rw[J];exact .inr ⟨r', rfl,Fin.of ha1 hF⟩
 rw[e1];dsimp only;rw[J];exact .inr ⟨r', rfl,hF⟩
