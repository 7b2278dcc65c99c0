import Derived.Test.YtmgfijllcdadgaaGreatDoorUW10
set_option linter.all false
namespace Go.Proofs.YtmgfijllcdadgaaGreatDoor
open List
open Mk
variable {b p c:Int}{n:U}{s s1:Z}
def iQ(a:0<=b:=by omega)(c:b<=255:=by omega):((Mk.u8 b).toNat:Int)=b:=by
 rw[Mk.u8,CZ];omega
def acL{t:Int}(a:8<=t)(h:eD b=true):qV t ([]++[Mk.u8 b]):=by
 have:=uf h;refine⟨λx hx=>?_,by simp;omega⟩;simp at hx;subst hx;rwa[iQ this.1<|by omega]
def acM{t:Int}(a:qV t n)(c:(n.length:Int)+1<=t)(h:eD b=true):qV t (n++[Mk.u8 b]):=by
 refine⟨λx hx=>?_,by simp;omega⟩;obtain hx|hx:=mem_append.1 hx
 .exact a.1 x hx
 have:=uf h;simp at hx;subst hx;rwa[iQ this.1<|by omega]
def acN(h:dP b=true):eD b=true:=by rw[eD,h];rfl
def acO(h:Wq s)(n:s.H=3)(b:Int)(a:(eG s b).2=0):W (eG s b).1:=by
 have i:s.D=[]:=h.hs.none;have c:=h.zzt;have j:=h.jv (by omega);have k:s.over=true->s.I=[]:=λg=>(h.ov g).1;unfold eG at a⊢;split at a
 .rename_i g;rw[J g];exact(oI h i c j 4 (by omega) (by omega) (by omega) k s.aW).toW
 rename_i g;rw[M g];split at a
 .rename_i l;rw[J l];exact(oI h i c j 8 (by omega) (by omega) (by omega) k s.aW).toW
 rename_i l;rw[M l];split at a
 .rename_i f;rw[J f];have o:s.I≠[]:=λe=>by rw[e]at f;simp at f
  exact(oI h i c j 20 (by omega) (by omega) (λ_=>o) k 0 (by omega) λ_=>⟨by omega,by omega⟩).toW
 rename_i f;rw[M f];split at a
 .rename_i d;rw[J d];have d:dP b=true/\s.over=false:=by simpa using d
  unfold Mk.mg at a⊢;split at a
  .simp at a
  rename_i p;rw[M p];have m:bI {s with H:=12}=false:=rfl;rw[pK m,sO b (EE d.1).2]
  exact{h with
   st:=⟨by dsimp only;omega,by dsimp only;omega⟩
   o0:=λg=>by exfalso;have g:(12:Int)=0:=g;omega
   o1:=λg=>by exfalso;have g:(12:Int)=1\/(12:Int)=2\/(12:Int)=6\/(12:Int)=20\/(12:Int)=21:=g;omega
   ov:=λg=>by have g:s.over=true:=g;rw[d.2]at g;cases g
   t:=λg=>by have g:0<s.t:=g;have:=h.q;omega
   rf:=λg=>aj6 (h.r.symm.trans g) (by decide)
   hs:=.inl i
   m6:=λg=>by exfalso;have g:(12:Int)=6:=g;omega
   rQ:=λg=>by exfalso;have g:(12:Int)=20:=g;omega
   tk:=λ_ _ _ g _ _=>aj6 rfl g
   c8:=λ_=>by show s.G+1=((s.i++[_]).length:Int);rw[c.1,c.2];rfl
   lN:=λg=>by exfalso;have g:(12:Int)=14:=g;omega
   uS:=λg=>by exfalso;have g:(12:Int)=17:=g;omega
   jv:=λ_=>j
   mZ:=λ_=>by show qV s.S (s.i++[Mk.u8 b]);rw[c.1];exact acL h.bd.2.1 (acN d.1)
   qd:=λg=>by exfalso;have g:(13:Int)<=12:=g;omega
   pJ:=λ_ _=>by show(s.I.length:Int)<s.od;omega}
 simp at a
def acP(h:Wq s)(k:s.H=4)(b:Int)(a:(gF s b).2=0):W (gF s b).1:=by
 have d:s.D=[]:=h.hs.none;have f:=h.zzt;have i:=h.jv (by omega);have j:s.over=true->s.I=[]:=λg=>(h.ov g).1;unfold gF at a⊢;split at a
 .rename_i g;rw[J g];exact(oI h d f i 5 (by omega) (by omega) (by omega) j s.aW).toW
 rename_i g;rw[M g];split at a
 .rename_i c;rw[J c];have l:s.I≠[]:=λe=>by rw[e]at c;simp at c
  exact(oI h d f i 6 (by omega) (by omega) (λ_=>l) j 0).toW
 simp at a
def acQ(h:Wq s)(c:s.H=5)(b:Int)(a:(iO s b).2=0):W (iO s b).1:=by
 unfold iO at a⊢;split at a
 .rename_i g;rw[J g];exact(oI h (h.hs.none) (h.zzt) (h.jv<|by omega) 7 (by omega) (by omega) (by omega) (λg=>(h.ov g).1) s.aW).toW
 simp at a
def acR(h:Wq s)(a:s.H=6)(b:Int)(c:(dQ s b).2=0):W (dQ s b).1:=by
 have e:s.D=[]:=h.hs.none;have f:=h.zzt;have i:=h.jv (by omega);have j:=h.o1 (by omega);have k:=h.m6 a;unfold dQ at c⊢;split at c
 .simp at c
 rename_i g;rw[M g];split at c
 .rename_i d;rw[J d];exact(oI h e f i 2 (by omega) (by omega) (λ_=>j) (λg=>(h.ov g).1) (s.aW+1)).toW
 rename_i d;rw[M d];have:=(oI h e f i 6 (by omega) (by omega) (λ_=>j) (λg=>(h.ov g).1) (s.aW+1)).toW;rwa[<-a]at this
def acS(h:Wq s)(a:s.H=9)(b:Int)(c:(jD s b).2=0):W (jD s b).1:=by
 unfold jD at c⊢;split at c
 .rename_i g;rw[J g];exact(QA h (.inl a)).toW
 simp at c
def zK(h:Wq s)(f:s.D=[])(i:s.over=false)(st:Int)(j:13<=st/\st<=19)(k:st≠14->st≠17->s.i=[]/\s.G=0)(b:st≠14)(a:Int)(c:st=17->a=34\/a=39)(l:qV s.S s.B)(d:(s.I.length:Int)<s.od)(e:0<=a/\a<=255):
 Wq {s with H:=st,aj2:=a}:=
 {h with
  st:=⟨by dsimp only;omega,by dsimp only;omega⟩
  o0:=λg=>by exfalso;have g:st=0:=g;omega
  o1:=λg=>by exfalso;have g:st=1\/st=2\/st=6\/st=20\/st=21:=g;omega
  ov:=λg=>by have g:s.over=true:=g;rw[i]at g;cases g
  t:=λg=>by have g:0<s.t:=g;have:=h.q;omega
  rf:=λg=>aj6 (h.r.symm.trans g) (by decide)
  hs:=.inl f
  m6:=λg=>by exfalso;have g:st=6:=g;omega
  rQ:=λg=>by exfalso;have g:st=20:=g;omega
  tk:=λ_ _ _ _ m n=>k m n
  c8:=λg=>by exfalso;have g:st=8\/st=12\/st=14:=g;omega
  lN:=λg=>aj6 g b
  uS:=c
  jv:=λg=>aj6 j g
  mZ:=λg=>by exfalso;have g:st=12:=g;omega
  qd:=λ_ _=>l
  pJ:=λ_ _=>d
  q0:=e}
def QC(h:Wq s)(a:s.H≠14):Wq (Mk.bX s):=by
 rw[oW];exact{h with lN:=λg=>aj6 g a,jv:=λ_=>rfl}
def QD(h:Wq s)(f:s.D=[])(i:s.i=[]/\s.G=0)(l:qV s.S s.B)(c:(s.I.length:Int)<s.od)(j:s.over=false)(d:s.H≠14)(b:Int):Wq (gL s b):=by
 unfold gL;split
 .exact zK h f j 19 (by omega) (λ_ _=>i) (by omega) s.aj2 (by omega) l c h.q0
 have e:=oW s;rw[e];have k:=QC h d;rw[e]at k;have m:((s.I++[s.B]).length=0)=False:=by simp
 rw[iy,M]
 exact{k with
  st:=⟨by dsimp only;omega,by dsimp only;omega⟩
  o0:=λg=>by exfalso;have g:(1:Int)=0:=g;omega
  o1:=λg=>by simp
  ov:=λg=>by have g:s.over=true:=g;rw[j]at g;cases g
  t:=λg=>by have g:0<s.t:=g;have:=h.q;omega
  rf:=λg=>aj6 (h.r.symm.trans g) (by decide)
  hs:=.inl f
  m6:=λg=>by exfalso;have g:(1:Int)=6:=g;omega
  rQ:=λg=>by exfalso;have g:(1:Int)=20:=g;omega
  tk:=λ_ _ _ _ _ _=>i
  c8:=λg=>by exfalso;have g:(1:Int)=8\/(1:Int)=12\/(1:Int)=14:=g;omega
  lN:=λg=>by exfalso;have g:(1:Int)=14:=g;omega
  uS:=λg=>by exfalso;have g:(1:Int)=17:=g;omega
  jv:=λ_=>rfl
  xP:=λn a=>by
   obtain a|a:=mem_append.1 a
   .exact h.xP n a
   rwa[mem_singleton.1 a]
  mZ:=λg=>by exfalso;have g:(1:Int)=12:=g;omega
  qd:=λg=>by exfalso;have g:(13:Int)<=1:=g;omega
  dp:=by show((s.I++[s.B]).length:Int)<=s.od;simp;omega
  pJ:=λg=>by exfalso;have g:(12:Int)<=1:=g;omega}
def acT(s:Z):∃b c,(Mk.dY s).1={s with m:=b,T:=c}:=by
 obtain h|h:=Mw s
 .exact⟨s.m,s.T,h⟩
 exact⟨_,_,h.trans (Bb s).1⟩
def acU(h:Wq s)(f:s.D=[])(i:s.i=[]/\s.G=0)(j:qV s.S s.B)(a:(s.I.length:Int)<s.od)(k:s.over=false)(m:s.H=12\/s.H=13\/s.H=18)(n:13<=s.H\/s.f=[])(b:Int)(c:(ia s b).2=0):W (ia s b).1:=by
 unfold ia at c⊢;split at c
 .rename_i g;rw[J g];split at c
  .simp at c
  rename_i l o;obtain⟨p,q,r⟩:=acT s;rw[r];have d:s.f=[]->l=[]:=by
   intro e;have:=(Gq o).2;rw[e]at this;simpa[Mk.mR]using this.symm
  have t:Wq {s with m:=p,T:=q,f:=l}:={h with
   lN:=λg=>by exfalso;have g:s.H=14:=g;omega
   jv:=λg=>d (h.jv g)}
  exact(QD t f i j a k (by show s.H≠14;omega) b).toW
 rename_i g;rw[M g];exact(QD h f i j a k (by omega) b).toW
def Jl(h:Wq s)(e:s.D=[])(f:s.i=[]/\s.G=0)(i:qV s.S s.B)(a:(s.I.length:Int)<s.od)(j:s.over=false)(d:s.H=12\/s.H=13\/s.H=18)(b:Int)(c:(dR s b).2=0):W (dR s b).1:=by
 unfold dR at c⊢;split at c
 .rename_i g;rw[J g];exact(zK h e j 13 (by omega) (λ_ _=>f) (by omega) s.aj2 (by omega) i a h.q0).toW
 rename_i g;rw[M g];split at c
 .rename_i k;rw[J k];exact acU h e f i a j d (by by_cases q:13<=s.H;exact .inl q;exact .inr (h.jv<|by omega)) b c
 simp at c
def xQ(h:W s)(a:12<=s.H/\s.H<=19):s.over=false:=by
 cases e:s.over
 .rfl
 exact aj6 a (h.ov e).2
def acV(h:Wq s)(a:s.H=12)(b:Int)(c:(iP s b).2=0):W (iP s b).1:=by
 have e:bI s=false:=by unfold bI;simp[a]
 have i:s.D=[]:=h.hs.none;have j:=xQ h.toW (by omega);unfold iP at c⊢;split at c
 .rename_i d;rw[J d];unfold fS at c⊢;split at c
  .rename_i f;rw[J f,pK e,sO b (uf d).2]
   exact{h with
    tk:=λl m n k o p=>aj6 a k
    c8:=λ_=>by have:=h.c8 (.inr (.inl a));show s.G+1=((s.i++[_]).length:Int);simp;omega
    lN:=λg=>by exfalso;have g:s.H=14:=g;omega
    mZ:=λ_=>acM (h.mZ a) (by show(s.i.length:Int)+1<=s.S;have:=h.c8 (.inr (.inl a));rw[gb,e]at f;simp at f;omega) d}
  simp at c
 rename_i d;rw[M d];exact Jl (BN (zI h i<|by omega) s.i λq d=>h.mZ a) i ⟨rfl,rfl⟩ (h.mZ a) (h.pJ (by omega) (by omega)) j (.inl a) b c
def acW(h:Wq s)(i:s.H=13)(b:Int)(a:(gV s b).2=0):W (gV s b).1:=by
 have e:s.D=[]:=h.hs.none;have f:=xQ h.toW (by omega);have c:=h.zzt;unfold gV at a⊢;split at a
 .rename_i g;rw[J g];exact Jl h e c (h.qd (by omega) (by omega)) (h.pJ (by omega) (by omega)) f (by omega) b a
 rename_i g;rw[M g];split at a
 .simp at a
 rename_i j;rw[M j];have d:bI {s with H:=14}=false:=rfl;have g:dP b=true:=by simpa using g
 rw[pK d,sO b (EE g).2]
 exact{h with
  st:=⟨by dsimp only;omega,by dsimp only;omega⟩
  o0:=λg=>by exfalso;have g:(14:Int)=0:=g;omega
  o1:=λg=>by exfalso;have g:(14:Int)=1\/(14:Int)=2\/(14:Int)=6\/(14:Int)=20\/(14:Int)=21:=g;omega
  ov:=λg=>by have g:s.over=true:=g;rw[f]at g;cases g
  t:=λg=>by have g:0<s.t:=g;have:=h.q;omega
  rf:=λg=>aj6 (h.r.symm.trans g) (by decide)
  hs:=.inl e
  m6:=λg=>by exfalso;have g:(14:Int)=6:=g;omega
  rQ:=λg=>by exfalso;have g:(14:Int)=20:=g;omega
  tk:=λ_ _ _ _ g _=>aj6 rfl g
  c8:=λ_=>by show s.G+1=((s.i++[_]).length:Int);rw[c.1,c.2];rfl
  lN:=λ_=>⟨λ_=>by show s.G+1+1<=s.S;have:=h.bd;omega,by show(s.f.length:Int)<s.oa;omega⟩
  uS:=λg=>by exfalso;have g:(14:Int)=17:=g;omega
  jv:=λg=>aj6 ⟨by dsimp only;omega,by dsimp only;omega⟩ g
  mZ:=λg=>by exfalso;have g:(14:Int)=12:=g;omega
  qd:=λ_ _=>h.qd (by omega) (by omega)
  pJ:=λ_ _=>h.pJ (by omega) (by omega)}
def QE(h:Wq s)(c:s.D=[])(d:s.i=[]/\s.G=0)(f:14<=s.H/\s.H<=15)(b:Int)(a:(fI s b).2=0):W (fI s b).1:=by
 have e:=xQ h.toW (by omega);unfold fI at a⊢;split at a
 .rename_i g;rw[J g];exact(zK h c e 15 (by omega) (λ_ _=>d) (by omega) s.aj2 (by omega) (h.qd (by omega) (by omega)) (h.pJ (by omega) (by omega)) h.q0).toW
 rename_i g;rw[M g];split at a
 .rename_i i;rw[J i];exact(zK h c e 16 (by omega) (λ_ _=>d) (by omega) s.aj2 (by omega) (h.qd (by omega) (by omega)) (h.pJ (by omega) (by omega)) h.q0).toW
 simp at a
def acX(h:Wq s)(c:s.H=14)(b:Int)(a:(fU s b).2=0):W (fU s b).1:=by
 have d:bI s=false:=by unfold bI;simp[c]
 have l:=xQ h.toW (by omega);have f:=h.lN c;unfold fU at a⊢;split at a
 .rename_i g;rw[J g];unfold Mk.mh at a⊢;split at a
  .rename_i j;rw[J j];split at a
   .simp at a
   rename_i i;rw[M i];rw[pK d,sO b (uf g).2]at i⊢
   exact{h with
    mZ:=λg=>by exfalso;have g:s.H=12:=g;omega
    tk:=λ_ _ _ _ g _=>aj6 c g
    c8:=λ_=>by have:=h.c8 (.inr (.inr c));show s.G+1=((s.i++[_]).length:Int);simp;omega
    lN:=λ_=>⟨λk=>by
     have e:gb {s with i:=s.i++[Mk.u8 b],G:=s.G+1} 1=true:=by
      cases e:gb {s with i:=s.i++[Mk.u8 b],G:=s.G+1} 1
      .exact aj6 (by rw[e];simpa using k) i
      rfl
     rw[gb,show bI {s with i:=s.i++[Mk.u8 b],G:=s.G+1}=false from d]at e
     simpa using e,f.2⟩}
  simp at a
 rename_i g;rw[M g];split at a
 .simp at a
 rename_i j;rw[M j];split at a
 .simp at a
 rename_i i;rw[M i];refine QE (s:={bH s with attr:=s.i}) ?_ (h.hs.none) ⟨rfl,rfl⟩ ⟨by show 14<=s.H;omega,by show s.H<=15;omega⟩ b a
 exact{h with
  mZ:=λg=>by exfalso;have g:s.H=12:=g;omega
  tk:=λ_ _ _ _ _ _=>⟨rfl,rfl⟩
  c8:=λ_=>rfl
  lN:=λ_=>⟨λ_=>by show(0:Int)+1<=s.S;have:=h.bd;omega,f.2⟩}
def acY(h:Wq s)(d:s.H=16)(b:Int)(a:(gW s b).2=0):W (gW s b).1:=by
 unfold gW at a⊢;split at a
 .rename_i g;rw[J g];exact h.toW
 rename_i g;rw[M g];split at a
 .rename_i c;rw[J c];have c:b=34\/b=39:=by simpa using c
  exact(zK h (h.hs.none) (xQ h.toW<|by omega) 17 (by omega) (λ_ _=>(h.zzt)) (by omega) b (λ_=>c) (h.qd (by omega) (by omega)) (h.pJ (by omega) (by omega)) (by omega)).toW
 simp at a
def acZ(h:Wq s)(d:s.H=17)(b:Int)(i:0<=b)(a:(fA s b).2=0):W (fA s b).1:=by
 have f:s.D=[]:=h.hs.none;have j:=xQ h.toW (by omega);unfold fA at a⊢;split at a
 .rename_i g;rw[J g];have k:=zK (zI h f<|by omega) f j 18 (by omega) (λ_ _=>⟨rfl,rfl⟩) (by omega) s.aj2 (by omega) (h.qd (by omega) (by omega)) (h.pJ (by omega) (by omega)) h.q0
  exact{k with
   lN:=λg=>by exfalso;have g:(18:Int)=14:=g;omega
   jv:=λg=>aj6 ⟨by show(13:Int)<=18;omega,by show(18:Int)<=19;omega⟩ g}
 rename_i g;rw[M g];split at a
 .simp at a
 rename_i l;rw[M l];split at a
 .rename_i e;rw[J e];split at a
  .rename_i c;rw[J c]
   exact{h with
    rf:=λ_=>⟨.inr d,.inl ⟨rfl,rfl⟩⟩
    t:=λg=>by have g:0<s.t:=g;have:=h.q;omega}
  simp at a
 rename_i e;rw[M e];split at a
 .rename_i c;rw[J c];exact vZ h.toW (by omega) h.r 32 (by omega) a
 rename_i c;rw[M c];exact vZ h.toW (by omega) h.r b i a
def QF(h:Wq s)(c:s.D=[])(d:s.i=[]/\s.G=0)(e:s.f=[])(n:U):Wq (bZ s n):=by
 have f:(s.I.length=0)↔s.I=[]:=length_eq_zero_iff;rw[sN];have i:Wq {s with C:=(bZ s n).C,F:=(bZ s n).F,m:=(bZ s n).m,T:=(bZ s n).T}:={h with};by_cases b:s.I=[]
 .have a:=f.2 b;simp only[a,ajO,bY]
  exact{i with
   st:=⟨by dsimp only;omega,by dsimp only;omega⟩
   o0:=λ_=>b
   o1:=λg=>by exfalso;have g:(0:Int)=1\/(0:Int)=2\/(0:Int)=6\/(0:Int)=20\/(0:Int)=21:=g;omega
   ov:=λ_=>⟨b,by dsimp only;omega⟩
   t:=λg=>by have g:0<s.t:=g;have:=h.q;omega
   rf:=λg=>aj6 (h.r.symm.trans g) (by decide)
   hs:=.inl c
   m6:=λg=>by exfalso;have g:(0:Int)=6:=g;omega
   rQ:=λg=>by exfalso;have g:(0:Int)=20:=g;omega
   tk:=λ_ _ _ _ _ _=>d
   c8:=λg=>by exfalso;have g:(0:Int)=8\/(0:Int)=12\/(0:Int)=14:=g;omega
   lN:=λg=>by exfalso;have g:(0:Int)=14:=g;omega
   uS:=λg=>by exfalso;have g:(0:Int)=17:=g;omega
   jv:=λ_=>e
   mZ:=λg=>by exfalso;have g:(0:Int)=12:=g;omega
   qd:=λg=>by exfalso;have g:(13:Int)<=0:=g;omega
   pJ:=λg=>by exfalso;have g:(12:Int)<=0:=g;omega}
 have a:¬s.I.length=0:=λg=>b (f.1 g);simp only[a,decide_false,cE]
 exact{i with
  st:=⟨by dsimp only;omega,by dsimp only;omega⟩
  o0:=λg=>by exfalso;have g:(1:Int)=0:=g;omega
  o1:=λ_=>b
  ov:=λg=>by cases g
  t:=λg=>by have g:0<s.t:=g;have:=h.q;omega
  rf:=λg=>aj6 (h.r.symm.trans g) (by decide)
  hs:=.inl c
  m6:=λg=>by exfalso;have g:(1:Int)=6:=g;omega
  rQ:=λg=>by exfalso;have g:(1:Int)=20:=g;omega
  tk:=λ_ _ _ _ _ _=>d
  c8:=λg=>by exfalso;have g:(1:Int)=8\/(1:Int)=12\/(1:Int)=14:=g;omega
  lN:=λg=>by exfalso;have g:(1:Int)=14:=g;omega
  uS:=λg=>by exfalso;have g:(1:Int)=17:=g;omega
  jv:=λ_=>e
  mZ:=λg=>by exfalso;have g:(1:Int)=12:=g;omega
  qd:=λg=>by exfalso;have g:(13:Int)<=1:=g;omega
  pJ:=λg=>by exfalso;have g:(12:Int)<=1:=g;omega}
def ac0(h:Wq s)(d:s.H=19)(b:Int)(a:(jL s b).2=0):W (jL s b).1:=by
 unfold jL at a⊢;split at a
 .simp at a
 rename_i g;rw[M g];have e:=oW s;have c:=QF (QC h<|by omega) (by rw[e];exact(h.hs.none)) (by rw[e];exact(h.zzt)) (by rw[e]) s.B;exact(BN c [] λ_ _=>Qz c.bd.2.1).toW
def ac1(h:Wq s)(d:s.H=20\/s.H=21):Wq (kH s):=by
 have a:s.D=[]:=h.hs.none;have b:=h.zzt;have c:=h.jv (by omega);have i:s.over=false:=by
  cases e:s.over
  .rfl
  exact aj6 (h.ov e).1 (h.o1<|by omega)
 unfold kH
 have j:Wq {s with H:=3,I:=s.I.dropLast}:={(oI h a b c 3 (by omega) (by omega) (by omega) (λg=>(h.ov g).1) s.aW)with
  o0:=λg=>by exfalso;have g:(3:Int)=0:=g;omega
  o1:=λg=>by exfalso;have g:(3:Int)=1\/(3:Int)=2\/(3:Int)=6\/(3:Int)=20\/(3:Int)=21:=g;omega
  ov:=λg=>by have g:s.over=true:=g;rw[i]at g;cases g
  rQ:=λg=>by exfalso;have g:(3:Int)=20:=g;omega
  xP:=λn m=>h.xP n (FO _ m)
  dp:=by show(s.I.dropLast.length:Int)<=s.od;have:=h.dp;rw[uo];omega
  pJ:=λg=>by exfalso;have g:(12:Int)<=3:=g;omega}
 have o:=QF j a b c (bP s);have e:bZ {s with H:=3,I:=s.I.dropLast} (bP s)=bZ {s with I:=s.I.dropLast} (bP s):=by
  rw[sN,sN {s with I:=s.I.dropLast}];have q:∀(u v:Int) (e:Ev),(aX {s with H:=u,I:=s.I.dropLast} e).C=(aX {s with H:=v,I:=s.I.dropLast} e).C:=λu v e=>by unfold aX bK;dsimp only;split<;>rfl
  have f:∀(l:List (U×U)) (z:Z) (u:Int),iV {z with H:=u} l={iV z l with H:=u}:=by
   intro l;induction l with
   |nil=>intro z u;rfl
   |cons p r ih=>
    intro z u;have g:aX {z with H:=u} ⟨7,p.1,[],[],[]⟩={aX z ⟨7,p.1,[],[],[]⟩with H:=u}:=by unfold aX bK;split<;>rfl
    show iV (aX {z with H:=u} _) r={iV (aX z _) r with H:=u};rw[g];exact ih _ u
  have g:aX {s with H:=3,I:=s.I.dropLast} ⟨2,bP s,Mk.bQ s (bP s),[],[]⟩={aX {s with I:=s.I.dropLast} ⟨2,bP s,Mk.bQ s (bP s),[],[]⟩with H:=3}:=by unfold aX bK;split<;>rfl
  have k:jb (aX {s with H:=3,I:=s.I.dropLast} ⟨2,bP s,Mk.bQ s (bP s),[],[]⟩)={jb (aX {s with I:=s.I.dropLast} ⟨2,bP s,Mk.bQ s (bP s),[],[]⟩)with H:=3}:=by
   rw[g];unfold jb;exact f _ _ _
  have t:bZ {s with H:=3,I:=s.I.dropLast} (bP s)=bZ {s with I:=s.I.dropLast} (bP s):=by
   show iy {nO (jb (aX {s with H:=3,I:=s.I.dropLast} ⟨2,bP s,Mk.bQ s (bP s),[],[]⟩))with over:=_}=iy {nO (jb (aX {s with I:=s.I.dropLast} ⟨2,bP s,Mk.bQ s (bP s),[],[]⟩))with over:=_};rw[k];rfl
  rw[t]
 rwa[e]at o
def QG(h:Wq s)(c:s.H=20\/s.H=21)(b:Int)(a:(gh s b).2=0):W (gh s b).1:=by
 unfold gh at a⊢;split at a
 .rename_i g;rw[J g];exact(oI h (h.hs.none) (h.zzt) (h.jv<|by omega) 21 (by omega) (by omega) (λ_=>(h.o1<|by omega)) (λg=>(h.ov g).1) s.aW).toW
 rename_i g;rw[M g];split at a
 .rename_i d;rw[J d];exact(ac1 h c).toW
 simp at a
def ac2(h:Wq s)(c:s.H=20)(b:Int)(a:(iC s b).2=0):W (iC s b).1:=by
 have e:=h.rQ c;unfold iC at a⊢;split at a
 .rename_i g;rw[J g];split at a
  .simp at a
  rename_i d;rw[M d]
  exact{h with
   m6:=λg=>by exfalso;have g:s.H=6:=g;omega
   rQ:=λ_=>⟨by show 0<=s.aW+1;omega,by show s.aW+1<=(bP s).length;omega⟩}
 rename_i g;rw[M g];split at a
 .simp at a
 rename_i d;rw[M d];exact QG h (.inl c) b a
def ac3(h:Wq s)(k:12<=s.H/\s.H<=19/\s.H≠17)(b:Int)(a:(dV s b).2=0):W (dV s b).1:=by
 have j:s.D=[]:=h.hs.none;unfold dV at a⊢;split at a
 .rename_i g;rw[J g];exact acV h (by simpa using g) b a
 rename_i g;rw[M g];have g:s.H≠12:=by simpa using g
 split at a
 .rename_i e;rw[J e];exact acW h (by simpa using e) b a
 rename_i e;rw[M e];have e:s.H≠13:=by simpa using e
 split at a
 .rename_i f;rw[J f];exact acX h (by simpa using f) b a
 rename_i f;rw[M f];have f:s.H≠14:=by simpa using f
 split at a
 .rename_i c;rw[J c];have c:s.H=15:=by simpa using c
  exact QE h j (h.zzt) (by omega) b a
 rename_i c;rw[M c];have c:s.H≠15:=by simpa using c
 split at a
 .rename_i i;rw[J i];exact acY h (by simpa using i) b a
 rename_i i;rw[M i];have i:s.H≠16:=by simpa using i
 split at a
 .rename_i d;rw[J d];have d:s.H=18:=by simpa using d
  exact Jl h j (h.zzt) (h.qd (by omega) (by omega)) (h.pJ (by omega) (by omega)) (xQ h.toW<|by omega) (by omega) b a
 rename_i d;rw[M d];have d:s.H≠18:=by simpa using d
 exact ac0 h (by omega) b a
def ac4(h:Wq s)(m:s.H≠0/\s.H≠1/\s.H≠2/\s.H≠7/\s.H≠11/\s.H≠17)(b:Int)(n:0<=b)(a:(bU s b).2=0):W (bU s b).1:=by
 have o:=h.st;unfold bU at a⊢;split at a
 .rename_i g;rw[J g];exact acO h (by simpa using g) b a
 rename_i g;rw[M g];have g:s.H≠3:=by simpa using g
 split at a
 .rename_i d;rw[J d];exact acP h (by simpa using d) b a
 rename_i d;rw[M d];have d:s.H≠4:=by simpa using d
 split at a
 .rename_i e;rw[J e];exact acQ h (by simpa using e) b a
 rename_i e;rw[M e];have e:s.H≠5:=by simpa using e
 split at a
 .rename_i f;rw[J f];exact acR h (by simpa using f) b a
 rename_i f;rw[M f];have f:s.H≠6:=by simpa using f
 split at a
 .rename_i i;rw[J i];exact acH h (by simpa using i) b a
 rename_i i;rw[M i];have i:s.H≠8:=by simpa using i
 split at a
 .rename_i j;rw[J j];exact acS h (by simpa using j) b a
 rename_i j;rw[M j];have j:s.H≠9:=by simpa using j
 split at a
 .rename_i k;rw[J k];exact acI h (by simpa using k) b n a
 rename_i k;rw[M k];have k:s.H≠10:=by simpa using k
 split at a
 .rename_i l;rw[J l];exact ac2 h (by simpa using l) b a
 rename_i l;rw[M l];have l:s.H≠20:=by simpa using l
 split at a
 .rename_i c;rw[J c];have c:s.H=21:=by simpa using c
  exact QG h (.inr c) b a
 rename_i c;rw[M c];have c:s.H≠21:=by simpa using c
 exact ac3 h (by omega) b a
def ac5(h:W s)(b:Int)(c:0<=b)(a:(aP s b).2=0):W (aP s b).1:=by
 unfold aP at a⊢;split at a
 .rename_i g;rw[J g];exact acB h g b a
 rename_i g;rw[M g];have n:s.t=0:=by have:=h.p0;omega
 split at a
 .rename_i m;rw[J m];exact acD h m n b c a
 rename_i m;rw[M m];have d:Wq s:=⟨h,n,by simpa using m⟩;split at a
 .rename_i e;rw[J e];exact acJ d (by simpa using e) b a
 rename_i e;rw[M e];have e:s.H≠0:=by simpa using e
 split at a
 .rename_i f;rw[J f];exact acK d (by simpa using f) b c a
 rename_i f;rw[M f];have f:s.H≠1:=by simpa using f
 split at a
 .rename_i i;rw[J i];exact acG d (by simpa using i) b c a
 rename_i i;rw[M i];have i:s.H≠2:=by simpa using i
 split at a
 .rename_i j;rw[J j];exact acF d (by simpa using j) b c a
 rename_i j;rw[M j];have j:s.H≠7:=by simpa using j
 split at a
 .rename_i k;rw[J k];exact QB d (by simpa using k) b c a
 rename_i k;rw[M k];have k:s.H≠11:=by simpa using k
 split at a
 .rename_i l;rw[J l];exact acZ d (by simpa using l) b c a
 rename_i l;rw[M l];have l:s.H≠17:=by simpa using l
 exact ac4 d ⟨e,f,i,j,k,l⟩ b c a
def ac6(h:W s)(b:Int):W (gX s b):=by
 unfold gX;split
 .exact{h with}
 split
 .exact{h with}
 exact h
def QH(h:W s)(b:Int)(c:0<=b)(a:(eY s b).2=0):W (eY s b).1:=by
 unfold eY at a⊢;split at a
 .rename_i g;rw[J g];exact ac6 (ac5 h b c g) b
 rename_i g;exact aj6 a g
def QI(h:W s)(x:UInt8)(a:(aS s x).j=0):W (aS s x):=by
 unfold aS at a⊢;split at a
 .rename_i g;rw[J g];have b:W {s with A:=s.A+1}:={h with};unfold kE at a⊢;split at a
  .rename_i c;rw[J c];exact{b with}
  rename_i c;rw[M c];split at a
  .rename_i d;rw[J d];have e:=QH (s:={s with A:=s.A+1,O:=true}) {b with} 10 (by omega) a;exact{e with}
  rename_i d;rw[M d];exact{(QH (s:={s with A:=s.A+1,O:=false}) {b with} x.toNat (by omega) a)with}
 rename_i g;exact aj6 a g
def zL:∀(l:U) {s:Z},W s->(aQ s l).j=0->W (aQ s l)
 |[],_,h,_=>h
 |x::r,s,h,c=>by
  have hx:(aS s x).j=0:=by
   cases hd:decide ((aS s x).j=0)
   .have a:(aS s x).j≠0:=by simpa using hd
    have e:∀(l:U) (z:Z),z.j≠0->aQ z l=z:=by
     intro l;induction l with
     |nil=>intro z _;rfl
     |cons y t ih=>intro z d;show aQ (aS z y) t=z;have:aS z y=z:=(by rw[aS,M d]);rw[this];exact ih z d
    have b:(aQ (aS s x) r).j=0:=c;rw[e r _ a]at b;exact aj6 b a
   simpa using hd
  exact zL r (QI h x hx) c
def BO(d a t:Int)(n:Bool)(b:1<=d)(c:8<=t)(e:a<=32):W (bB d a t n):=by
 constructor<;>simp_all[bB,Hs,aZ]<;>omega
def Jm(s:Z)(b:Int):∃l c,gX s b={s with K:=l,aN:=c}:=by
 unfold gX;split
 .exact⟨_,_,rfl⟩
 split
 .exact⟨s.K,_,rfl⟩
 exact⟨s.K,s.aN,rfl⟩
def go_step{x:UInt8}(h:s.j=0)(a:x≠10)(b:x≠13)(i:aP {s with A:=s.A+1,O:=false} x.toNat=(s1,0)):
 ∃l c,aS s x={s1 with K:=l,aN:=c,j:=0}:=by
 obtain⟨l,c,e⟩:=Jm s1 x.toNat;refine⟨l,c,?_⟩;have d:¬((x.toNat:Int)=10):=λg=>a (UInt8.toNat_inj.1<|by show x.toNat=10;omega);have f:¬((x.toNat:Int)=13):=λg=>b (UInt8.toNat_inj.1<|by show x.toNat=13;omega);have j:kE {s with A:=s.A+1} x.toNat=(gX s1 x.toNat,0):=by
  rw[kE,M λg=>d g.1,M f,eY,i];simp
 rw[aS,J h,j,e]
def Nx(s:Z)(x:UInt8)(l:U):Prop:=(aS s x).j=0/\Mk.rest (aS s x)=l/\(aS s x).on=s.on
def jy{x:UInt8}{l:U}(h:s.j=0)(b:x≠10)(d:x≠13)(f:aP {s with A:=s.A+1,O:=false} x.toNat=(s1,0))(g:Mk.rest s1=l)(i:s1.on=s.on):Nx s x l:=by
 obtain⟨a,c,e⟩:=go_step h b d f;rw[Nx,e];exact⟨rfl,g,i⟩
def ac7(s:Z)(b:s.H≠8)(a:s.H≠14)(x t:U)(n:Int):Mk.rest {s with F:=x,i:=t,G:=n}=Mk.rest s:=by
 have c:jw {s with F:=x,i:=t,G:=n}=jw s:=by unfold jw;simp[a]
 have d:j_ {s with F:=x,i:=t,G:=n}=j_ s:=by unfold j_;simp[b]
 have e:dD {s with F:=x,i:=t,G:=n}=dD s:=by unfold dD;rw[c,d];rfl
 unfold Mk.rest;rw[e];rfl
def QJ(s:Z)(b:s.H≠8)(a:s.H≠14)(c:Int):Mk.rest (bV s c)=Mk.rest s:=by
 obtain⟨x,t,n,d,_⟩:=zH s c;rw[d];exact ac7 s b a x t n
def QK(s:Z)(c:Int):(bV s c).on=s.on:=by
 obtain⟨x,t,n,a,_⟩:=zH s c;rw[a]
def later(s:Z):U:=dD s++gA (qX s)++(if s.I=[]/\s.over=false/\iR s.H=false then[60,97,47,62]else[])
def wm(s:Z):Mk.rest s=iJ s.pc s.t++(jP s.rp s.rn s.rc++later s):=by unfold Mk.rest later;simp[jB]
def BP(h:aZ p=false):jP p n c=[]:=by
 unfold aZ at h;have:p=0\/p=7:=by
  by_cases a:p=0
  .exact .inl a
  exact .inr (by simpa[a]using h)
 obtain rfl|rfl:=this<;>rfl
def QL{l:Int}(h:oH c l):∃x r b,iJ c l=x::r/\eO c l x.toNat=some (b,l - 1)/\iJ b (l - 1)=r/\x≠10/\x≠13:=by
 obtain⟨rfl,h⟩|⟨rfl,h⟩|⟨rfl,h⟩:=h
 .refine⟨128,[],c*64,rfl,?_,rfl,by decide,by decide⟩;have:gU (c*64) 0=true:=by
   rw[gU,eX,M,M];split
   .omega
   split
   .simp;omega
   simp;omega
  rw[eO,M];have e:c*64+((128:UInt8).toNat:Int) - 128=c*64:=by show c*64+128 - 128=_;omega
  rw[e,J (show gU (c*64) (1 - 1)=true from this)]
 .by_cases a:c=0
  .subst a;exact⟨160,[128],32,rfl,by decide,rfl,by decide,by decide⟩
  refine⟨128,[128],c*64,by simp[iJ,a],?_,rfl,by decide,by decide⟩;have:gU (c*64) 1=true:=by
   unfold gU;simp;omega
  rw[eO,M];have e:c*64+((128:UInt8).toNat:Int) - 128=c*64:=by show c*64+128 - 128=_;omega
  rw[e,J (show gU (c*64) (2 - 1)=true from this)]
 by_cases a:c=0
 .subst a;exact⟨144,[128,128],16,rfl,by decide,rfl,by decide,by decide⟩
 refine⟨128,[128,128],c*64,by simp[iJ,a],?_,?_,by decide,by decide⟩
 .have:gU (c*64) 2=true:=by
   unfold gU;simp;omega
  rw[eO,M];have e:c*64+((128:UInt8).toNat:Int) - 128=c*64:=by show c*64+128 - 128=_;omega
  rw[e,J (show gU (c*64) (3 - 1)=true from this)]
 have:¬(c*64=0):=by omega
 simp[iJ,this]
def ac8(h:W s)(g:s.j=0)(e:0<s.t):∃x l,Mk.rest s=x::l/\Nx s x l:=by
 obtain⟨p,q,i,t⟩:=h.t e;obtain⟨x,r,f,j,k,m,b,c⟩:=QL i;refine⟨x,r++(jP s.rp s.rn s.rc++later s),by rw[wm,j];rfl,?_⟩;have n:aP {s with A:=s.A+1,O:=false} x.toNat=(gD {s with A:=s.A+1,O:=false} (f,s.t - 1),0):=by
  rw[aP,J e,fT,k]
 have o:s.H≠8:=by omega
 have d:s.H≠14:=by omega
 have a:Mk.rest {s with A:=s.A+1,O:=false,pc:=f,t:=s.t - 1}=r++(jP s.rp s.rn s.rc++later s):=by
  rw[wm,m];rfl
 refine jy g b c n ?_ ?_
 .unfold gD;split
  .exact(QJ _ (by exact o) (by exact d) _).trans a
  exact a
 unfold gD;split
 .rw[QK]
 rfl
def QM(n:U):Bool:=
 match qf n fG with
 |[]=>false
 |y::t=>y !=35&&y !=10&&y !=13&&match pP n y.toNat with
  |none=>false
  |some r=>if aZ r.place then r.place==2&&qf r.B fG==t else t==[]
def ac9:∀n∈[]::zG,QM n=true:=by decide
def ac_(g:0<=c)(h:c<=1114111)(a:Int)(f:a=10\/a=16)(d:eX c=false)(b:eX (c*a)=false)(e:eX (c*a*a)=false):c=0:=by
 unfold eX at d b e;obtain rfl|rfl:=f
 .split at d
  .split at b
   .split at e
    .simp at d b e;omega
    split at e<;>simp at d b e<;>omega
   split at b<;>simp at d b<;>omega
  split at d
  .split at b
   .omega
   split at b<;>simp at d b<;>omega
  simp at d;omega
 split at d
 .split at b
  .split at e
   .simp at d b e;omega
   split at e<;>simp at d b e<;>omega
  split at b<;>simp at d b<;>omega
 split at d
 .split at b
  .omega
  split at b<;>simp at d b<;>omega
 simp at d;omega
def QN(h:eX c=true):0<=c/\c<=1114111:=by
 unfold eX at h;split at h
 .simp at h;omega
 split at h<;>simp at h<;>omega
def Jo{v:Int}{a pl:Int}{y:UInt8}(hd:nN y.toNat a=some v)(b:c*a+v<=1114111):iN c y.toNat a pl=some ⟨pl,[],c*a+v⟩:=by
 rw[iN,hd];dsimp only;rw[M]
def EF(o:0<=c)(q:c<=1114111)(a pl:Int)(e:a=10\/a=16)
 (i:∀y:UInt8,y≠59->y≠120->dJ ⟨p,n,c⟩ y.toNat=iN c y.toNat a pl) (f:eX c=true->dJ ⟨p,n,c⟩ ((59:UInt8).toNat:Int)=some ⟨7,[],c⟩) (j:aZ pl=true) (k:∀l,jP pl [] l=lC l a):
 ∃y t r,lC c a=y::t/\y≠10/\y≠13/\dJ ⟨p,n,c⟩ y.toNat=some r/\(aZ r.place=true->jP r.place r.B r.code=t)/\(aZ r.place=false->t=[]):=by
 have m:nN ((48:UInt8).toNat:Int) a=some 0:=by obtain rfl|rfl:=e<;>decide
 have s:nN ((57:UInt8).toNat:Int) a=some 9:=by obtain rfl|rfl:=e<;>decide
 cases d:eX c
 .cases b:eX (c*a)
  .cases h:eX (c*a*a)
   .have u:=ac_ o q a e d b h;subst u;refine⟨57,[59],⟨pl,[],9⟩,by unfold lC;rw[d,b,h];rfl,by decide,by decide,?_,λ_=>?_,λg=>aj6 (j.symm.trans g)<|by decide⟩
    .rw[i 57 (by decide) (by decide)];have:=Jo (c:=0) (pl:=pl) s (by omega);rw[this];simp
    rw[k];obtain rfl|rfl:=e<;>rfl
   have:=QN h;have v:c*a<=1114111:=by obtain rfl|rfl:=e<;>omega
   refine⟨48,[48,59],⟨pl,[],c*a⟩,by unfold lC;rw[d,b,h];rfl,by decide,by decide,?_,λ_=>?_,λg=>aj6 (j.symm.trans g)<|by decide⟩
   .rw[i 48 (by decide) (by decide)];have:=Jo (c:=c) (pl:=pl) m (by omega);rw[this,ajV]
   rw[k];unfold lC;rw[b,h];rfl
  have:=QN b;refine⟨48,[59],⟨pl,[],c*a⟩,by unfold lC;rw[d,b];rfl,by decide,by decide,?_,λ_=>?_,λg=>aj6 (j.symm.trans g)<|by decide⟩
  .rw[i 48 (by decide) (by decide)];have:=Jo (c:=c) (pl:=pl) m (by omega);rw[this,ajV]
  rw[k];unfold lC;rw[b];rfl
 exact⟨59,[],⟨7,[],c⟩,by unfold lC;rw[d];rfl,by decide,by decide,f d,λg=>aj6 (show aZ 7=true from g) (by decide),λ_=>rfl⟩
def toNat_ne{y z:UInt8}(h:y≠z):((y.toNat:Int)==(z.toNat:Int))=false:=by
 have:¬((y.toNat:Int)=(z.toNat:Int)):=λg=>h (UInt8.toNat_inj.1<|by omega);simpa using this
def ada(h:vY p n c):∃y t r,jP p n c=y::t/\y≠10/\y≠13/\dJ ⟨p,n,c⟩ y.toNat=some r/\(aZ r.place=true->jP r.place r.B r.code=t)/\(aZ r.place=false->t=[]):=by
 have d:∀(m:U),m∈[]::zG->(p=1\/p=2)->m=n->∃y t r,jP p n c=y::t/\y≠10/\y≠13/\dJ ⟨p,n,c⟩ y.toNat=some r/\(aZ r.place=true->jP r.place r.B r.code=t)/\(aZ r.place=false->t=[]):=by
  intro m s k e;have b:=ac9 m s;subst e;unfold QM at b;split at b
  .cases b
  rename_i y t u;cases l:pP m y.toNat with
  |none=>rw[l]at b;simp at b
  |some r=>
   rw[l]at b;simp at b;refine⟨y,t,r,?_,b.1.1.2,b.1.2,?_,λg=>?_,λg=>?_⟩
   .unfold jP;rw[J k,u]
   .have j:((y.toNat:Int)==35)=false:=toNat_ne (z:=35) b.1.1.1;unfold dJ;dsimp only;obtain rfl|rfl:=k
    .rwa[J,j]
    rwa[M,J]
   .have i:=b.2;rw[J g]at i;unfold jP;rw[J (.inr i.1)];exact i.2
   have i:=b.2;rwa[M<|by rw[g];decide]at i
 obtain⟨rfl,rfl⟩|⟨rfl,v⟩|⟨rfl|rfl,rfl⟩|⟨rfl|rfl,o,q⟩:=h
 .exact d [] jU (.inl rfl) rfl
 .exact d n (iU _ v) (.inr rfl) rfl
 .refine EF (p:=3) (c:=0) (by decide) (by decide) 10 5 (.inl rfl) (λy f a=>?_) (λg=>aj6 g) rfl λ_=>rfl;unfold dJ;simp[toNat_ne (z:=120) a];intro g;exact aj6 g (by have:=toNat_ne (z:=120) a;simpa using this)
 .refine EF (p:=4) (c:=0) (by decide) (by decide) 16 6 (.inr rfl) (λy f a=>?_) (λg=>aj6 g) rfl λ_=>rfl;unfold dJ;simp
 .refine EF (p:=5) o q 10 5 (.inl rfl) (λy f a=>?_) (λg=>?_) rfl λ_=>rfl
  .unfold dJ jl;have:=toNat_ne (z:=59) f;simp;intro g;exact aj6 g (by simpa using this)
  unfold dJ jl;simp[g]
 refine EF (p:=6) o q 16 6 (.inr rfl) (λy f a=>?_) (λg=>?_) rfl λ_=>rfl
 .unfold dJ jl;have:=toNat_ne (z:=59) f;simp;intro g;exact aj6 g (by simpa using this)
 unfold dJ jl;simp[g]
def adb(h:W s)(i:s.j=0)(j:s.t=0)(e:aZ s.rp=true):∃x l,Mk.rest s=x::l/\Nx s x l:=by
 obtain⟨v,k⟩:=h.rf e;obtain⟨y,t,r,m,b,c,n,o,p⟩:=ada k;have f:iJ s.pc s.t=[]:=by rw[j];rfl
 have q:s.H≠8:=by omega
 have d:s.H≠14:=by omega
 refine⟨y,t++later s,by rw[wm,f,m];rfl,?_⟩;have u:aP {s with A:=s.A+1,O:=false} y.toNat=((if aZ r.place then kZ {s with A:=s.A+1,O:=false} r else bV (kZ {s with A:=s.A+1,O:=false} r) r.code),0):=by
  rw[aP,M<|by show ¬0<s.t;omega,J e,fD,n];dsimp only;split<;>rfl
 have a:Mk.rest (kZ {s with A:=s.A+1,O:=false} r)=jP r.place r.B r.code++later s:=by
  rw[wm];show iJ s.pc s.t++_=_;rw[f];rfl
 refine jy i b c u ?_ ?_
 .split
  .rename_i g;rw[a,o g]
  rename_i g;exact(QJ _ (by exact q) (by exact d) _).trans (by rw[a,p<|by simpa using g,BP<|by simpa using g])
 split
 .rfl
 rw[QK];rfl
def BQ(s:Z)(a:s.t=0)(b:aZ s.rp=false)(h:s.H=0\/s.H=1):Mk.rest s=gA s.I.reverse++(if s.I=[]/\s.over=false then[60,97,47,62]else[]):=by
 have c:kW s.H=false:=by obtain h|h:=h<;>rw[h]<;>rfl
 have d:iR s.H=false:=by obtain h|h:=h<;>rw[h]<;>rfl
 have e:dD s=[]:=by rw[dD,J h]
 rw[wm,BP b,a,later,qX,c,d,e];simp[iJ]
def QO(n:Nat):(if n=0 then(0:Int)else 1)=0\/(if n=0 then(0:Int)else 1)=1:=by split<;>simp
def lD(a:kW s.H=false)(b:iR s.H=false):later s=dD s++(gA s.I.reverse++(if s.I=[]/\s.over=false then[60,97,47,62]else[])):=by
 rw[later,qX,a,b];simp
def nI(h:Wq s):Mk.rest s=later s:=by rw[wm,BP h.r,h.q];rfl
def mK(a:s.t=0)(b:aZ s.rp=false):Mk.rest s=later s:=by rw[wm,BP b,a];rfl
section
variable {s:Z}
def qg(h:Wq s)(a:s.H≠0/\s.H≠1/\s.H≠2/\s.H≠7/\s.H≠11/\s.H≠17)(b:Int):aP {s with A:=s.A+1,O:=false} b=bU {s with A:=s.A+1,O:=false} b:=by
 unfold aP;simp[h.q,h.r,a]
def ade(h:Wq s)(b:s.j=0)(a:s.H=3):∃x l,Mk.rest s=x::l/\Nx s x l:=by
 have e0:Mk.rest s=33::([45,45,45,45,62]++(gA s.I.reverse++(if s.I=[]/\s.over=false then[60,97,47,62]else[]))):=by
  rw[nI h,lD (by rw[a];rfl) (by rw[a];rfl)];simp[dD,a]
 refine⟨33,_,e0,jy (s1:={s with A:=s.A+1,O:=false,H:=4}) b (by decide) (by decide) ?_ ?_ rfl⟩
 .rw[qg h<|by omega];simp[bU,eG,a]
 rw[mK (by exact h.q) (by exact h.r),lD rfl rfl];simp[dD]
def adf(h:Wq s)(b:s.j=0)(a:s.H=4):∃x l,Mk.rest s=x::l/\Nx s x l:=by
 have e0:Mk.rest s=45::([45,45,45,62]++(gA s.I.reverse++(if s.I=[]/\s.over=false then[60,97,47,62]else[]))):=by
  rw[nI h,lD (by rw[a];rfl) (by rw[a];rfl)];simp[dD,a]
 refine⟨45,_,e0,jy (s1:={s with A:=s.A+1,O:=false,H:=5}) b (by decide) (by decide) ?_ ?_ rfl⟩
 .rw[qg h<|by omega];simp[bU,gF,a]
 rw[mK (by exact h.q) (by exact h.r),lD rfl rfl];simp[dD]
def adg(h:Wq s)(b:s.j=0)(a:s.H=5):∃x l,Mk.rest s=x::l/\Nx s x l:=by
 have e0:Mk.rest s=45::([45,45,62]++(gA s.I.reverse++(if s.I=[]/\s.over=false then[60,97,47,62]else[]))):=by
  rw[nI h,lD (by rw[a];rfl) (by rw[a];rfl)];simp[dD,a]
 refine⟨45,_,e0,jy (s1:={s with A:=s.A+1,O:=false,H:=7}) b (by decide) (by decide) ?_ ?_ rfl⟩
 .rw[qg h<|by omega];simp[bU,iO,a]
 rw[mK (by exact h.q) (by exact h.r),lD rfl rfl];simp[dD,(h.hs.none),gy]
def adh(z:Z):(mS z).on=z.on:=by rw[mS,iy,kI];rfl
def QR(z:Z):(kG z).on=z.on:=by rw[kG,iy,kI];rfl
def Jp(z:Z)(e:Ev)(a:z.t=0)(b:aZ z.rp=false)(n:U):Mk.rest (iy {aX z e with B:=n})=gA z.I.reverse++(if z.I=[]/\z.over=false then[60,97,47,62]else[]):=by
 rw[kI];unfold iy;exact BQ _ a b (QO _)
def adi(h:Wq s)(c:s.j=0)(a:s.H=7):∃x l,Mk.rest s=x::l/\Nx s x l:=by
 have e0:Mk.rest s=gy [45,45,62] s.D.length++(gA s.I.reverse++(if s.I=[]/\s.over=false then[60,97,47,62]else[])):=by
  rw[nI h,lD (by rw[a];rfl) (by rw[a];rfl)];simp[dD,a]
 have d:∀b,aP {s with A:=s.A+1,O:=false} b=fu {s with A:=s.A+1,O:=false} b:=by
  intro b;unfold aP;simp[h.q,h.r,a]
 obtain e|⟨_,e|e⟩|⟨e,_⟩|⟨e,_⟩:=h.hs
 .refine⟨45,[45,62]++_,by rw[e0,e];rfl,jy (s1:={s with A:=s.A+1,O:=false,D:=[45]}) c (by decide) (by decide) ?_ ?_ rfl⟩
  .rw[d];simp[fu,e]
  rw[mK (by exact h.q) (by exact h.r),lD (by rw[a];rfl) (by rw[a];rfl)];simp[dD,a,gy]
 .refine⟨45,[62]++_,by rw[e0,e];rfl,jy (s1:={s with A:=s.A+1,O:=false,D:=[45,45]}) c (by decide) (by decide) ?_ ?_ rfl⟩
  .rw[d];simp[fu,e]
  rw[mK (by exact h.q) (by exact h.r),lD (by rw[a];rfl) (by rw[a];rfl)];simp[dD,a,gy]
 .refine⟨62,_,by rw[e0,e];rfl,jy (s1:=mS {s with A:=s.A+1,O:=false}) c (by decide) (by decide) ?_ ?_ ?_⟩
  .rw[d];simp[fu,e]
  .exact Jp (bH {s with A:=s.A+1,O:=false,D:=[]}) _ h.q h.r _
  exact adh _
 .omega
 omega
def adj(h:Wq s)(c:s.j=0)(a:s.H=2):∃x l,Mk.rest s=x::l/\Nx s x l:=by
 have e0:Mk.rest s=gy [93,93,62] s.D.length++(gA s.I.reverse++(if s.I=[]/\s.over=false then[60,97,47,62]else[])):=by
  rw[nI h,lD (by rw[a];rfl) (by rw[a];rfl)];simp[dD,a]
 have d:∀b,aP {s with A:=s.A+1,O:=false} b=fH {s with A:=s.A+1,O:=false} b:=by
  intro b;unfold aP;simp[h.q,h.r,a]
 obtain e|⟨e,_⟩|⟨_,e|e⟩|⟨e,_⟩:=h.hs
 .refine⟨93,[93,62]++_,by rw[e0,e];rfl,jy (s1:={s with A:=s.A+1,O:=false,D:=[93]}) c (by decide) (by decide) ?_ ?_ rfl⟩
  .rw[d];simp[fH,e]
  rw[mK (by exact h.q) (by exact h.r),lD (by rw[a];rfl) (by rw[a];rfl)];simp[dD,a,gy]
 .omega
 .refine⟨93,[62]++_,by rw[e0,e];rfl,jy (s1:={s with A:=s.A+1,O:=false,D:=[93,93]}) c (by decide) (by decide) ?_ ?_ rfl⟩
  .rw[d];simp[fH,e]
  rw[mK (by exact h.q) (by exact h.r),lD (by rw[a];rfl) (by rw[a];rfl)];simp[dD,a,gy]
 .refine⟨62,_,by rw[e0,e];rfl,jy (s1:={s with A:=s.A+1,O:=false,D:=[],H:=1}) c (by decide) (by decide) ?_ ?_ rfl⟩
  .rw[d];simp[fH,e]
  exact BQ _ h.q h.r (.inr rfl)
 omega
def adk(h:Wq s)(g:s.j=0)(a:s.H=6):∃x l,Mk.rest s=x::l/\Nx s x l:=by
 have e0:Mk.rest s=gy kC s.aW++([93,93,62]++(gA s.I.reverse++(if s.I=[]/\s.over=false then[60,97,47,62]else[]))):=by
  rw[nI h,lD (by rw[a];rfl) (by rw[a];rfl)];simp[dD,a]
 have i:∀b,aP {s with A:=s.A+1,O:=false} b=dQ {s with A:=s.A+1,O:=false} b:=by
  intro b;rw[qg h<|by omega];simp[bU,a]
 have p:=h.m6 a;have c:∀(m:Int) (x:UInt8) (r:U),s.aW=m->m<5->(gy kC m=x::r)->(x≠10)->(x≠13)->lK.getD m.toNat 0=x.toNat->gy kC (m+1)=r->∃x l,Mk.rest s=x::l/\Nx s x l:=by
  intro m x r e t j d f k n;refine⟨x,r++_,by rw[e0,e,j];rfl,jy (s1:={s with A:=s.A+1,O:=false,aW:=m+1}) g d f ?_ ?_ rfl⟩
  .rw[i,dQ,e,M<|by rw[k];omega,M]
  rw[mK (by exact h.q) (by exact h.r),lD (by rw[a];rfl) (by rw[a];rfl)];simp[dD,a,n]
 have o:s.aW=0\/s.aW=1\/s.aW=2\/s.aW=3\/s.aW=4\/s.aW=5:=by omega
 obtain e|e|e|e|e|e:=o
 .exact c 0 67 [68,65,84,65,91] e (by decide) rfl (by decide) (by decide) rfl rfl
 .exact c 1 68 [65,84,65,91] e (by decide) rfl (by decide) (by decide) rfl rfl
 .exact c 2 65 [84,65,91] e (by decide) rfl (by decide) (by decide) rfl rfl
 .exact c 3 84 [65,91] e (by decide) rfl (by decide) (by decide) rfl rfl
 .exact c 4 65 [91] e (by decide) rfl (by decide) (by decide) rfl rfl
 refine⟨91,[93,93,62]++_,by rw[e0,e];rfl,jy (s1:={s with A:=s.A+1,O:=false,aW:=6,H:=2}) g (by decide) (by decide) ?_ ?_ rfl⟩
 .rw[i];simp[dQ,e,lK]
 rw[mK (by exact h.q) (by exact h.r),lD rfl rfl];simp[dD,(h.hs.none),gy]
def adl(h:Wq s)(b:s.j=0)(a:s.H=9):∃x l,Mk.rest s=x::l/\Nx s x l:=by
 have e0:Mk.rest s=62::((gA s.I.reverse++(if s.I=[]/\s.over=false then[60,97,47,62]else[]))):=by
  rw[nI h,lD (by rw[a];rfl) (by rw[a];rfl)];simp[dD,j_,iR,a]
 refine⟨62,_,e0,jy (s1:=kG {s with A:=s.A+1,O:=false}) b (by decide) (by decide) ?_ ?_ ?_⟩
 .rw[qg h<|by omega];simp[bU,jD,a]
 .exact Jp (bH {s with A:=s.A+1,O:=false,D:=[]}) _ h.q h.r _
 exact QR _
def adm(h:Wq s)(c:s.j=0)(a:s.H=10):∃x l,Mk.rest s=x::l/\Nx s x l:=by
 have b:s.D=[]:=h.hs.none;have e0:Mk.rest s=63::([62]++(gA s.I.reverse++(if s.I=[]/\s.over=false then[60,97,47,62]else[]))):=by
  rw[nI h,lD (by rw[a];rfl) (by rw[a];rfl)];simp[dD,j_,iR,a,b,gy]
 refine⟨63,_,e0,jy (s1:={s with A:=s.A+1,O:=false,H:=11,D:=[63]}) c (by decide) (by decide) ?_ ?_ rfl⟩
 .rw[qg h<|by omega];simp[bU,Mk.jK,dN,Mk.bJ,a,b]
 rw[mK (by exact h.q) (by exact h.r),lD rfl rfl];simp[dD,j_,iR,b,gy]
def adn(h:Wq s)(c:s.j=0)(a:s.H=11):∃x l,Mk.rest s=x::l/\Nx s x l:=by
 have e0:Mk.rest s=gy [63,62] s.D.length++(gA s.I.reverse++(if s.I=[]/\s.over=false then[60,97,47,62]else[])):=by
  rw[nI h,lD (by rw[a];rfl) (by rw[a];rfl)];simp[dD,j_,iR,a]
 have d:∀b,aP {s with A:=s.A+1,O:=false} b=dN {s with A:=s.A+1,O:=false} b:=by
  intro b;unfold aP;simp[h.q,h.r,a]
 obtain e|⟨e,_⟩|⟨e,_⟩|⟨_,e⟩:=h.hs
 .refine⟨63,[62]++_,by rw[e0,e];rfl,jy (s1:={s with A:=s.A+1,O:=false,D:=[63]}) c (by decide) (by decide) ?_ ?_ rfl⟩
  .rw[d];simp[dN,e]
  rw[mK (by exact h.q) (by exact h.r),lD (by rw[a];rfl) (by rw[a];rfl)];simp[dD,j_,iR,a,gy]
 .omega
 .omega
 refine⟨62,_,by rw[e0,e];rfl,jy (s1:=kG {s with A:=s.A+1,O:=false}) c (by decide) (by decide) ?_ ?_ ?_⟩
 .rw[d];simp[dN,e]
 .exact Jp (bH {s with A:=s.A+1,O:=false,D:=[]}) _ h.q h.r _
 exact QR _
def QS(z:Z)(b:Int)(a:z.H=8):bU z b=cN z b:=by unfold bU;simp[a]
def Jq{l:U}(h:Mk.jg l=true):l.length=3:=by
 unfold Mk.jg at h;split at h
 .rfl
 cases h
def ado(h:Wq s)(e:s.on=false)(n:s.j=0)(a:s.H=8):∃x l,Mk.rest s=x::l/\Nx s x l:=by
 have o:s.D=[]:=h.hs.none;have p:=h.c8 (.inl a);have t:=h.bd;have b:bI {s with A:=s.A+1,O:=false}=false:=by unfold bI;simp[a]
 by_cases hx:s.G=0\/Mk.jg s.i=true
 .have e0:Mk.rest s=97::([63,62]++(gA s.I.reverse++(if s.I=[]/\s.over=false then[60,97,47,62]else[]))):=by
   rw[nI h,lD (by rw[a];rfl) (by rw[a];rfl)];simp[dD,j_,iR,a,hx]
  have d:s.G=0\/s.G=3:=by
   obtain hx|hx:=hx
   .exact .inl hx
   right;have:=Jq hx;omega
  have c:gb {s with A:=s.A+1,O:=false} 1=true:=by
   rw[gb,b];simp;omega
  refine⟨97,_,e0,jy (s1:={s with A:=s.A+1,O:=false,i:=s.i++[97],G:=s.G+1}) n (by decide) (by decide) ?_ ?_ rfl⟩
  .rw[qg h<|by omega];have:cN {s with A:=s.A+1,O:=false} ((97:UInt8).toNat:Int)=({s with A:=s.A+1,O:=false,i:=s.i++[97],G:=s.G+1},0):=by
    rw[cN,fS,M<|by simp[dP,Mk.fq],J,J c,pK b];rfl
   exact(QS _ _<|by exact a).trans this
  have f:Mk.jg (s.i++[97])=false:=by
   obtain hx|hx:=hx
   .have:s.i=[]:=by rw[hx]at p;exact length_eq_zero_iff.1 (by omega)
    rw[this];rfl
   have:=Jq hx;cases i:Mk.jg (s.i++[97])
   .rfl
   have:=Jq i;simp at this;omega
  have j:¬(s.G+1=0):=by omega
  rw[mK (by exact h.q) (by exact h.r),lD (by rw[a];rfl) (by rw[a];rfl)];simp[dD,j_,iR,a,gy,o,f,j]
 have e0:Mk.rest s=63::([62]++(gA s.I.reverse++(if s.I=[]/\s.over=false then[60,97,47,62]else[]))):=by
  rw[nI h,lD (by rw[a];rfl) (by rw[a];rfl)];simp[dD,j_,iR,a,hx,o,gy]
 have k:¬s.G=0:=λg=>hx (.inl g);have m:Mk.jg s.i=false:=by
  cases i:Mk.jg s.i
  .rfl
  exact aj6 (.inr i) hx
 refine⟨63,_,e0,jy (s1:={s with A:=s.A+1,O:=false,i:=[],G:=0,B:=s.i,H:=9}) n (by decide) (by decide) ?_ ?_ rfl⟩
 .rw[qg h<|by omega];have:cN {s with A:=s.A+1,O:=false} ((63:UInt8).toNat:Int)=({s with A:=s.A+1,O:=false,i:=[],G:=0,B:=s.i,H:=9},0):=by
   rw[cN,M<|by simp[k],M,M<|by rw[show({s with A:=s.A+1,O:=false}:Z).i=s.i from rfl,m];decide,M<|by rw[show({s with A:=s.A+1,O:=false}:Z).on=s.on from rfl,e];simp];rfl
  exact(QS _ _<|by exact a).trans this
 rw[mK (by exact h.q) (by exact h.r),lD rfl rfl];simp[dD,j_,iR]
end
def chars(l:U):Nat:=l.countP λx=>x<128||191<x
def EM(l m:U):chars (l++m)=chars l+chars m:=by unfold chars;exact countP_append
def EN(a:0<=c)(b:c<128):(decide (Mk.u8 c<128)||decide (191<Mk.u8 c))=true:=by
 have:=iQ a (by omega);simp;left;show(Mk.u8 c).toNat<128;omega
def Jw(b:192<=c)(a:c<=255):(decide (Mk.u8 c<128)||decide (191<Mk.u8 c))=true:=by
 have:=iQ (show 0<=c by omega) a;simp;right;show 191<(Mk.u8 c).toNat;omega
def zO(a:128<=c:=by omega)(b:c<=191:=by omega):(decide (Mk.u8 c<128)||decide (191<Mk.u8 c))=false:=by
 have:=iQ (show 0<=c by omega) (by omega);simp;constructor
 .show 128<=(Mk.u8 c).toNat;omega
 show(Mk.u8 c).toNat<=191;omega
def ad4(a:0<=c)(b:c<=1114111):chars (dB c)=1:=by
 unfold chars dB Mk.jf;split
 .simp[EN a<|by omega]
 split
 .simp[Jw (c:=192+c / 64) (by omega) (by omega),zO (c:=128+c % 64) (by omega) (by omega)]
 split
 .simp[Jw (c:=224+c / 4096) (by omega) (by omega),zO (c:=128+c / 64 % 64) (by omega) (by omega),zO (c:=128+c % 64) (by omega) (by omega)]
 simp[Jw (c:=240+c / 262144) (by omega) (by omega),zO (c:=128+c / 4096 % 64) (by omega) (by omega),zO (c:=128+c / 64 % 64) (by omega) (by omega),zO (c:=128+c % 64) (by omega) (by omega)]
def zz(t:Int)(a:aI):Prop:=(a.B.length:Int)<=t/\(chars a.val:Int)<=t
def Names(l:List aI):List U:=l.map (·.B)
structure V(s:Z):Prop where
 on:s.on=false
 cn:s.T=[]
 ct:(s.H=7\/s.H=8\/s.H=11\/s.H=12\/s.H=14\/s.H=17)->s.G=chars s.i/\s.G<=s.S
 tn:s.H=14->(s.i.length:Int)<=s.S
 tT:∀a∈s.f,zz s.S a
 zP:(Names s.f).Nodup
 Jy:(s.f.length:Int)<=s.oa
 an:(s.H=15\/s.H=16\/s.H=17)->(s.attr.length:Int)<=s.S/\s.attr∉Names s.f/\(s.f.length:Int)<s.oa
 al:s.H=14->(s.f.length:Int)<s.oa
 nm:(9<=s.H/\s.H<=11)->(s.B.length:Int)<=s.S
 pc:0<s.t->s.G+1<=s.S\/s.H=1\/s.H=2
 rp:aZ s.rp=true->s.H=17->s.G+1<=s.S
def EO(h:V s)(a:s.H=1\/s.H=2)(c:Int):V (bV s c):=by
 have b:bI s=true:=by unfold bI;obtain e|e:=a<;>rw[e]<;>rfl
 rw[Jj b];exact{h with}
def EP(h:V s)(a:s.H=7\/s.H=11\/s.H=17)(c:Int)(f:0<=c)(i:c<=1114111)(j:s.G+1<=s.S)(k:s.t=0)(b:aZ s.rp=false):V (bV s c):=by
 have d:bI s=false:=by unfold bI;obtain e|e|e:=a<;>rw[e]<;>rfl
 have l:=h.ct (by omega);rw[pK d]
 exact{h with
  ct:=λ_=>⟨by show s.G+1=(chars (s.i++dB c):Int);rw[EM,ad4 f i];omega,j⟩
  tn:=λg=>by exfalso;have g:s.H=14:=g;omega
  pc:=λg=>by have g:0<s.t:=g;omega
  rp:=λg=>by have g:aZ s.rp=true:=g;rw[b]at g;cases g}
def Jz(h:eX c=true):0<=c/\c<=1114111:=by
 unfold eX at h;split at h
 .simp at h;omega
 split at h<;>simp at h<;>omega
def Rl(h:V {s with t:=0,pc:=0})(f:s.H=1\/s.H=2\/s.H=7\/s.H=11\/s.H=17)(b:aZ s.rp=false)(p:Int×Int)(d:p.2=0->0<=p.1/\p.1<=1114111)(i:s.G+1<=s.S\/s.H=1\/s.H=2):V (gD s p):=by
 unfold gD;split
 .rename_i a;have a:p.2=0:=by simpa using a
  have e:V {s with pc:=p.1,t:=p.2}:={h with pc:=λg=>by have g:0<p.2:=g;omega};by_cases c:s.H=1\/s.H=2
  .exact EO e c _
  exact EP e (by show s.H=7\/s.H=11\/s.H=17;omega) _ (d a).1 (d a).2 (by show s.G+1<=s.S;omega) a b
 exact{h with pc:=λ_=>i}
def ad5(h:W s):∀x∈s.D,x.toNat<128:=by
 obtain e|⟨_,e|e⟩|⟨_,e|e⟩|⟨_,e⟩:=h.hs<;>rw[e]<;>decide
def JA:∀(l:U) {s:Z},V s->(∀x∈l,x.toNat<128)->(s.H=1\/s.H=2\/s.H=7\/s.H=11\/s.H=17)->s.t=0->aZ s.rp=false->(s.G+l.length<=s.S\/s.H=1\/s.H=2)->
 V (dW s l)/\((s.H=1\/s.H=2)\/(dW s l).G=s.G+l.length)
 |[],s,h,_,_,_,_,_=>⟨h,.inr<|by simp[dW]⟩
 |y::r,s,h,d,k,e,f,c=>by
  have p:=d y jU;obtain⟨x,t,n,a,q⟩:=zH s y.toNat;by_cases b:s.H=1\/s.H=2
  .have m:=EO h b (y.toNat:Int);have:=JA r m (λx hx=>d x (iU _ hx)) (by rwa[a]) (by rwa[a]) (by rwa[a]) (.inr<|by rwa[a]);exact⟨this.1,.inl b⟩
  have i:bI s=false:=by unfold bI;simp;omega
  have o:s.G+((r.length+1:Nat):Int)<=s.S:=by obtain c|c:=c;exact c;exact aj6 c b
  have j:(bV s (y.toNat:Int)).G=s.G+1:=by rw[pK i]
  have:=JA r (EP h (by omega) (y.toNat:Int) (by omega) (by omega) (by omega) e f) (λx hx=>d x (iU _ hx)) (by rwa[a]) (by rwa[a]) (by rwa[a]) (.inl<|by rw[j];rw[a];show s.G+1+(r.length:Int)<=s.S;omega);refine⟨this.1,.inr ?_⟩;obtain g|g:=this.2
  .exfalso;rw[a]at g;exact b g
  show(dW (bV s (y.toNat:Int)) r).G=_;rw[g,j];simp;omega
def wA(j:Wq s)(h:V s)(d:s.H=1\/s.H=2\/s.H=7\/s.H=11\/s.H=17)(b:Int)(w:0<=b)(e:(cV s b).2=0):V (cV s b).1:=by
 unfold cV at e⊢;split at e
 .simp at e
 rename_i p a;split at e
 .rename_i k;rw[J k];have f:s.G+(s.D.length+1)<=s.S\/s.H=1\/s.H=2:=by
   unfold gb bI at k;by_cases l:s.H=1\/s.H=2
   .exact .inr l
   left;have:(s.H==1||s.H==2)=false:=by simp;omega
   rw[this]at k;simpa using k
  have i:=JA s.D h (ad5 j.toW) d j.q j.r (by obtain g|g:=f;exact .inl (by omega);exact .inr g);obtain⟨x,t,n,u,y⟩:=Jk s.D s;have m:=i.1;have c:=i.2;rw[u]at m c⊢;dsimp only at c;refine Rl (s:={s with F:=x,i:=t,G:=n,D:=[]}) ?_ d j.r p (λg=>?_) ?_
  .exact{m with pc:=λg=>aj6 (show(0:Int)<0 from g) (by decide)}
  .unfold Mk.eF at a;split at a
   .rename_i v;cases a;exact Jz v.2
   split at a
   .cases a;cases g
   split at a
   .cases a;cases g
   split at a
   .cases a;cases g
   cases a
  show n+1<=s.S\/s.H=1\/s.H=2;obtain g|g:=c
  .exact .inr g
  obtain o|o:=f
  .left;omega
  exact .inr o
 simp at e
def ad6(f:W s)(h:V s)(e:0<s.t)(b:Int)(c:(fT s b).2=0):V (fT s b).1:=by
 obtain⟨i,k,l,j⟩:=f.t e;unfold fT at c⊢;split at c
 .simp at c
 rename_i p a;refine Rl ?_ i j p (λg=>?_) (h.pc e)
 .exact{h with pc:=λg=>aj6 (show(0:Int)<0 from g) (by decide)}
 unfold eO at a;split at a
 .cases a
 split at a
 .rename_i d;cases a;have g:s.t - 1=0:=g;rw[gU,g]at d;simp at d;exact Jz d
 cases a
def ad7{r:Mk.Rf}(h:dJ ⟨p,n,c⟩ b=some r)(d:aZ r.place=false):0<=r.code/\r.code<=1114111:=by
 have s:∀(l:List (U×Int)) (m:U),(∀q∈l,0<=q.2/\q.2<=1114111)->∀r,jI m l=some r->aZ r.place=false->0<=r.code/\r.code<=1114111:=by
  intro l m;induction l with
  |nil=>intro _ r h;cases h
  |cons q t ih=>
   intro o r h d;obtain⟨u,v⟩:=q;unfold jI at h;split at h
   .cases h;exact o (u,v) jU
   split at h
   .cases h;exact aj6 (show aZ 2=false from d) (by decide)
   exact ih (λq k=>o q (iU _ k)) r h d
 have g:∀r,pP n b=some r->aZ r.place=false->0<=r.code/\r.code<=1114111:=λr h d=>s _ _ (by decide) r h d;have e:∀a f,(f=5\/f=6)->∀r,iN c b a f=some r->aZ r.place=false->0<=r.code/\r.code<=1114111:=by
  intro a f j r h d;unfold iN at h;split at h
  .cases h
  split at h
  .cases h
  cases h;exfalso;have d:aZ f=false:=d;obtain rfl|rfl:=j<;>exact aj6 d
 have i:∀a f,(f=5\/f=6)->∀r,jl c b a f=some r->aZ r.place=false->0<=r.code/\r.code<=1114111:=by
  intro a f j r h d;unfold jl at h;split at h
  .split at h
   .rename_i w;cases h;exact Jz w
   cases h
  exact e a f j r h d
 unfold dJ at h;split at h
 .split at h
  .cases h;exact aj6 d
  exact g r h d
 split at h
 .exact g r h d
 split at h
 .split at h
  .cases h;exact aj6 d
  exact e 10 5 (.inl rfl) r h d
 split at h
 .exact i 10 5 (.inl rfl) r h d
 split at h
 .exact e 16 6 (.inr rfl) r h d
 split at h
 .exact i 16 6 (.inr rfl) r h d
 cases h
def ad8(l:W s)(h:V s)(f:aZ s.rp=true)(c:s.t=0)(b:Int)(d:(fD s b).2=0):V (fD s b).1:=by
 obtain⟨m,o⟩:=l.rf f;have i:=h.rp f;unfold fD at d⊢;split at d
 .simp at d
 rename_i r n;split
 .rename_i a;exact{h with rp:=λ_=>i}
 rename_i a;have a:aZ r.place=false:=by simpa using a
 have j:V (kZ s r):={h with rp:=λg=>by have g:aZ r.place=true:=g;rw[a]at g;cases g};have k:=ad7 n a;obtain e|e:=m
 .exact EO j (.inl e) _
 exact EP j (.inr (.inr e)) _ k.1 k.2 (i e) c a
