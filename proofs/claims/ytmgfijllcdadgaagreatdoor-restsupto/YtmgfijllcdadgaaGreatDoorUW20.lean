import Derived.Test.YtmgfijllcdadgaaGreatDoorUW15
set_option linter.all false
namespace Go.Proofs.YtmgfijllcdadgaaGreatDoor
open Mk
section
open List
variable {s:Z}
def qi(h:V s)(e:s.t=0)(c:aZ s.rp=false)(b:s.i=[]/\s.G=0)(f:8<=s.S)(a m:Int)(i:¬(14<=a/\a<=17):=by omega)(d:(9<=a/\a<=11)->(s.B.length:Int)<=s.S:=by omega):V {s with H:=a,aW:=m}:=
 {h with
  ct:=λ_=>⟨by show s.G=(chars s.i:Int);rw[b.1,b.2];rfl,by show s.G<=s.S;omega⟩
  tn:=λg=>by exfalso;have g:a=14:=g;omega
  an:=λg=>by exfalso;have g:a=15\/a=16\/a=17:=g;omega
  al:=λg=>by exfalso;have g:a=14:=g;omega
  nm:=d
  pc:=λg=>by have g:0<s.t:=g;omega
  rp:=λg=>by have g:aZ s.rp=true:=g;rw[c]at g;cases g}
def V.told(h:V s)(l:List Ev)(x:U):V {s with C:=l,F:=x}:={h with}
def Rm(h:V s)(e:Ev):V (aX s e):=by rw[kI];exact h.told _ _
def EQ(h:V s)(a:s.t=0)(b:aZ s.rp=false)(c:s.i=[]/\s.G=0)(d:8<=s.S):V (iy s):=by
 unfold iy;exact qi h a b c d _ s.aW (by split<;>omega) (by split<;>omega)
def zQ(h:V s)(b:s.t=0)(a:aZ s.rp=false)(c:8<=s.S)(hd:U):V (bH {s with D:=hd}):=
 {h with
  ct:=λ_=>⟨rfl,by show(0:Int)<=s.S;omega⟩
  tn:=λ_=>by show(0:Int)<=s.S;omega
  pc:=λg=>by have g:0<s.t:=g;omega
  rp:=λg=>by have g:aZ s.rp=true:=g;rw[a]at g;cases g}
def ad9(a:Wq s)(h:V s):V (mS s):=by
 have f:=ED (bH {s with D:=[]}) ⟨4,[],[],s.i,[]⟩;have e:=kI (bH {s with D:=[]}) ⟨4,[],[],s.i,[]⟩;refine EQ (Rm (zQ h a.q a.r a.bd.2.1 []) _) ?_ ?_ ⟨f.2.1,f.2.2.1⟩ ?_
 .rw[e];exact a.q
 .rw[e];exact a.r
 rw[e];exact a.bd.2.1
def JB(h:V s)(n:U)(a:(9<=s.H/\s.H<=11)->(n.length:Int)<=s.S):V {s with B:=n}:={h with nm:=a}
def Rn(a:Wq s)(h:V s):V (kG s):=by
 have f:=ED (bH {s with D:=[]}) ⟨5,s.B,[],s.i,[]⟩;have e:=kI (bH {s with D:=[]}) ⟨5,s.B,[],s.i,[]⟩;have b:=a.bd.2.1;refine EQ (JB (Rm (zQ h a.q a.r a.bd.2.1 []) _) [] λ_=>?_) ?_ ?_ ⟨f.2.1,f.2.2.1⟩ ?_
 .rw[e];show(0:Int)<=s.S;omega
 .show(aX (bH {s with D:=[]}) ⟨5,s.B,[],s.i,[]⟩).t=0;rw[e];exact a.q
 .show aZ (aX (bH {s with D:=[]}) ⟨5,s.B,[],s.i,[]⟩).rp=false;rw[e];exact a.r
 show 8<=(aX (bH {s with D:=[]}) ⟨5,s.B,[],s.i,[]⟩).S;rwa[e]
def ER(h:V s)(hd:U):V {s with D:=hd}:={h with}
def ad_(d:Wq s)(h:V s)(e:s.H=7)(b:Int)(f:0<=b)(a:(fu s b).2=0):V (fu s b).1:=by
 unfold fu at a⊢;split at a
 .rename_i g;rw[J g];exact ad9 d h
 rename_i g;rw[M g];split at a
 .simp at a
 rename_i i;rw[M i];split at a
 .rename_i c;rw[J c];exact ER h _
 rename_i c;rw[M c];exact wA d h (by omega) b f a
def aea(a:Wq s)(h:V s)(d:s.H=2)(b:Int)(i:0<=b)(c:(fH s b).2=0):V (fH s b).1:=by
 unfold fH at c⊢;split at c
 .rename_i g;rw[J g];exact qi (ER h []) a.q a.r (a.zzt) a.bd.2.1 1 s.aW
 rename_i g;rw[M g];split at c
 .rename_i e;rw[J e];exact EO h (.inr d) _
 rename_i e;rw[M e];split at c
 .rename_i f;rw[J f];exact ER h _
 rename_i f;rw[M f];exact wA a h (by omega) b i c
def JC(a:¬(s.H=1\/s.H=2)){m:Int}(h:gb s m=true):s.G+m<=s.S:=by
 unfold gb bI at h;have:(s.H==1||s.H==2)=false:=by simp;omega
 rw[this]at h;simpa using h
def Ro(d:Wq s)(h:V s)(f:s.H=11)(b:Int)(i:0<=b)(a:(dN s b).2=0):V (dN s b).1:=by
 unfold dN at a⊢;split at a
 .rename_i g;rw[J g];exact Rn d h
 rename_i g;rw[M g];split at a
 .rename_i e;rw[J e];split at a
  .rename_i c;rw[J c];exact EP h (by omega) 63 (by decide) (by decide) (JC (by omega) c) d.q d.r
  simp at a
 rename_i e;rw[M e];split at a
 .rename_i c;rw[J c];exact ER h _
 rename_i c;rw[M c];exact wA d h (by omega) b i a
def JD(a:Wq s)(h:V s)(c:s.H=8\/s.H=12\/s.H=14)(b:Int)(f:Mk.eD b=true)(d:gb s 1=true):V {s with i:=s.i++[Mk.u8 b],G:=s.G+1}:=by
 have j:=h.ct (by omega);have i:=a.c8 c;have d:=JC (by omega) d;have e:=uf f
 exact{h with
  ct:=λ_=>⟨by
   show s.G+1=(chars (s.i++[Mk.u8 b]):Int)
   have:chars [Mk.u8 b]=1:=by unfold chars;simp[EN e.1 e.2]
   rw[EM,this];omega,d⟩
  tn:=λ_=>by show((s.i++[Mk.u8 b]).length:Int)<=s.S;simp;omega
  pc:=λg=>by have g:0<s.t:=g;have:=a.q;omega
  rp:=λg=>by have g:aZ s.rp=true:=g;rw[a.r]at g;cases g}
def aeb(c:Wq s)(h:V s)(d:s.H=8)(b:Int)(a:(cN s b).2=0):V (cN s b).1:=by
 have i:bI s=false:=by unfold bI;simp[d]
 have j:=c.c8 (.inl d);have k:=h.ct (by omega);unfold cN at a⊢;split at a
 .simp at a
 rename_i g;rw[M g];split at a
 .rename_i e;rw[J e];unfold fS at a⊢;split at a
  .rename_i f;rw[J f,pK i,sO b (uf e).2];exact JD c h (.inl d) b e f
  simp at a
 rename_i e;rw[M e];split at a
 .simp at a
 rename_i f;rw[M f];split at a
 .simp at a
 rename_i l;rw[M l];have m:V {bH s with B:=s.i}:={(zQ h c.q c.r c.bd.2.1 s.D)with nm:=λg=>by show(s.i.length:Int)<=s.S;omega};exact qi m c.q c.r ⟨rfl,rfl⟩ c.bd.2.1 _ s.aW (by split<;>omega) (λ_=>by show(s.i.length:Int)<=s.S;omega)
def aec(a:Wq s)(h:V s)(e:s.H=10)(b:Int)(f:0<=b)(c:(jK s b).2=0):V (jK s b).1:=by
 have d:=a.zzt;unfold jK at c⊢;split at c
 .rename_i g;rwa[J g]
 rename_i g;rw[M g];refine Ro (s:={s with H:=11}) ?_ ?_ rfl b f c
 .exact oI a (a.hs.none) d (a.jv<|by omega) 11 (by omega) (by omega) (by omega) (λg=>(a.ov g).1) s.aW
 exact qi h a.q a.r d a.bd.2.1 11 s.aW (by omega) λ_=>h.nm (by omega)
def aed(a:Wq s)(h:V s)(d:s.H=0)(b:Int)(c:(h_ s b).2=0):V (h_ s b).1:=by
 unfold h_ at c⊢;split at c
 .rename_i g;rwa[J g]
 rename_i g;rw[M g];split at c
 .rename_i e;rw[J e];exact qi h a.q a.r (a.zzt) a.bd.2.1 3 s.aW
 simp at c
def BW(h:V s)(n:Int):V {s with bG:=n}:={h with}
def aee(c:Wq s)(h:V s)(d:s.H=1)(b:Int)(f:0<=b)(a:(fw s b).2=0):V (fw s b).1:=by
 unfold fw at a⊢;split at a
 .rename_i g;rw[J g];exact qi (BW h 0) c.q c.r (c.zzt) c.bd.2.1 3 s.aW
 rename_i g;rw[M g];split at a
 .rename_i i;rw[J i]
  exact{BW h 0 with
   rp:=λ_ g=>by exfalso;have g:s.H=17:=g;omega
   pc:=λg=>by have g:0<s.t:=g;have:=c.q;omega}
 rename_i i;rw[M i];split at a
 .rename_i j;rw[J j];split at a
  .simp at a
  rename_i e;rw[M e];exact wA (v_ c 0) (BW h 0) (.inl d) b f a
 rename_i j;rw[M j];split at a
 .rename_i e;rw[J e];exact wA (v_ c (if s.bG==0 then 1 else 2)) (BW h (if s.bG==0 then 1 else 2)) (.inl d) b f a
 rename_i e;rw[M e];exact wA (v_ c 0) (BW h 0) (.inl d) b f a
def aef(a:Wq s)(h:V s)(m:s.H=3)(b:Int)(c:(eG s b).2=0):V (eG s b).1:=by
 have d:=a.zzt;have e:=a.bd.2.1;unfold eG at c⊢;split at c
 .rename_i g;rw[J g];exact qi h a.q a.r d e 4 s.aW
 rename_i g;rw[M g];split at c
 .rename_i i;rw[J i];exact qi h a.q a.r d e 8 s.aW
 rename_i i;rw[M i];split at c
 .rename_i j;rw[J j];exact qi h a.q a.r d e 20 0
 rename_i j;rw[M j];split at c
 .rename_i f;rw[J f];have f:dP b=true/\s.over=false:=by simpa using f
  unfold mg at c⊢;split at c
  .simp at c
  rename_i n;rw[M n];have k:bI {s with H:=12}=false:=rfl;have l:=EE f.1;rw[pK k,sO b l.2]
  exact{(qi h a.q a.r d e 12 s.aW)with
   ct:=λ_=>⟨by
    have:chars [Mk.u8 b]=1:=by unfold chars;simp[EN l.1 l.2]
    rw[EM,this,d.1,d.2];rfl,by show s.G+1<=s.S;omega⟩
   tn:=λg=>by exfalso;have g:(12:Int)=14:=g;omega
   pc:=λg=>by have g:0<s.t:=g;have:=a.q;omega
   rp:=λg=>by have g:aZ s.rp=true:=g;rw[a.r]at g;cases g}
 simp at c
def aeg(a:Wq s)(h:V s)(f:s.H=4)(b:Int)(c:(gF s b).2=0):V (gF s b).1:=by
 have d:=a.zzt;have e:=a.bd.2.1;unfold gF at c⊢;split at c
 .rename_i g;rw[J g];exact qi h a.q a.r d e 5 s.aW
 rename_i g;rw[M g];split at c
 .rename_i i;rw[J i];exact qi h a.q a.r d e 6 0
 simp at c
def aeh(a:Wq s)(h:V s)(d:s.H=5)(b:Int)(c:(iO s b).2=0):V (iO s b).1:=by
 unfold iO at c⊢;split at c
 .rename_i g;rw[J g];exact qi h a.q a.r (a.zzt) a.bd.2.1 7 s.aW
 simp at c
def aei(a:Wq s)(h:V s)(e:s.H=6)(b:Int)(c:(dQ s b).2=0):V (dQ s b).1:=by
 unfold dQ at c⊢;split at c
 .simp at c
 rename_i g;rw[M g];split at c
 .rename_i d;rw[J d];exact qi h a.q a.r (a.zzt) a.bd.2.1 2 (s.aW+1)
 rename_i d;rw[M d];exact{h with}
def aej(c:Wq s)(h:V s)(b:Int)(a:(jD s b).2=0):V (jD s b).1:=by
 unfold jD at a⊢;split at a
 .rename_i g;rw[J g];exact Rn c h
 simp at a
def zR(h:V s)(i:s.t=0)(b:aZ s.rp=false)(j:8<=s.S)(a:Int)(k:12<=a/\a<=19/\a≠14)(c:a=17->s.i=[]/\s.G=0)(d:a≠12)(e:(a=15\/a=16\/a=17)->(s.attr.length:Int)<=s.S/\s.attr∉Names s.f/\(s.f.length:Int)<s.oa)(f:Int):V {s with H:=a,aj2:=f}:=
 {h with
  ct:=λg=>by
   have g:a=7\/a=8\/a=11\/a=12\/a=14\/a=17:=g
   have:=c (by omega)
   exact⟨by show s.G=(chars s.i:Int);rw[this.1,this.2];rfl,by show s.G<=s.S;omega⟩
  tn:=λg=>by exfalso;have g:a=14:=g;omega
  an:=e
  al:=λg=>by exfalso;have g:a=14:=g;omega
  nm:=λg=>by exfalso;have g:9<=a/\a<=11:=g;omega
  pc:=λg=>by have g:0<s.t:=g;omega
  rp:=λg=>by have g:aZ s.rp=true:=g;rw[b]at g;cases g}
def Rp(d:Wq s)(h:V s)(b:s.H≠14/\s.H≠15/\s.H≠16/\s.H≠17):V (bX s):=by
 rw[oW]
 exact{h with
  tT:=λa c=>by cases c
  zP:=nodup_nil
  Jy:=by show(0:Int)<=s.oa;have:=h.Jy;omega
  an:=λg=>by exfalso;have g:s.H=15\/s.H=16\/s.H=17:=g;omega
  al:=λg=>aj6 g b.1}
def aek(a:Wq s)(h:V s)(e:s.i=[]/\s.G=0)(f:s.H=12\/s.H=13\/s.H=18)(b:Int):V (gL s b):=by
 have c:=a.bd.2.1;unfold gL;split
 .exact zR h a.q a.r c 19 (by omega) (by omega) (by omega) (by omega) s.aj2
 have d:=Rp a h (by omega);rw[(oW s)]at d⊢;have i:V {s with C:=(bX s).C,F:=(bX s).F,f:=[],I:=s.I++[s.B],B:=[]}:={d with nm:=λg=>by show(0:Int)<=s.S;omega};exact EQ i a.q a.r e c
def JE(a:Wq s)(h:V s)(e:s.i=[]/\s.G=0)(d:s.H=12\/s.H=13\/s.H=18)(b:Int)(c:(dR s b).2=0):V (dR s b).1:=by
 unfold dR at c⊢;split at c
 .rename_i g;rw[J g];exact zR h a.q a.r a.bd.2.1 13 (by omega) (by omega) (by omega) (by omega) s.aj2
 rename_i g;rw[M g];split at c
 .rename_i f;rw[J f,Mk.ia,M<|by rw[h.on];decide];exact aek a h e d b
 simp at c
def ael(c:Wq s)(h:V s)(a:s.H=12)(b:Int)(d:(iP s b).2=0):V (iP s b).1:=by
 have f:bI s=false:=by unfold bI;simp[a]
 unfold iP at d⊢;split at d
 .rename_i e;rw[J e];unfold fS at d⊢;split at d
  .rename_i i;rw[J i,pK f,sO b (uf e).2];exact JD c h (.inr (.inl a)) b e i
  simp at d
 rename_i e;rw[M e];exact JE (BN (zI c (c.hs.none)<|by omega) s.i λj e=>c.mZ a) (JB (s:=bH s) (zQ h c.q c.r c.bd.2.1 s.D) s.i (λg=>by exfalso;have g:9<=s.H/\s.H<=11:=g;omega)) ⟨rfl,rfl⟩ (.inl a) b d
def aem(a:Wq s)(h:V s)(i:s.H=13)(b:Int)(c:(gV s b).2=0):V (gV s b).1:=by
 have d:=a.zzt;have k:=a.bd.2.1;unfold gV at c⊢;split at c
 .rename_i g;rw[J g];exact JE a h d (by omega) b c
 rename_i g;rw[M g];split at c
 .simp at c
 rename_i j;rw[M j];have e:bI {s with H:=14}=false:=rfl;have g:dP b=true:=by simpa using g
 have f:=EE g;rw[pK e,sO b f.2]
 exact{h with
  ct:=λ_=>⟨by
   have:chars [Mk.u8 b]=1:=by unfold chars;simp[EN f.1 f.2]
   rw[EM,this,d.1,d.2];rfl,by show s.G+1<=s.S;omega⟩
  tn:=λ_=>by show((s.i++[Mk.u8 b]).length:Int)<=s.S;rw[d.1];simp;omega
  an:=λg=>by exfalso;have g:(14:Int)=15\/(14:Int)=16\/(14:Int)=17:=g;omega
  al:=λ_=>by show(s.f.length:Int)<s.oa;omega
  nm:=λg=>by exfalso;have g:(9:Int)<=14/\(14:Int)<=11:=g;omega
  pc:=λg=>by have g:0<s.t:=g;have:=a.q;omega
  rp:=λg=>by have g:aZ s.rp=true:=g;rw[a.r]at g;cases g}
def Rq(a:Wq s)(h:V s)(f:s.i=[]/\s.G=0)(d:(s.attr.length:Int)<=s.S/\s.attr∉Names s.f/\(s.f.length:Int)<s.oa)(b:Int)(c:(fI s b).2=0):V (fI s b).1:=by
 unfold fI at c⊢;split at c
 .rename_i g;rw[J g];exact zR h a.q a.r a.bd.2.1 15 (by omega) (by omega) (by omega) (λ_=>d) s.aj2
 rename_i g;rw[M g];split at c
 .rename_i e;rw[J e];exact zR h a.q a.r a.bd.2.1 16 (by omega) (by omega) (by omega) (λ_=>d) s.aj2
 simp at c
def aen(s:Z)(n:U):gM s n=false↔n∉Names s.f:=by
 rw[gM,Names,ajT];constructor
 .intro h c;obtain⟨a,b,rfl⟩:=mem_map.1 c;exact h a b (by simp)
 intro h a b g;exact h (mem_map.2 ⟨a,b,by simpa using g⟩)
def aeo(d:Wq s)(h:V s)(c:s.H=14)(b:Int)(a:(fU s b).2=0):V (fU s b).1:=by
 have i:bI s=false:=by unfold bI;simp[c]
 have l:s.D=[]:=d.hs.none;have j:=d.bd.2.1;unfold fU at a⊢;split at a
 .rename_i g;rw[J g];unfold mh at a⊢;split at a
  .rename_i e;rw[J e];split at a
   .simp at a
   rename_i f;rw[M f,pK i,sO b (uf g).2];exact JD d h (.inr (.inr c)) b g e
  simp at a
 rename_i g;rw[M g];split at a
 .simp at a
 rename_i e;rw[M e];split at a
 .simp at a
 rename_i f;rw[M f];have k:V {bH s with attr:=s.i}:={zQ h d.q d.r j s.D with an:=λg=>by exfalso;have g:s.H=15\/s.H=16\/s.H=17:=g;omega};refine Rq (s:={bH s with attr:=s.i}) ?_ k ⟨rfl,rfl⟩ ⟨h.tn c,((aen s s.i).1<|by simpa using f),h.al c⟩ b a
 exact{d with
  mZ:=λg=>by exfalso;have g:s.H=12:=g;omega
  tk:=λ_ _ _ _ _ _=>⟨rfl,rfl⟩
  c8:=λ_=>rfl
  lN:=λ_=>⟨λ_=>by show(0:Int)+1<=s.S;omega,(d.lN c).2⟩}
def aep(a:Wq s)(h:V s)(d:s.H=16)(b:Int)(c:(gW s b).2=0):V (gW s b).1:=by
 unfold gW at c⊢;split at c
 .rename_i g;rwa[J g]
 rename_i g;rw[M g];split at c
 .rename_i e;rw[J e];exact zR h a.q a.r a.bd.2.1 17 (by omega) (λ_=>(a.zzt)) (by omega) (λ_=>h.an<|by omega) b
 simp at c
def aer(d:Wq s)(h:V s)(m:s.H=17)(b:Int)(n:0<=b)(c:(fA s b).2=0):V (fA s b).1:=by
 have j:=h.an (by omega);have o:=h.ct (by omega);unfold fA at c⊢;split at c
 .rename_i g;rw[J g]
  exact{(zR (zQ h d.q d.r d.bd.2.1 s.D) d.q d.r d.bd.2.1 18 (by omega) (by omega) (by omega) (by omega) s.aj2)with
   tT:=λa f=>by
    obtain f|f:=mem_append.1 f
    .exact h.tT a f
    simp at f;subst f
    exact⟨j.1,by show(chars s.i:Int)<=s.S;omega⟩
   zP:=by
    show(Names (s.f++[⟨s.attr,[],s.i⟩])).Nodup
    rw[Names,mP,nodup_append]
    refine⟨h.zP,by simp,λx hx y l=>?_⟩
    simp at l
    subst l
    intro e
    subst e
    exact j.2.1 hx
   Jy:=by show((s.f++[(⟨s.attr,[],s.i⟩:aI)]).length:Int)<=s.oa;simp;omega
   an:=λg=>by exfalso;have g:(18:Int)=15\/(18:Int)=16\/(18:Int)=17:=g;omega
   al:=λg=>by exfalso;have g:(18:Int)=14:=g;omega}
 rename_i g;rw[M g];split at c
 .simp at c
 rename_i p;rw[M p];split at c
 .rename_i k;rw[J k];split at c
  .rename_i i;rw[J i]
   exact{h with
    rp:=λ_ _=>JC (by omega) i
    pc:=λg=>by have g:0<s.t:=g;have:=d.q;omega}
  simp at c
 rename_i k;rw[M k];split at c
 .rename_i i;rw[J i];exact wA d h (by omega) 32 (by omega) c
 rename_i i;rw[M i];exact wA d h (by omega) b n c
def aes(h:s.T=[])(n:U):(bZ s n).T=[]:=by
 rw[bZ,jb,iy,Mk.nO,(yX (dZ (aX s ⟨2,n,Mk.bQ s n,[],[]⟩)).reverse (aX s ⟨2,n,Mk.bQ s n,[],[]⟩)),(kI s ⟨2,n,Mk.bQ s n,[],[]⟩)];rw[h];rfl
def Rs(a:s.t=0/\aZ s.rp=false)(h:V s)(b:s.i=[]/\s.G=0)(c:8<=s.S)(n:U):V (bZ s n):=by
 rw[sN];have d:V {s with C:=(bZ s n).C,F:=(bZ s n).F,m:=(bZ s n).m,T:=(bZ s n).T,over:=decide (s.I.length=0)}:={h with cn:=aes h.cn n};exact EQ (s:={s with C:=(bZ s n).C,F:=(bZ s n).F,m:=(bZ s n).m,T:=(bZ s n).T,over:=decide (s.I.length=0)}) d a.1 a.2 b c
def aet(a:Wq s)(h:V s)(d:s.H=19)(b:Int)(c:(jL s b).2=0):V (jL s b).1:=by
 have i:=a.bd.2.1;unfold jL at c⊢;split at c
 .simp at c
 rename_i g;rw[M g];have e:=oW s;have f:=Rs ⟨by rw[e];exact a.q,by rw[e];exact a.r⟩ (Rp a h<|by omega) (by rw[e];exact(a.zzt)) (by rwa[e]) s.B;refine JB f [] λ_=>?_;rw[sN,e];show(0:Int)<=s.S;omega
def aeu(a:Wq s)(h:V s)(b:s.H=20\/s.H=21):V (kH s):=by
 unfold kH;exact Rs (s:={s with I:=s.I.dropLast}) ⟨a.q,a.r⟩ {h with} (a.zzt) a.bd.2.1 _
def Ru(a:Wq s)(h:V s)(d:s.H=20\/s.H=21)(b:Int)(c:(gh s b).2=0):V (gh s b).1:=by
 unfold gh at c⊢;split at c
 .rename_i g;rw[J g];exact qi h a.q a.r (a.zzt) a.bd.2.1 21 s.aW
 rename_i g;rw[M g];split at c
 .rename_i e;rw[J e];exact aeu a h d
 simp at c
def aev(e:Wq s)(h:V s)(c:s.H=20)(b:Int)(a:(iC s b).2=0):V (iC s b).1:=by
 unfold iC at a⊢;split at a
 .rename_i g;rw[J g];split at a
  .simp at a
  rename_i d;rw[M d];exact{h with}
 rename_i g;rw[M g];split at a
 .simp at a
 rename_i d;rw[M d];exact Ru e h (.inl c) b a
def aew(g:W s)(h:V s)(b:Int)(i:0<=b)(c:(aP s b).2=0):V (aP s b).1:=by
 by_cases j:0<s.t
 .have e:aP s b=fT s b:=by unfold aP;rw[J j]
  rw[e]at c⊢;exact ad6 g h j b c
 have a:s.t=0:=by have:=g.p0;omega
 cases d:aZ s.rp
 .have f:Wq s:=⟨g,a,d⟩;have l:=g.st;have k:s.H=0\/s.H=1\/s.H=2\/s.H=3\/s.H=4\/s.H=5\/s.H=6\/s.H=7\/s.H=8\/s.H=9\/s.H=10\/s.H=11\/s.H=12\/s.H=13\/s.H=14\/s.H=15\/s.H=16\/s.H=17\/s.H=18\/s.H=19\/s.H=20\/s.H=21:=by omega
  obtain e|e|e|e|e|e|e|e|e|e|e|e|e|e|e|e|e|e|e|e|e|e:=k
  .have q:aP s b=h_ s b:=by unfold aP;simp[a,d,e]
   rw[q]at c⊢;exact aed f h e b c
  .have q:aP s b=fw s b:=by unfold aP;simp[a,d,e]
   rw[q]at c⊢;exact aee f h e b i c
  .have q:aP s b=fH s b:=by unfold aP;simp[a,d,e]
   rw[q]at c⊢;exact aea f h e b i c
  .have q:aP s b=eG s b:=by unfold aP bU;simp[a,d,e]
   rw[q]at c⊢;exact aef f h e b c
  .have q:aP s b=gF s b:=by unfold aP bU;simp[a,d,e]
   rw[q]at c⊢;exact aeg f h e b c
  .have q:aP s b=iO s b:=by unfold aP bU;simp[a,d,e]
   rw[q]at c⊢;exact aeh f h e b c
  .have q:aP s b=dQ s b:=by unfold aP bU;simp[a,d,e]
   rw[q]at c⊢;exact aei f h e b c
  .have q:aP s b=fu s b:=by unfold aP;simp[a,d,e]
   rw[q]at c⊢;exact ad_ f h e b i c
  .have q:aP s b=cN s b:=by unfold aP bU;simp[a,d,e]
   rw[q]at c⊢;exact aeb f h e b c
  .have q:aP s b=jD s b:=by unfold aP bU;simp[a,d,e]
   rw[q]at c⊢;exact aej f h b c
  .have q:aP s b=jK s b:=by unfold aP bU;simp[a,d,e]
   rw[q]at c⊢;exact aec f h e b i c
  .have q:aP s b=dN s b:=by unfold aP;simp[a,d,e]
   rw[q]at c⊢;exact Ro f h e b i c
  .have q:aP s b=iP s b:=by unfold aP bU dV;simp[a,d,e]
   rw[q]at c⊢;exact ael f h e b c
  .have q:aP s b=gV s b:=by unfold aP bU dV;simp[a,d,e]
   rw[q]at c⊢;exact aem f h e b c
  .have q:aP s b=fU s b:=by unfold aP bU dV;simp[a,d,e]
   rw[q]at c⊢;exact aeo f h e b c
  .have q:aP s b=fI s b:=by unfold aP bU dV;simp[a,d,e]
   rw[q]at c⊢;exact Rq f h (g.zzt) (h.an<|by omega) b c
  .have q:aP s b=gW s b:=by unfold aP bU dV;simp[a,d,e]
   rw[q]at c⊢;exact aep f h e b c
  .have q:aP s b=fA s b:=by unfold aP;simp[a,d,e]
   rw[q]at c⊢;exact aer f h e b i c
  .have q:aP s b=dR s b:=by unfold aP bU dV;simp[a,d,e]
   rw[q]at c⊢;exact JE f h (g.zzt) (by omega) b c
  .have q:aP s b=jL s b:=by unfold aP bU dV;simp[a,d,e]
   rw[q]at c⊢;exact aet f h e b c
  .have q:aP s b=iC s b:=by unfold aP bU;simp[a,d,e]
   rw[q]at c⊢;exact aev f h e b c
  have q:aP s b=gh s b:=by unfold aP bU;simp[a,d,e]
  rw[q]at c⊢;exact Ru f h (.inr e) b c
 have e:aP s b=fD s b:=by unfold aP;rw[M j,J d]
 rw[e]at c⊢;exact ad8 g h d a b c
structure Sh where
 I:List U
 zo:Nat
 qU:Nat
 tok:Nat
 out:Nat
 pt:Bool
structure Qt(s s1:Z):Prop where
 li:s1.C=s.C
 op:s1.I=s.I
 ov:s1.over=s.over
 od:s1.od=s.od
 oa:s1.oa=s.oa
 S:s1.S=s.S
 tx:s1.F=s.F\/s.I≠[]
def aex(s:Z)(e:Ev):(aX s e).C=(if s.F.length=0 then s.C else s.C++[⟨3,[],[],s.F,[]⟩])++[e]:=by
 unfold aX bK;split<;>rfl
def zS(s:Z)(e:Ev):(aX s e).F=[]:=by
 unfold aX bK;split
 .rename_i h;exact length_eq_zero_iff.1 h
 rfl
def Rv(h:s.T=[]):dZ s=[]:=by rw[dZ,Mk.oM,h];simp
def aey(h:s.T=[])(a:s.on=false):bX s={aX s ⟨1,s.B,[],[],s.f⟩with f:=[]}:=by
 rw[bX,Mk.gK,Rv h,Mk.bQ,a];rfl
def Rw(h:s.T=[])(a:s.on=false)(n:U):(bZ s n).C=(aX s ⟨2,n,[],[],[]⟩).C/\(bZ s n).F=[]:=by
 unfold bZ jb Mk.bQ;rw[a];have b:(aX s ⟨2,n,[],[],[]⟩).T=[]:=by rwa[(kI s ⟨2,n,[],[],[]⟩)]
 rw[M,Rv b];exact⟨rfl,zS s ⟨2,n,[],[],[]⟩⟩
def Qt.trans{a b c:Z}(h:Qt a b)(g:Qt b c):Qt a c:=
 ⟨g.li.trans h.li,g.op.trans h.op,g.ov.trans h.ov,g.od.trans h.od,g.oa.trans h.oa,g.S.trans h.S,by
  obtain e|e:=g.tx
  .rcases h.tx with d|d
   .exact .inl (e.trans d)
   exact .inr d
  exact .inr (by rwa[<-h.op])⟩
def Qt.of{s1:Z}(a:s1.C=s.C)(b:s1.I=s.I)(c:s1.over=s.over)(d:s1.od=s.od)(e:s1.oa=s.oa)(f:s1.S=s.S)(tx:s1.F=s.F):Qt s s1:=⟨a,b,c,d,e,f,.inl tx⟩
def Io(s:Z):Prop:=(s.H=1\/s.H=2)->s.I≠[]
def sQ(h:Io s)(c:Int):Qt s (bV s c):=by
 unfold bV;split
 .rename_i g;refine⟨rfl,rfl,rfl,rfl,rfl,rfl,.inr (h ?_)⟩;unfold bI at g;simpa using g
 exact .of rfl rfl rfl rfl rfl rfl rfl
def aez(h:Io s)(c:Int):Io (bV s c):=by
 unfold bV;split<;>exact h
def Ry:∀(l:U) {s:Z},Io s->Qt s (dW s l)/\Io (dW s l)
 |[],s,h=>⟨.of rfl rfl rfl rfl rfl rfl rfl,h⟩
 |y::r,s,h=>by
  have:=Ry r (aez h y.toNat);exact⟨(sQ h _).trans this.1,this.2⟩
def Rz(h:Io s)(p:Int×Int):Qt s (gD s p):=by
 unfold gD;split
 .exact(Qt.of (s:=s) (s1:={s with pc:=p.1,t:=p.2}) rfl rfl rfl rfl rfl rfl rfl).trans (sQ (s:={s with pc:=p.1,t:=p.2}) h _)
 exact .of rfl rfl rfl rfl rfl rfl rfl
def zT(h:Io s)(b:Int):Qt s (cV s b).1:=by
 unfold cV;split
 .exact .of rfl rfl rfl rfl rfl rfl rfl
 split
 .have:=Ry s.D h;exact this.1.trans ((Qt.of (s:=dW s s.D) (s1:={dW s s.D with D:=[]}) rfl rfl rfl rfl rfl rfl rfl).trans (Rz (s:={dW s s.D with D:=[]}) this.2 _))
 exact .of rfl rfl rfl rfl rfl rfl rfl
def aeA(h:Io s)(b:Int):Qt s (fT s b).1:=by
 unfold fT;split
 .exact .of rfl rfl rfl rfl rfl rfl rfl
 exact Rz h _
def aeB(h:Io s)(b:Int):Qt s (fD s b).1:=by
 unfold fD;split
 .exact .of rfl rfl rfl rfl rfl rfl rfl
 split
 .exact .of rfl rfl rfl rfl rfl rfl rfl
 rename_i r _ _;exact(Qt.of (s:=s) (s1:=kZ s r) rfl rfl rfl rfl rfl rfl rfl).trans (sQ (s:=kZ s r) h _)
inductive wB(s:Z):Z->Prop
 |quiet {s1:Z}:Qt s s1->wB s s1
 |comm:s.H=7->wB s (mS s)
 |instr:s.H=9\/s.H=11->wB s (kG s)
 |start {s' :Z}:(s.H=12/\s' ={bH s with B:=s.i})\/((s.H=13\/s.H=18)/\s' =s)->wB s (gL s' 62)
 |slash:s.H=19->wB s {bZ (bX s) s.B with B:=[]}
 |ends:s.H=20\/s.H=21->wB s (kH s)
def aeC(e:Io s)(c:s.H=7)(b:Int)(a:(fu s b).2=0):wB s (fu s b).1:=by
 unfold fu at a⊢;split at a
 .rename_i g;rw[J g];exact .comm c
 rename_i g;rw[M g];split at a
 .simp at a
 rename_i f;rw[M f];split at a
 .rename_i d;rw[J d];exact .quiet (.of rfl rfl rfl rfl rfl rfl rfl)
 rename_i d;rw[M d];exact .quiet (zT e b)
def aeD(d:Io s)(f:s.H=11)(b:Int)(a:(dN s b).2=0):(wB s (dN s b).1)/\(s.D=[]->Qt s (dN s b).1):=by
 unfold dN at a⊢;split at a
 .rename_i g;rw[J g];exact⟨.instr (.inr f),λe=>by rw[e]at g;cases g.2⟩
 rename_i g;rw[M g];split at a
 .rename_i h;rw[J h];split at a
  .rename_i c;rw[J c];exact⟨.quiet (sQ d _),λ_=>sQ d _⟩
  simp at a
 rename_i h;rw[M h];split at a
 .rename_i c;rw[J c];exact⟨.quiet (.of rfl rfl rfl rfl rfl rfl rfl),λ_=>.of rfl rfl rfl rfl rfl rfl rfl⟩
 rename_i c;rw[M c];exact⟨.quiet (zT d b),λ_=>zT d b⟩
def aeE(a:Io s)(b:Int):Qt s (fH s b).1:=by
 unfold fH;split
 .exact .of rfl rfl rfl rfl rfl rfl rfl
 split
 .exact sQ a _
 split
 .exact .of rfl rfl rfl rfl rfl rfl rfl
 exact zT a b
def aeF(c:Io s)(b:Int):Qt s (fw s b).1:=by
 have a:∀n,Qt s (cV {s with bG:=n} b).1:=λn=>(Qt.of (s:=s) (s1:={s with bG:=n}) rfl rfl rfl rfl rfl rfl rfl).trans (zT (s:={s with bG:=n}) c b);unfold fw;split
 .exact .of rfl rfl rfl rfl rfl rfl rfl
 split
 .exact .of rfl rfl rfl rfl rfl rfl rfl
 split
 .split
  .exact .of rfl rfl rfl rfl rfl rfl rfl
  exact a _
 split
 .exact a _
 exact a _
def aeG(s:Z)(b:Int):Qt s (h_ s b).1:=by
 unfold h_
 (repeat' split)<;>exact .of rfl rfl rfl rfl rfl rfl rfl
def aeH(b:Int):Qt s (eG s b).1:=by
 have a:Qt s (bV {s with H:=12} b):=(Qt.of (s:=s) (s1:={s with H:=12}) rfl rfl rfl rfl rfl rfl rfl).trans (sQ (s:={s with H:=12}) (λg=>by exfalso;have g:(12:Int)=1\/(12:Int)=2:=g;omega) b);unfold eG mg
 (repeat' split)<;>first|exact .of rfl rfl rfl rfl rfl rfl rfl|exact a
def aeI(s:Z)(b:Int):Qt s (gF s b).1:=by
 unfold gF
 (repeat' split)<;>exact .of rfl rfl rfl rfl rfl rfl rfl
def aeJ(s:Z)(b:Int):Qt s (iO s b).1:=by
 unfold iO
 (repeat' split)<;>exact .of rfl rfl rfl rfl rfl rfl rfl
def aeK(s:Z)(b:Int):Qt s (dQ s b).1:=by
 unfold dQ
 (repeat' split)<;>exact .of rfl rfl rfl rfl rfl rfl rfl
def aeL(a:Io s)(b:Int):Qt s (cN s b).1:=by
 unfold cN fS
 (repeat' split)<;>first|exact .of rfl rfl rfl rfl rfl rfl rfl|exact sQ a b
def RA(s:Z)(b:Int):Qt s (fI s b).1:=by
 unfold fI
 (repeat' split)<;>exact .of rfl rfl rfl rfl rfl rfl rfl
def aeM(a:Io s)(b:Int):Qt s (fU s b).1:=by
 have c:Qt s (fI {bH s with attr:=s.i} b).1:=(Qt.of (s:=s) (s1:={bH s with attr:=s.i}) rfl rfl rfl rfl rfl rfl rfl).trans (RA _ b);unfold fU mh
 (repeat' split)<;>first|exact .of rfl rfl rfl rfl rfl rfl rfl|exact sQ a b|exact c
def aeN(s:Z)(b:Int):Qt s (gW s b).1:=by
 unfold gW
 (repeat' split)<;>exact .of rfl rfl rfl rfl rfl rfl rfl
def aeO(a:Io s)(b:Int):Qt s (fA s b).1:=by
 unfold fA
 (repeat' split)<;>first|exact .of rfl rfl rfl rfl rfl rfl rfl|exact zT a _
inductive Rd(s:Z)(b:Int):(Z->Int->Z×Int)->Prop
 |r0:s.H=0->Rd s b h_
 |r1:s.H=1->Rd s b fw
 |r2:s.H=2->Rd s b fH
 |r3:s.H=3->Rd s b eG
 |r4:s.H=4->Rd s b gF
 |r5:s.H=5->Rd s b iO
 |r6:s.H=6->Rd s b dQ
 |r7:s.H=7->Rd s b fu
 |r8:s.H=8->Rd s b cN
 |r9:s.H=9->Rd s b jD
 |JF:s.H=10->Rd s b jK
 |JG:s.H=11->Rd s b dN
 |JH:s.H=12->Rd s b iP
 |JI:s.H=13->Rd s b gV
 |JJ:s.H=14->Rd s b fU
 |JK:s.H=15->Rd s b fI
 |r16:s.H=16->Rd s b gW
 |JL:s.H=17->Rd s b fA
 |JM:s.H=18->Rd s b dR
 |JN:s.H=19->Rd s b jL
 |JO:s.H=20->Rd s b iC
 |JP:s.H=21->Rd s b gh
def RB(h:0<=s.H/\s.H<=21)(i:s.t=0)(j:aZ s.rp=false)(b:Int):∃f,Rd s b f/\∀z:Z,z.H=s.H->z.t=0->aZ z.rp=false->aP z b=f z b:=by
 have g:s.H=0\/s.H=1\/s.H=2\/s.H=3\/s.H=4\/s.H=5\/s.H=6\/s.H=7\/s.H=8\/s.H=9\/s.H=10\/s.H=11\/s.H=12\/s.H=13\/s.H=14\/s.H=15\/s.H=16\/s.H=17\/s.H=18\/s.H=19\/s.H=20\/s.H=21:=by omega
 obtain e|e|e|e|e|e|e|e|e|e|e|e|e|e|e|e|e|e|e|e|e|e:=g
 .exact⟨_,.r0 e,λz a c d=>by rw[e]at a;unfold aP;simp[a,c,d]⟩
 .exact⟨_,.r1 e,λz a c d=>by rw[e]at a;unfold aP;simp[a,c,d]⟩
 .exact⟨_,.r2 e,λz a c d=>by rw[e]at a;unfold aP;simp[a,c,d]⟩
 .exact⟨_,.r3 e,λz a c d=>by rw[e]at a;unfold aP bU;simp[a,c,d]⟩
 .exact⟨_,.r4 e,λz a c d=>by rw[e]at a;unfold aP bU;simp[a,c,d]⟩
 .exact⟨_,.r5 e,λz a c d=>by rw[e]at a;unfold aP bU;simp[a,c,d]⟩
 .exact⟨_,.r6 e,λz a c d=>by rw[e]at a;unfold aP bU;simp[a,c,d]⟩
 .exact⟨_,.r7 e,λz a c d=>by rw[e]at a;unfold aP;simp[a,c,d]⟩
 .exact⟨_,.r8 e,λz a c d=>by rw[e]at a;unfold aP bU;simp[a,c,d]⟩
 .exact⟨_,.r9 e,λz a c d=>by rw[e]at a;unfold aP bU;simp[a,c,d]⟩
 .exact⟨_,.JF e,λz a c d=>by rw[e]at a;unfold aP bU;simp[a,c,d]⟩
 .exact⟨_,.JG e,λz a c d=>by rw[e]at a;unfold aP;simp[a,c,d]⟩
 .exact⟨_,.JH e,λz a c d=>by rw[e]at a;unfold aP bU dV;simp[a,c,d]⟩
 .exact⟨_,.JI e,λz a c d=>by rw[e]at a;unfold aP bU dV;simp[a,c,d]⟩
 .exact⟨_,.JJ e,λz a c d=>by rw[e]at a;unfold aP bU dV;simp[a,c,d]⟩
 .exact⟨_,.JK e,λz a c d=>by rw[e]at a;unfold aP bU dV;simp[a,c,d]⟩
 .exact⟨_,.r16 e,λz a c d=>by rw[e]at a;unfold aP bU dV;simp[a,c,d]⟩
 .exact⟨_,.JL e,λz a c d=>by rw[e]at a;unfold aP;simp[a,c,d]⟩
 .exact⟨_,.JM e,λz a c d=>by rw[e]at a;unfold aP bU dV;simp[a,c,d]⟩
 .exact⟨_,.JN e,λz a c d=>by rw[e]at a;unfold aP bU dV;simp[a,c,d]⟩
 .exact⟨_,.JO e,λz a c d=>by rw[e]at a;unfold aP bU;simp[a,c,d]⟩
 exact⟨_,.JP e,λz a c d=>by rw[e]at a;unfold aP bU;simp[a,c,d]⟩
def V.K{s:Z}(h:V s)(l c:Int):V {s with K:=l,aN:=c}:={h with}
def V.at(h:V s)(a:Int)(r:Bool):V {s with A:=a,O:=r}:={h with}
def W.at(h:W s)(a:Int)(r:Bool):W {s with A:=a,O:=r}:={h with}
def V.en(h:V s)(a:Int):V {s with j:=a}:={h with}
def aeP(k:s.j=0)(x:UInt8)(a:(aS s x).j=0):
 aS s x={s with A:=s.A+1,O:=false,j:=0}\/∃b r l c,0<=b/\(aP {s with A:=s.A+1,O:=r} b).2=0/\aS s x={(aP {s with A:=s.A+1,O:=r} b).1 with K:=l,aN:=c,j:=0}:=by
 have j:∀(r:Bool) (b:Int),0<=b->(eY {s with A:=s.A+1,O:=r} b).2=0->∃l c,(aP {s with A:=s.A+1,O:=r} b).2=0/\(eY {s with A:=s.A+1,O:=r} b).1={(aP {s with A:=s.A+1,O:=r} b).1 with K:=l,aN:=c}:=by
  intro r b m h;unfold eY at h⊢;split at h
  .rename_i g;rw[J g];obtain⟨l,c,e⟩:=Jm (aP {s with A:=s.A+1,O:=r} b).1 b;exact⟨l,c,g,e⟩
  rename_i g;exact aj6 h g
 unfold aS at a⊢;rw[J k]at a⊢;unfold Mk.kE at a⊢;split at a
 .rename_i g;rw[J g];exact .inl rfl
 rename_i g;rw[M g];right;split at a
 .rename_i d;rw[J d];obtain⟨l,c,f,i⟩:=j true 10 (by decide) a;refine⟨10,true,l,c,by decide,f,?_⟩;have a:(eY {s with A:=s.A+1,O:=true} 10).2=0:=a;dsimp only;rw[i,a]
 rename_i d;rw[M d];obtain⟨l,c,f,i⟩:=j false x.toNat (by omega) a;refine⟨x.toNat,false,l,c,by omega,f,?_⟩;have a:(eY {s with A:=s.A+1,O:=false} x.toNat).2=0:=a;dsimp only;rw[i,a]
def aeQ(a:W s)(h:V s)(d:s.j=0)(x:UInt8)(f:(aS s x).j=0):V (aS s x):=by
 obtain e|⟨b,r,l,c,g,i,e⟩:=aeP d x f
 .rw[e];exact{h with}
 rw[e];exact((aew (a.at _ r) (h.at _ r) b g i).K l c).en 0
def aeR(d a t:Int)(e:8<=t)(b:0<=a):V (Mk.bB d a t false):=by
 refine⟨rfl,rfl,λ_=>⟨rfl,?_⟩,?_,?_,nodup_nil,b,?_,?_,?_,?_,?_⟩
 .show(0:Int)<=t;omega
 .intro g;exact aj6 (show(0:Int)=14 from g) (by decide)
 .intro a c;cases c
 .intro g;exact aj6 (show(0:Int)=15\/(0:Int)=16\/(0:Int)=17 from g) (by decide)
 .intro g;exact aj6 (show(0:Int)=14 from g) (by decide)
 .intro g;exact aj6 (show(9:Int)<=0/\(0:Int)<=11 from g) (by decide)
 .intro g;exact aj6 (show(0:Int)<0 from g) (by decide)
 intro g;exact aj6 (show aZ 0=true from g) (by decide)
variable {d a t:Int}
end
section
variable {s:Z}{b:Int}
def sn(b:List (U×U))(c:List Nat)(l:List Ev)(s:Z):Z:={s with on:=true,m:=b,T:=c,C:=l}
variable {d:List (U×U)}{a:List Nat}{t:List Ev}
def uW(s:Z)(c:Int):bV (sn d a t s) c=sn d a t (bV s c):=by
 show(if bI s then _ else _)=sn d a t (if bI s then _ else _);split<;>rfl
def JQ:∀(l:U) (s:Z),dW (sn d a t s) l=sn d a t (dW s l)
 |[],s=>rfl
 |x::r,s=>by
  show dW (bV (sn d a t s) x.toNat) r=sn d a t (dW (bV s x.toNat) r);rw[uW,JQ r]
def JR(s:Z)(p:Int×Int):gD (sn d a t s) p=sn d a t (gD s p):=by
 unfold gD;split
 .exact uW {s with pc:=p.1,t:=p.2} p.1
 rfl
def aeS(s:Z)(b:Int):fT (sn d a t s) b=(sn d a t (fT s b).1,(fT s b).2):=by
 unfold fT;show(match eO s.pc s.t b with|none=>_|some p=>_)=_;cases eO s.pc s.t b with
 |none=>rfl
 |some p=>show(gD (sn d a t s) p,(0:Int))=_;rw[JR]
def aeT(s:Z)(b:Int):fD (sn d a t s) b=(sn d a t (fD s b).1,(fD s b).2):=by
 unfold fD;show(match dJ ⟨s.rp,s.rn,s.rc⟩ b with|none=>_|some r=>_)=_;cases dJ ⟨s.rp,s.rn,s.rc⟩ b with
 |none=>rfl
 |some r=>
  dsimp only;split
  .rfl
  show(bV (sn d a t (Mk.kZ s r)) r.code,(0:Int))=_;rw[uW]
def aeU(s:Z)(b:Int):h_ (sn d a t s) b=(sn d a t (h_ s b).1,(h_ s b).2):=by
 unfold h_;split
 .rfl
 split<;>rfl
def aeV(s:Z)(b:Int):gF (sn d a t s) b=(sn d a t (gF s b).1,(gF s b).2):=by
 unfold gF;show(if _ then _ else if b=91/\0<s.I.length then _ else _)=_;split
 .rfl
 split<;>rfl
def aeW(s:Z)(b:Int):iO (sn d a t s) b=(sn d a t (iO s b).1,(iO s b).2):=by
 unfold iO;split<;>rfl
def aeX(s:Z)(b:Int):dQ (sn d a t s) b=(sn d a t (dQ s b).1,(dQ s b).2):=by
 unfold dQ;show(if 6<=s.aW\/Mk.lK.getD s.aW.toNat 0≠b then _ else if s.aW+1=6 then _ else _)=_;split
 .rfl
 split<;>rfl
def RD(s:Z)(b:Int):fI (sn d a t s) b=(sn d a t (fI s b).1,(fI s b).2):=by
 unfold fI;split
 .rfl
 split<;>rfl
def aeY(s:Z)(b:Int):gW (sn d a t s) b=(sn d a t (gW s b).1,(gW s b).2):=by
 unfold gW;split
 .rfl
 split<;>rfl
def ES(h:bI s=true)(b:Int):cV (sn d a t s) b=(sn d a t (cV s b).1,(cV s b).2):=by
 unfold cV;have c:gb s (s.D.length+1)=true:=by rw[gb,h];rfl
 have e:gb (sn d a t s) ((sn d a t s).D.length+1)=true:=by unfold gb;have:bI (sn d a t s)=true:=h;rw[this];rfl
 cases eF b with
 |none=>rfl
 |some p=>
  dsimp only;rw[J c,J e];show(gD {dW (sn d a t s) s.D with D:=[]} p,(0:Int))=_;rw[(JQ (d:=d) (a:=a) (t:=t) s.D s)];show(gD (sn d a t {dW s s.D with D:=[]}) p,(0:Int))=_;rw[(JR (d:=d) (a:=a) (t:=t) {dW s s.D with D:=[]} p)]
def aeZ(h:s.H=1)(b:Int):fw (sn d a t s) b=(sn d a t (fw s b).1,(fw s b).2):=by
 have c:∀x:Int,bI {s with bG:=x}=true:=λx=>by show(s.H==1||s.H==2)=true;rw[h];rfl
 unfold fw;split
 .rfl
 split
 .rfl
 split
 .show(if s.bG==2 then _ else _)=_;split
  .rfl
  exact ES (c 0) b
 split
 .show cV (sn d a t {s with bG:=if s.bG==0 then 1 else 2}) b=_;exact ES (c _) b
 exact ES (c 0) b
def ae0(h:s.H=2)(b:Int):fH (sn d a t s) b=(sn d a t (fH s b).1,(fH s b).2):=by
 have c:bI s=true:=by show(s.H==1||s.H==2)=true;rw[h];rfl
 unfold fH;show(if b=62/\s.D=[93,93]then _ else if b=93/\s.D=[93,93]then _ else _)=_;split
 .rfl
 split
 .rw[uW]
 split
 .rfl
 exact ES c b
def ET(s:Z)(b:Int):cV (sn d a t s) b=(sn d a t (cV s b).1,(cV s b).2):=by
 unfold cV;cases eF b with
 |none=>rfl
 |some p=>
  show(if gb s (s.D.length+1)then(gD {dW (sn d a t s) s.D with D:=[]} p,(0:Int))else(sn d a t s,7))=_;split
  .rw[JQ];show(gD (sn d a t {dW s s.D with D:=[]}) p,(0:Int))=_;rw[JR]
  rfl
def RE(s:Z)(b:Int):fS (sn d a t s) b=(sn d a t (fS s b).1,(fS s b).2):=by
 unfold fS;show(if gb s 1 then _ else _)=_;split
 .rw[uW]
 rfl
def ae1(s:Z)(b:Int):eG (sn d a t s) b=(sn d a t (eG s b).1,(eG s b).2):=by
 unfold eG Mk.mg;show(if _ then _ else if _ then _ else if b=47/\0<s.I.length then _ else if dP b&& !s.over then(if s.od<=s.I.length then _ else _)else _)=_;split
 .rfl
 split
 .rfl
 split
 .rfl
 split
 .split
  .rfl
  show(bV (sn d a t {s with H:=12}) b,(0:Int))=_;rw[uW]
 rfl
def ae2(e:dP b=true):gV (sn d a t s) b=(sn d a t (gV s b).1,(gV s b).2):=by
 unfold gV;have c:∀(x y:Z×Int),(if(!dP b)=true then x else y)=y:=λx y=>M (by rw[e];decide);rw[c,c];show(if s.oa<=s.f.length then _ else _)=_;split
 .rfl
 show(bV (sn d a t {s with H:=14}) b,(0:Int))=_;rw[uW]
def ae3(s:Z)(b:Int):fU (sn d a t s) b=(sn d a t (fU s b).1,(fU s b).2):=by
 unfold fU Mk.mh;rw[uW];show(if _ then(if gb s 1 then(if !gb (bV s b) 1&&gM (bV s b) (bV s b).i then _ else _)else _)else if _ then _ else if gM s s.i then _ else _)=_;split
 .split
  .split<;>rfl
  rfl
 split
 .rfl
 split
 .rfl
 exact RD {Mk.bH s with attr:=s.i} b
def ae4(s:Z)(b:Int):fA (sn d a t s) b=(sn d a t (fA s b).1,(fA s b).2):=by
 unfold fA;show(if b==s.aj2 then _ else if b==60 then _ else if b==38 then(if gb s 1 then _ else _)else if _ then _ else _)=_;split
 .rfl
 split
 .rfl
 split
 .split<;>rfl
 split
 .exact ET s 32
 exact ET s b
def ae5(c:¬(s.D=[45,45]/\b=62)):fu (sn d a t s) b=(sn d a t (fu s b).1,(fu s b).2):=by
 unfold fu;rw[M c];show(if s.D=[45,45]/\b=62 then _ else if s.D=[45,45]then _ else if b=45 then _ else _)=_;rw[M c];split
 .rfl
 split
 .rfl
 exact ET s b
def ae6(c:¬(b=62/\s.D=[63])):dN (sn d a t s) b=(sn d a t (dN s b).1,(dN s b).2):=by
 unfold dN;rw[M c];show(if b=62/\s.D=[63]then _ else if b=63/\s.D=[63]then(if gb s 1 then _ else _)else if b=63 then _ else _)=_;rw[M c];split
 .split
  .rw[uW]
  rfl
 split
 .rfl
 exact ET s b
end
section
variable {e:Ev}{b z s f i:Z}
structure Sc where
 m:List (U×U)
 T:List Nat
def Sc.fst(c:Sc):Nat:=
 match c.T.getLast? with
 |none=>c.m.length
 |some n=>if c.m.length<n then c.m.length else c.m.length - n
def Sc.tag(c:Sc):List (U×U):=c.m.drop c.fst
def EU(l:List (U×U)):List Ev:=l.map λp=>⟨6,p.1,[],p.2,[]⟩
def EV(l:List (U×U)):List Ev:=l.map λp=>⟨7,p.1,[],[],[]⟩
def rR(c:Sc)(n:U)(a:List aI):Option (Sc×List aI):=
 if !Mk.yM n a then none
 else if !(iG a c.m 0).2.2 then none
 else if !Mk.pX (iG a c.m 0).1 (dH n)then none
 else match mR (iG a c.m 0).1 a []with
  |none=>none
  |some l=>some (⟨(iG a c.m 0).1,c.T++[(iG a c.m 0).2.1]⟩,l)
def JS(c:Sc)(n:U)(l:List aI):List Ev:=EU c.tag++[⟨1,n,lW c.m (dH n),[],l⟩]
def wC(c:Sc):Sc:=⟨c.m.take c.fst,c.T.dropLast⟩
def JU(c:Sc)(n:U):List Ev:=⟨2,n,lW c.m (dH n),[],[]⟩::EV c.tag.reverse
def qZ(c:Sc)(e:Ev):Option (Sc×List Ev):=
 if e.kind=1 then
  match rR c e.B e.f with
  |none=>none
  |some (a,l)=>some (a,JS a e.B l)
 else if e.kind=2 then(if c.T=[]then none else some (wC c,JU c e.B))
 else if e.kind=5 then(if Mk.cW e.B then none else some (c,[e]))
 else some (c,[e])
def q_(c:Sc)(a:List Ev):List Ev->Sc×List Ev×Bool
 |[]=>(c,a,true)
 |e::r=>match qZ c e with
  |none=>(c,a,false)
  |some (b,m)=>q_ b (a++m) r
def RF:∀(l r:List Ev) (c:Sc) (a:List Ev),q_ c a (l++r)=if(q_ c a l).2.2 then q_ (q_ c a l).1 (q_ c a l).2.1 r else q_ c a l
 |[],r,c,a=>rfl
 |e::l,r,c,a=>by
  have b:q_ c a (e::l++r)=match qZ c e with|none=>(c,a,false)|some (c', m)=>q_ c' (a++m) (l++r):=rfl
  have d:q_ c a (e::l)=match qZ c e with|none=>(c,a,false)|some (c', m)=>q_ c' (a++m) l:=rfl
  rw[b,d];cases qZ c e with
  |none=>rfl
  |some p=>exact RF l r p.1 _
def Sc.zero:Sc:=⟨[(Mk.qP,Mk.lu)],[]⟩
def KR(l:List Ev)(c:Sc)(m:List Ev):Prop:=q_ Sc.zero [] l=(c,m,true)
def KR.more{l m:List Ev}{c a:Sc}{x:List Ev}(h:KR l c m)(b:qZ c e=some (a,x)):KR (l++[e]) a (m++x):=by
 unfold KR at h⊢;rw[RF,h,J rfl];show(match qZ c e with|none=>(c,m,false)|some (a,x)=>(a,m++x,true))=_;rw[b]
def wT(s:Z):List Ev:=if s.F.length=0 then s.C else s.C++[⟨3,[],[],s.F,[]⟩]
def KR.F{a b:Z}{c:Sc}(h:KR a.C c b.C)(d:b.F=a.F):KR (wT a) c (wT b):=by
 unfold wT;rw[d];split
 .exact h
 exact h.more rfl
structure Nm(s0 s1:Z)(c:Sc):Prop where
 eq:s1={sn s1.m s1.T s1.C s0 with f:=s1.f}
 A:s0.H≠19->s1.f=s0.f/\s1.m=c.m/\s1.T=c.T
 re:KR s0.C c s1.C
 ln:c.T.length=s0.I.length
 sl:s0.H=19->rR c s0.B s0.f=some (⟨s1.m,s1.T⟩,s1.f)
def Nm.ai{a:Z}{c:Sc}(h:Nm a b c)(d:a.H≠19):b=sn c.m c.T b.C a:=by
 have e:=h.eq;obtain⟨f,g,i⟩:=h.A d;rwa[f,g,i]at e
def Nm.step{a:Z}{c:Sc}(h:Nm a b c)(d:a.H≠19)(e:z.H≠19)(q:Qt a z):Nm z (sn c.m c.T b.C z) c:=
 ⟨rfl,λ_=>⟨rfl,rfl,rfl⟩,by rw[q.li];exact h.re,by rw[q.op];exact h.ln,λg=>aj6 g e⟩
def uX(s:Z)(e:Ev):(aX s e).C=wT s++[e]:=aex s e
def rS(s:Z)(c:Int):(bV s c).H=s.H/\(bV s c).B=s.B:=by unfold bV;split<;>exact⟨rfl,rfl⟩
def JV:∀(l:U) (s:Z),(dW s l).H=s.H/\(dW s l).B=s.B
 |[],s=>⟨rfl,rfl⟩
 |x::r,s=>⟨(JV r _).1.trans (rS s _).1,(JV r _).2.trans (rS s _).2⟩
def RG(s:Z)(p:Int×Int):(gD s p).H=s.H/\(gD s p).B=s.B:=by
 unfold gD;split
 .exact rS {s with pc:=p.1,t:=p.2} p.1
 exact⟨rfl,rfl⟩
def xS(s:Z)(b:Int):(cV s b).1.H=s.H/\(cV s b).1.B=s.B:=by
 unfold cV;split
 .exact⟨rfl,rfl⟩
 split
 .have a:=RG {dW s s.D with D:=[]} (by assumption);have c:=JV s.D s;exact⟨a.1.trans c.1,a.2.trans c.2⟩
 exact⟨rfl,rfl⟩
def ae7(s:Z)(b:Int):(fT s b).1.H=s.H/\(fT s b).1.B=s.B:=by
 unfold fT;split
 .exact⟨rfl,rfl⟩
 exact RG s _
def ae8(s:Z)(b:Int):(fD s b).1.H=s.H/\(fD s b).1.B=s.B:=by
 unfold fD;split
 .exact⟨rfl,rfl⟩
 split
 .exact⟨rfl,rfl⟩
 exact rS (kZ s _) _
def Zk(s z:Z):Prop:=z.H≠19/\((9<=z.H/\z.H<=11)->(9<=s.H/\s.H<=11)/\z.B=s.B)
def Zk.stay(h:s.H≠19)(e:z.H=s.H/\z.B=s.B):Zk s z:=⟨by rwa[e.1],λg=>⟨by rwa[<-e.1],e.2⟩⟩
def Zk.far(h:z.H≠19/\¬(9<=z.H/\z.H<=11)):Zk s z:=⟨h.1,λg=>aj6 g h.2⟩
def Zk.low(h:z.H<=8):Zk s z:=.far ⟨by omega,by omega⟩
def ae9(h:s.H=0)(b:Int):Zk s (h_ s b).1:=by
 unfold h_
 (repeat' split)<;>(apply Zk.low;dsimp only;omega)
def ae_(h:s.H=1)(b:Int):Zk s (fw s b).1:=by
 unfold fw kZ
 (repeat' split)<;>(apply Zk.low;simp only[xS];omega)
def afa(h:s.H=2)(b:Int):Zk s (fH s b).1:=by
 unfold fH
 (repeat' split)<;>(apply Zk.low;simp only[xS,rS];omega)
def afb(h:s.H=3)(b:Int):(eG s b).2=0->Zk s (eG s b).1:=by
 intro a;unfold eG Mk.mg at a⊢;split at a
 .rename_i g;rw[J g];exact .low (by show(4:Int)<=8;decide)
 rename_i g;rw[M g];split at a
 .rename_i g;rw[J g];exact .low (by show(8:Int)<=8;decide)
 rename_i g;rw[M g];split at a
 .rename_i g;rw[J g];exact .far (by show(20:Int)≠19/\¬((9:Int)<=20/\(20:Int)<=11);decide)
 rename_i g;rw[M g];split at a
 .rename_i g;rw[J g];split at a
  .simp at a
  rename_i g;rw[M g];refine .far ?_;rw[(rS _ _).1];dsimp only;omega
 simp at a
def afc(h:s.H=4)(b:Int):Zk s (gF s b).1:=by
 unfold gF
 (repeat' split)<;>(apply Zk.low;dsimp only;omega)
def afd(h:s.H=5)(b:Int):Zk s (iO s b).1:=by
 unfold iO
 (repeat' split)<;>(apply Zk.low;dsimp only;omega)
def afe(h:s.H=6)(b:Int):Zk s (dQ s b).1:=by
 unfold dQ
 (repeat' split)<;>(apply Zk.low;dsimp only;omega)
def RH(h:12<=s.H/\s.H<=18)(b:Int):Zk s (fI s b).1:=by
 unfold fI
 (repeat' split)<;>(apply Zk.far;dsimp only;omega)
def aff(h:s.H=14)(b:Int):Zk s (fU s b).1:=by
 unfold fU Mk.mh;split
 ·(repeat' split)<;>(apply Zk.far;simp only[rS];omega)
 split
 .exact .far (by dsimp only;omega)
 split
 .exact .far (by dsimp only;omega)
 have:=RH (s:={bH s with attr:=s.i}) (by show 12<=s.H/\s.H<=18;omega) b;exact⟨this.1,λg=>by have:=this.2 g;have:9<=s.H/\s.H<=11:=this.1;omega⟩
def afg(h:s.H=16)(b:Int):Zk s (gW s b).1:=by
 unfold gW
 (repeat' split)<;>(apply Zk.far;dsimp only;omega)
def afh(h:s.H=17)(b:Int):Zk s (fA s b).1:=by
 unfold fA Mk.yA kZ
 (repeat' split)<;>(apply Zk.far;simp only[xS];omega)
structure Nn(s0 s1:Z)(c:Sc):Prop extends Nm s0 s1 c where
 ic:(9<=s0.H/\s0.H<=11)->Mk.cW s0.B=false
def Nt(a b:Z×Int)(d:Prop):Prop:=(a.2≠0->b.2=a.2)/\(a.2=0->(b.2=0/\∃c,Nn a.1 b.1 c)\/(b.2=8/\d))
def Nn.same{c:Sc}(h:Nn b f c)(d:b.H≠19){a i:Z×Int}{e:Prop}(l:i=(sn c.m c.T f.C a.1,a.2))(j:a.2=0->Zk b a.1)(q:a.2=0->Qt b a.1):Nt a i e:=by
 rw[l];refine⟨λ_=>rfl,λg=>.inl ⟨g,c,h.toNm.step d (j g).1 (q g),λk=>?_⟩⟩;obtain⟨m,n⟩:=(j g).2 k;rw[n];exact h.ic m
def afi(b:List (U×U))(c:List Nat)(l:List Ev)(s:Z)(e:Ev):aX (sn b c l s) e=sn b c (wT (sn b c l s)++[e]) (aX s e):=by
 unfold aX Mk.bK wT;by_cases h:s.F.length=0
 .have a:(sn b c l s).F.length=0:=h;simp only[J h,J a];rfl
 have a:¬(sn b c l s).F.length=0:=h;simp only[M h,M a];rfl
def Nm.plain{a:Z}{c:Sc}(h:Nm a b c)(j:a.H≠19)(r:qZ c e=some (c,[e])){f:Z->Z}(n:∀x:Z,f x=iy {aX (bH {x with D:=[]}) e with B:=(f x).B})(s:(f b).B=(f a).B):
 Nm (f a) (f b) c:=by
 have o:=h.ai j;have p:b.F=a.F:=by rw[o];rfl
 have e0:=n a;have q:=n b;have k:(f b).C=wT b++[e]:=by
  rw[q];exact uX (bH {b with D:=[]}) e
 have l:(f a).C=wT a++[e]:=by
  rw[e0];exact uX (bH {a with D:=[]}) e
 have d:f b=sn c.m c.T (wT b++[e]) (f a):=by
  rw[q,s];have:aX (bH {b with D:=[]}) e=sn c.m c.T (wT b++[e]) (aX (bH {a with D:=[]}) e):=by
   have t:bH {b with D:=[]}=sn c.m c.T b.C (bH {a with D:=[]}):=by
    conv=>lhs;rw[o]
    rfl
   rw[t,(afi c.m c.T b.C (bH {a with D:=[]}) e)];have u:wT (sn c.m c.T b.C (bH {a with D:=[]}))=wT b:=by
    unfold wT;rw[p];rfl
   rw[u]
  rw[this];conv=>rhs;rw[e0]
  rfl
 have i:(f a).H≠19:=by
  rw[e0];show(if _ then(0:Int)else 1)≠19;split<;>decide
 have m:(f a).I=a.I:=by
  rw[e0,kI];rfl
 refine⟨?_,λ_=>?_,?_,by rw[m];exact h.ln,λg=>aj6 g i⟩
 .rw[d];rfl
 .rw[d];exact⟨rfl,rfl,rfl⟩
 rw[l,k];exact(h.re.F p).more r
def afj{j:Z}{c:Sc}(h:Nn i j c)(p:Io i)(r:i.H=7)(b:Int)(s:Prop):Nt (fu i b) (fu j b) s:=by
 have n:=h.ai (by omega);by_cases o:i.D=[45,45]/\b=62
 .have u:j.D=[45,45]/\b=62:=by rwa[n]
  unfold fu;rw[J o,J u];refine⟨λg=>aj6 rfl g,λ_=>.inl ⟨rfl,c,?_⟩⟩;have m:j.i=i.i:=by rw[n];rfl
  have:=h.toNm.plain (by omega) (e:=⟨4,[],[],i.i,[]⟩) rfl (f:=λx=>if x.i=i.i then mS x else iy {aX (bH {x with D:=[]}) ⟨4,[],[],i.i,[]⟩with B:=x.B}) (λx=>?_) ?_
  .dsimp only at this;rw[J rfl,J m]at this;refine⟨this,λg=>?_⟩;exfalso;have w:9<=(if(aX (bH {i with D:=[]}) ⟨4,[],[],i.i,[]⟩).I.length=0 then(0:Int)else 1):=g.1;split at w<;>omega
  .dsimp only;split
   .rename_i g;have:(mS x).B=x.B:=by rw[mS,iy,kI];rfl
    rw[this,mS,g,kI];rfl
   rw[kI];rfl
  dsimp only;rw[J rfl,J m];show(aX (bH {j with D:=[]}) ⟨4,[],[],j.i,[]⟩).B=(aX (bH {i with D:=[]}) ⟨4,[],[],i.i,[]⟩).B;rw[kI,kI (bH {i with D:=[]})];rw[n];rfl
 have e:=ae5 (d:=c.m) (a:=c.T) (t:=j.C) o;rw[<-n]at e;refine h.same (by omega) e (λg=>?_) λg=>?_
 .unfold fu at g⊢;rw[M o]at g⊢;split
  .rename_i k;rw[J k]at g;simp at g
  split
  .exact .low (by show i.H<=8;omega)
  exact .stay (by omega) (xS i b)
 have m:=aeC p r b g;generalize l:(fu i b).1=z at m;cases m with
 |quiet q=>exact q
 |comm k=>
  exfalso;unfold fu at l g;rw[M o]at l g;split at l
  .rename_i k;rw[J k]at g;simp at g
  .have v:(mS i).H≠7:=by
    show(if _ then(0:Int)else 1)≠7;split<;>decide
   split at l
   .apply v;rwa[<-l]
   .apply v;rwa[<-l,(xS i b).1]
 |instr k=>omega
 |start k=>obtain⟨k,_⟩|⟨k,_⟩:=k<;>omega
 |slash k=>omega
 |ends k=>omega
def RI{a:Z}{c:Sc}(h:Nn a b c)(i:a.H=9\/a.H=11):Nn (kG a) (kG b) c:=by
 have d:b.i=a.i/\b.B=a.B:=by rw[(h.ai<|by omega)];exact⟨rfl,rfl⟩
 have j:qZ c ⟨5,a.B,[],a.i,[]⟩=some (c,[⟨5,a.B,[],a.i,[]⟩]):=by
  rw[qZ,M (show ¬(5:Int)=1 by decide),M (show ¬(5:Int)=2 by decide),J rfl,h.ic<|by omega];rfl
 have:=h.toNm.plain (by omega) j (f:=λx=>if x.i=a.i/\x.B=a.B then kG x else iy {aX (bH {x with D:=[]}) ⟨5,a.B,[],a.i,[]⟩with B:=[]}) (λx=>?_) ?_
 .dsimp only at this;rw[J ⟨rfl,rfl⟩,J d]at this;refine⟨this,λg=>?_⟩;exfalso;have k:9<=(if(aX (bH {a with D:=[]}) ⟨5,a.B,[],a.i,[]⟩).I.length=0 then(0:Int)else 1):=g.1;split at k<;>omega
 .dsimp only;split
  .rename_i g;have e:(kG x).B=[]:=rfl;rw[e];unfold kG;rw[g.1,g.2]
  rfl
 dsimp only;rw[J d,J (⟨rfl,rfl⟩)];rfl
def afk(h:s.H=11){b:Int}(a:¬(b=62/\s.D=[63])):(dN s b).1.H=11/\(dN s b).1.B=s.B:=by
 unfold dN;rw[M a];split
 .split
  .exact⟨(rS s 63).1.trans h,(rS s 63).2⟩
  exact⟨h,rfl⟩
 split
 .exact⟨h,rfl⟩
 exact⟨(xS s b).1.trans h,(xS s b).2⟩
def RJ{j:Z}{c:Sc}(h:Nn i j c)(f:i.H=11)(b:Int)(m:Prop):Nt (dN i b) (dN j b) m:=by
 have r:=h.ai (by omega);have n:Io i:=λg=>by omega
 by_cases o:b=62/\i.D=[63]
 .have p:b=62/\j.D=[63]:=by rwa[r]
  unfold dN;rw[J o,J p];exact⟨λg=>aj6 rfl g,λ_=>.inl ⟨rfl,c,RI h (.inr f)⟩⟩
 have e:=ae6 (d:=c.m) (a:=c.T) (t:=j.C) o;rw[<-r]at e;have l:=afk f o;refine h.same (by omega) e (λg=>.stay (by omega) ⟨by rw[l.1,f],l.2⟩) λg=>?_;have s:=(aeD n f b g).1;generalize u:(dN i b).1=z at s l;cases s with
 |quiet q=>exact q
 |comm k=>omega
 |instr k=>
  exfalso;have:(kG i).H≠11:=by
   show(if _ then(0:Int)else 1)≠11;split<;>decide
  exact this l.1
 |start k=>obtain⟨k,_⟩|⟨k,_⟩:=k<;>omega
 |slash k=>omega
 |ends k=>omega
def afl{a:Z}{c:Sc}(h:Nn a f c)(d:a.H=9)(b:Int)(e:Prop):Nt (jD a b) (jD f b) e:=by
 unfold jD;split
 .exact⟨λg=>aj6 rfl g,λ_=>.inl ⟨rfl,c,RI h (.inl d)⟩⟩
 exact⟨λ_=>rfl,λg=>by simp at g⟩
def afm{a d:Z}{c:Sc}(h:Nn a d c)(i:a.H=10)(b:Int)(f:Prop):Nt (jK a b) (jK d b) f:=by
 unfold jK;split
 .exact⟨λg=>aj6 rfl g,λ_=>.inl ⟨rfl,c,h⟩⟩
 have j:Nn {a with H:=11} (sn c.m c.T d.C {a with H:=11}) c:=⟨h.toNm.step (by omega) (z:={a with H:=11}) (by show(11:Int)≠19;decide) (.of rfl rfl rfl rfl rfl rfl rfl),λ_=>h.ic<|by omega⟩;have e:{d with H:=11}=sn c.m c.T d.C {a with H:=11}:=by
  conv=>lhs;rw[(h.ai<|by omega)]
  rfl
 rw[e];exact RJ j rfl b f
def afn{c:Sc}(h:Nn f i c)(v:f.on=false)(w:f.H=8)(b:Int):Nt (cN f b) (cN i b) (f.H=8/\Mk.cW f.i=true/\(b=63\/Mk.bJ b=true)/\(cN f b).1={bH f with B:=f.i,H:=if b==63 then 9 else 10}):=by
 have m:=h.ai (by omega);have y:Io f:=λg=>by omega
 have q:=aeL y b;have C:∀(x:Z×Int) (n:Prop),Nt (cN f b) x n->x=cN i b->Nt (cN f b) (cN i b) n:=λx n hx e=>e▸hx;by_cases s:(f.G==0&& !dP b)=true
 .have e0:cN f b=(f,3):=by unfold cN;rw[J s]
  have j:cN i b=(i,3):=by unfold cN;rw[J<|by rwa[m]]
  rw[e0,j];exact⟨λ_=>rfl,λg=>by simp at g⟩
 have l:¬(i.G==0&& !dP b)=true:=by rwa[m]
 by_cases o:Mk.eD b=true
 .have e0:cN f b=fS f b:=by unfold cN;rw[M s,J o]
  have j:cN i b=fS i b:=by unfold cN;rw[M l,J o]
  rw[e0]at q;rw[e0,j];have e:=RE (d:=c.m) (a:=c.T) (t:=i.C) f b;rw[<-m]at e;refine h.same (by omega) e (λg=>?_) λ_=>q;unfold fS;split
  .exact .stay (by omega) (rS f b)
  exact .stay (by omega) ⟨rfl,rfl⟩
 by_cases u:(Mk.jg f.i||b !=63&& !Mk.bJ b)=true
 .have e0:cN f b=(f,3):=by unfold cN;rw[M s,M o,J u]
  have j:cN i b=(i,3):=by unfold cN;rw[M l,M o,J<|by rwa[m]]
  rw[e0,j];exact⟨λ_=>rfl,λg=>by simp at g⟩
 have p:¬(Mk.jg i.i||b !=63&& !Mk.bJ b)=true:=by rwa[m]
 have e0:cN f b=({bH f with B:=f.i,H:=if b==63 then 9 else 10},0):=by unfold cN;rw[M s,M o,M u,v];rfl
 have r:i.on=true:=by rw[m];rfl
 have B:i.i=f.i:=by rw[m];rfl
 have D:b=63\/Mk.bJ b=true:=by
  simp only[CW,nQ,not_or,not_and]at u;by_cases k:b=63
  .exact .inl k
  right;have:=u.2 (by simpa using k);simpa using this
 cases A:Mk.cW f.i
 .have j:cN i b=({bH i with B:=i.i,H:=if b==63 then 9 else 10},0):=by
   unfold cN;rw[M l,M o,M p,r,B,A];rfl
  rw[e0]at q;rw[e0,j];refine⟨λg=>aj6 rfl g,λ_=>.inl ⟨rfl,c,?_⟩⟩;have E:{bH i with B:=i.i,H:=if b==63 then 9 else 10}=sn c.m c.T i.C {bH f with B:=f.i,H:=if b==63 then 9 else 10}:=by
   conv=>lhs;rw[m]
   rfl
  rw[E];refine⟨h.toNm.step (by omega) (z:={bH f with B:=f.i,H:=if b==63 then 9 else 10}) ?_ q,λ_=>A⟩;show(if b==63 then(9:Int)else 10)≠19;split<;>decide
 have j:cN i b=(i,8):=by
  unfold cN;rw[M l,M o,M p,r,B,A];rfl
 rw[e0,j];exact⟨λg=>aj6 rfl g,λ_=>.inr ⟨rfl,w,rfl,D,rfl⟩⟩
def RL(x:Z):(rR ⟨x.m,x.T⟩ x.B x.f=none/\(dY x).2=none)\/∃a l,rR ⟨x.m,x.T⟩ x.B x.f=some (a,l)/\dY x=({x with m:=a.m,T:=a.T},some l)/\a.T.length=x.T.length+1:=by
 have hd:(cG x).2=(iG x.f x.m 0).2.2:=by unfold cG;dsimp only;split<;>rename_i g<;>simp[g]
 unfold rR dY;split
 .rename_i g;exact .inl ⟨rfl,rfl⟩
 rw[hd];split
 .exact .inl ⟨rfl,rfl⟩
 rename_i g;have g:(iG x.f x.m 0).2.2=true:=by simpa using g
 have e:(cG x).1={x with m:=(iG x.f x.m 0).1,T:=x.T++[(iG x.f x.m 0).2.1]}:=by rw[cG,J g]
 rw[e];split
 .exact .inl ⟨rfl,rfl⟩
 cases b:mR (iG x.f x.m 0).1 x.f []with
 |none=>exact .inl ⟨rfl,rfl⟩
 |some l=>exact .inr ⟨_,_,rfl,rfl,by simp⟩
def RN:∀(l:List (U×U)) (s:Z) (e:Ev),(aX (gJ s l) e).C=wT s++EU l++[e]
 |[],s,e=>by rw[show gJ s []=s from rfl,uX];simp[EU]
 |p::r,s,e=>by
  show(aX (gJ (aX s ⟨6,p.1,[],p.2,[]⟩) r) e).C=_;rw[RN r];have:wT (aX s ⟨6,p.1,[],p.2,[]⟩)=wT s++[⟨6,p.1,[],p.2,[]⟩]:=by
   unfold wT;rw[J<|by rw[zS];rfl,uX];rfl
  rw[this];simp[EU]
def RO:∀(l:List (U×U)) (s:Z),s.F=[]->(iV s l).C=s.C++EV l/\(iV s l).F=[]
 |[],s,h=>⟨by simp[EV,iV],h⟩
 |p::r,s,h=>by
  have a:=RO r (aX s ⟨7,p.1,[],[],[]⟩) (zS _ _);have b:(aX s ⟨7,p.1,[],[],[]⟩).C=s.C++[⟨7,p.1,[],[],[]⟩]:=by
   rw[uX,wT,J<|by rw[h];rfl]
  refine⟨?_,a.2⟩;show(iV (aX s ⟨7,p.1,[],[],[]⟩) r).C=_;rw[a.1,b];simp[EV]
def RP(h:s.on=true):(bX s).C=wT s++JS ⟨s.m,s.T⟩ s.B s.f/\(bX s).F=[]:=by
 have e:(bX s).C=(aX (gJ s (dZ s)) ⟨1,s.B,Mk.bQ s s.B,[],s.f⟩).C:=rfl;refine⟨?_,zS (gJ s (dZ s)) ⟨1,s.B,Mk.bQ s s.B,[],s.f⟩⟩;rw[e,RN,Mk.bQ,JS,h,J rfl,jB];rfl
def RQ(h:s.T=[])(a:s.on=false):(bX s).C=wT s++[⟨1,s.B,[],[],s.f⟩]/\(bX s).F=[]:=by
 rw[aey h a];exact⟨uX s ⟨1,s.B,[],[],s.f⟩,zS s ⟨1,s.B,[],[],s.f⟩⟩
def RR(h:s.on=true)(n:U):(bZ s n).C=wT s++JU ⟨s.m,s.T⟩ n/\(bZ s n).F=[]/\(bZ s n).m=(wC ⟨s.m,s.T⟩).m/\(bZ s n).T=(wC ⟨s.m,s.T⟩).T:=by
 have e0:=kI s ⟨2,n,Mk.bQ s n,[],[]⟩;have d:dZ (aX s ⟨2,n,Mk.bQ s n,[],[]⟩)=Sc.tag ⟨s.m,s.T⟩:=by rw[e0];rfl
 have b:=RO (dZ (aX s ⟨2,n,Mk.bQ s n,[],[]⟩)).reverse (aX s ⟨2,n,Mk.bQ s n,[],[]⟩) (zS _ _);have c:=yX (dZ (aX s ⟨2,n,Mk.bQ s n,[],[]⟩)).reverse (aX s ⟨2,n,Mk.bQ s n,[],[]⟩);have a:Mk.bQ s n=lW s.m (dH n):=by rw[Mk.bQ,h,J rfl]
 have e:(bZ s n).C=(iV (aX s ⟨2,n,Mk.bQ s n,[],[]⟩) (dZ (aX s ⟨2,n,Mk.bQ s n,[],[]⟩)).reverse).C:=rfl;have f:(bZ s n).F=(iV (aX s ⟨2,n,Mk.bQ s n,[],[]⟩) (dZ (aX s ⟨2,n,Mk.bQ s n,[],[]⟩)).reverse).F:=rfl;refine⟨?_,by rw[f];exact b.2,?_,?_⟩
 .rw[e,b.1,d,uX,a];simp[JU]
 .unfold bZ jb nO oM;rw[c,e0];rfl
 unfold bZ jb nO oM;rw[c,e0];rfl
variable {d a t:Int}
end
section
variable {d a t:Int}
end
section
variable {z:Z}{x:UInt8}
variable {d a t:Int}
def RV(a:z.j=0)(c:(x.toNat:Int)=10/\z.O=true):aS z x={z with A:=z.A+1,O:=false,j:=0}:=by
 rw[aS,J a,kE,J c]
def RX(a:z.j=0)(c:¬((x.toNat:Int)=10/\z.O=true))(b:(x.toNat:Int)=13):aS z x={(eY {z with A:=z.A+1,O:=true} 10).1 with j:=(eY {z with A:=z.A+1,O:=true} 10).2}:=by
 rw[aS,J a,kE,M c,J b]
def RY(a:z.j=0)(c:¬((x.toNat:Int)=10/\z.O=true))(b:¬(x.toNat:Int)=13):aS z x={(eY {z with A:=z.A+1,O:=false} x.toNat).1 with j:=(eY {z with A:=z.A+1,O:=false} x.toNat).2}:=by
 rw[aS,J a,kE,M c,M b]
def JX:∀(l:U) (z:Z),z.j≠0->aQ z l=z
 |[],z,_=>rfl
 |y::r,z,a=>by
  show aQ (aS z y) r=z;have:aS z y=z:=by unfold aS;rw[M a]
  rw[this];exact JX r z a
end
open Go.RowKit
