import Derived.Test.YtmgfijllcdadgaaGreatDoorNW36
import Derived.Test.YtmgfijllcdadgaaGreatDoorNW00
set_option linter.unusedVariables false
set_option linter.unusedSimpArgs false
namespace Go.Proofs.YtmgfijllcdadgaaGreatDoor
open Mk (St Bs Ev aD)
open Mk (gm dM fA dX gP jo cT jr gH gQ fO jM jb gS iz aY iA fC dR jN Pv aQ fB eD gT gU fD dP bO jc jv eU bI bC)
variable {b:Int}{s:St}
theorem Qx(a:0≤b)(c:b≤255):((Mk.u8 b).toNat:Int)=b:=by
 unfold Mk.u8;rw[UInt8.toNat_ofNat'];omega
theorem LU{t:Int}(c:8≤t)(h:gm b=true):jV t ([]++[Mk.u8 b]):=by
 have:=PV h;refine⟨fun x a=>?_,by simp;omega⟩;simp at a;subst a;rw[Qx this.1 (by omega)];exact h
theorem LV{t:Int}{n:Bs}(c:jV t n)(d:(n.length:Int)+1≤t)(h:gm b=true):jV t (n++[Mk.u8 b]):=by
 refine⟨fun x a=>?_,by simp;omega⟩;rcases List.mem_append.1 a with a|a
 .exact c.1 x a
 have:=PV h;simp at a;subst a;rw[Qx this.1 (by omega)];exact h
theorem LW(h:dM b=true):gm b=true:=by unfold gm;rw[h];rfl
theorem LX(h:Wq s)(m:s.state=3)(b:Int)(a:(fA s b).2=0):W (fA s b).1:=by
 have i:s.held=[]:=h.hs.none (by omega) (by omega) (by omega);have c:=h.tk (by omega) (by omega) (by omega) (by omega) (by omega) (by omega);have j:=h.dQ (by omega);have k:s.over=true→s.opn=[]:=fun g=>(h.ov g).1
 unfold fA at a⊢;split at a
 .rename_i g;rw[if_pos g];exact(iW h i c j 4 (by omega) (by omega) (by omega) k s.matched (by omega) (by omega) (by omega)).toW
 rename_i g;rw[if_neg g];split at a
 .rename_i g2;rw[if_pos g2];exact(iW h i c j 8 (by omega) (by omega) (by omega) k s.matched (by omega) (by omega) (by omega)).toW
 rename_i g2;rw[if_neg g2];split at a
 .rename_i f;rw[if_pos f];have n:s.opn≠[]:=fun e=>by rw[e]at f;simp at f
  exact(iW h i c j 20 (by omega) (by omega) (fun _=>n) k 0 (by omega) (fun _=>⟨by omega,by omega⟩) (by omega)).toW
 rename_i f;rw[if_neg f];split at a
 .rename_i d;rw[if_pos d];have d:dM b=true∧s.over=false:=by simpa using d
  unfold Mk.kE at a⊢;split at a
  .simp at a
  rename_i o;rw[if_neg o];have l:dX {s with state:=12}=false:=rfl;rw[oD l,ru b (Qw d.1).2]
  exact{h with
   st:=⟨by dsimp only;omega,by dsimp only;omega⟩
   o0:=fun g=>by exfalso;have g:(12:Int)=0:=g;omega
   o1:=fun g=>by exfalso;have g:(12:Int)=1∨(12:Int)=2∨(12:Int)=6∨(12:Int)=20∨(12:Int)=21:=g;omega
   ov:=fun g=>by have g:s.over=true:=g;rw[d.2]at g;cases g
   pl:=fun g=>by have g:0<s.pl:=g;have:=h.q;omega
   rf:=fun g=>absurd (h.r.symm.trans g) (by decide)
   hs:=.inl i
   m6:=fun g=>by exfalso;have g:(12:Int)=6:=g;omega
   lI:=fun g=>by exfalso;have g:(12:Int)=20:=g;omega
   tk:=fun _ _ _ g _ _=>absurd rfl g
   c8:=fun _=>by show s.count+1=((s.token++[_]).length:Int);rw[c.1,c.2];rfl
   gD:=fun g=>by exfalso;have g:(12:Int)=14:=g;omega
   oC:=fun g=>by exfalso;have g:(12:Int)=17:=g;omega
   dQ:=fun _=>j
   gM:=fun _=>by show jV s.ot (s.token++[Mk.u8 b]);rw[c.1];exact LU h.bd.2.1 (LW d.1)
   jh:=fun g=>by exfalso;have g:(13:Int)≤12:=g;omega
   iV:=fun _ _=>by show(s.opn.length:Int)<s.od;omega}
 simp at a
theorem LY(h:Wq s)(k:s.state=4)(b:Int)(a:(gP s b).2=0):W (gP s b).1:=by
 have d:s.held=[]:=h.hs.none (by omega) (by omega) (by omega);have f:=h.tk (by omega) (by omega) (by omega) (by omega) (by omega) (by omega);have i:=h.dQ (by omega);have j:s.over=true→s.opn=[]:=fun g=>(h.ov g).1
 unfold gP at a⊢;split at a
 .rename_i g;rw[if_pos g];exact(iW h d f i 5 (by omega) (by omega) (by omega) j s.matched (by omega) (by omega) (by omega)).toW
 rename_i g;rw[if_neg g];split at a
 .rename_i c;rw[if_pos c];have l:s.opn≠[]:=fun e=>by rw[e]at c;simp at c
  exact(iW h d f i 6 (by omega) (by omega) (fun _=>l) j 0 (by omega) (by omega) (by omega)).toW
 simp at a
theorem LZ(h:Wq s)(c:s.state=5)(b:Int)(a:(jo s b).2=0):W (jo s b).1:=by
 have d:s.held=[]:=h.hs.none (by omega) (by omega) (by omega);have e:=h.tk (by omega) (by omega) (by omega) (by omega) (by omega) (by omega);have f:=h.dQ (by omega);unfold jo at a⊢;split at a
 .rename_i g;rw[if_pos g];exact(iW h d e f 7 (by omega) (by omega) (by omega) (fun g=>(h.ov g).1) s.matched (by omega) (by omega) (by omega)).toW
 simp at a
theorem RN(h:Wq s)(a:s.state=6)(b:Int)(c:(cT s b).2=0):W (cT s b).1:=by
 have d:s.held=[]:=h.hs.none (by omega) (by omega) (by omega);have e:=h.tk (by omega) (by omega) (by omega) (by omega) (by omega) (by omega);have f:=h.dQ (by omega);have i:=h.o1 (by omega);have j:=h.m6 a;unfold cT at c⊢;split at c
 .simp at c
 rename_i g;rw[if_neg g];split at c
 .rename_i g2;rw[if_pos g2];exact(iW h d e f 2 (by omega) (by omega) (fun _=>i) (fun g=>(h.ov g).1) (s.matched+1) (by omega) (by omega) (by omega)).toW
 rename_i g2;rw[if_neg g2];have:=(iW h d e f 6 (by omega) (by omega) (fun _=>i) (fun g=>(h.ov g).1) (s.matched+1) (by omega) (by omega) (by omega)).toW;rw[←a]at this;exact this
theorem L_(h:Wq s)(a:s.state=9)(b:Int)(c:(jr s b).2=0):W (jr s b).1:=by
 unfold jr at c⊢;split at c
 .rename_i g;rw[if_pos g];exact(Qu h (.inl a)).toW
 simp at c
theorem p_(h:Wq s)(f:s.held=[])(i:s.over=false)(st:Int)(j:13≤st∧st≤19)(k:st≠14→st≠17→s.token=[]∧s.count=0)(b:st≠14)(a:Int)(c:st=17→a=34∨a=39)(l:jV s.ot s.name)(d:(s.opn.length:Int)<s.od)(e:0≤a∧a≤255):
 Wq {s with state:=st,quote:=a}:=
 {h with
  st:=⟨by dsimp only;omega,by dsimp only;omega⟩
  o0:=fun g=>by exfalso;have g:st=0:=g;omega
  o1:=fun g=>by exfalso;have g:st=1∨st=2∨st=6∨st=20∨st=21:=g;omega
  ov:=fun g=>by have g:s.over=true:=g;rw[i]at g;cases g
  pl:=fun g=>by have g:0<s.pl:=g;have:=h.q;omega
  rf:=fun g=>absurd (h.r.symm.trans g) (by decide)
  hs:=.inl f
  m6:=fun g=>by exfalso;have g:st=6:=g;omega
  lI:=fun g=>by exfalso;have g:st=20:=g;omega
  tk:=fun _ _ _ _ m g2=>k m g2
  c8:=fun g=>by exfalso;have g:st=8∨st=12∨st=14:=g;omega
  gD:=fun g=>absurd g b
  oC:=c
  dQ:=fun g=>absurd j g
  gM:=fun g=>by exfalso;have g:st=12:=g;omega
  jh:=fun _ _=>l
  iV:=fun _ _=>d
  q0:=e}
theorem Qy(h:Wq s)(a:s.state≠14):Wq (Mk.cH s):=by
 rw[nJ];exact{h with gD:=fun g=>absurd g a,dQ:=fun _=>rfl}
theorem C_(h:Wq s)(f:s.held=[])(i:s.token=[]∧s.count=0)(j:jV s.ot s.name)(c:(s.opn.length:Int)<s.od)(k:s.over=false)(d:s.state≠14)(b:Int):Wq (gH s b):=by
 unfold gH;split
 .exact p_ h f k 19 (by omega) (fun _ _=>i) (by omega) s.quote (by omega) j c h.q0
 have e:=nJ s;rw[e];have l:=Qy h d;rw[e]at l;have m:((s.opn++[s.name]).length=0)=False:=by simp
 unfold Mk.resume;dsimp only;rw[if_neg (by simp)]
 exact{l with
  st:=⟨by dsimp only;omega,by dsimp only;omega⟩
  o0:=fun g=>by exfalso;have g:(1:Int)=0:=g;omega
  o1:=fun g=>by show s.opn++[s.name]≠[];simp
  ov:=fun g=>by have g:s.over=true:=g;rw[k]at g;cases g
  pl:=fun g=>by have g:0<s.pl:=g;have:=h.q;omega
  rf:=fun g=>absurd (h.r.symm.trans g) (by decide)
  hs:=.inl f
  m6:=fun g=>by exfalso;have g:(1:Int)=6:=g;omega
  lI:=fun g=>by exfalso;have g:(1:Int)=20:=g;omega
  tk:=fun _ _ _ _ _ _=>i
  c8:=fun g=>by exfalso;have g:(1:Int)=8∨(1:Int)=12∨(1:Int)=14:=g;omega
  gD:=fun g=>by exfalso;have g:(1:Int)=14:=g;omega
  oC:=fun g=>by exfalso;have g:(1:Int)=17:=g;omega
  dQ:=fun _=>rfl
  rq:=fun n a=>by
   rcases List.mem_append.1 a with a|a
   .exact h.rq n a
   rw[List.mem_singleton.1 a];exact j
  gM:=fun g=>by exfalso;have g:(1:Int)=12:=g;omega
  jh:=fun g=>by exfalso;have g:(13:Int)≤1:=g;omega
  dp:=by show((s.opn++[s.name]).length:Int)≤s.od;simp;omega
  iV:=fun g=>by exfalso;have g:(12:Int)≤1:=g;omega}
theorem Ma(s:St):∃b c,(Mk.enter s).1={s with aG:=b,cnt:=c}:=by
 rcases zi s with h|h
 .exact⟨s.aG,s.cnt,h⟩
 exact⟨_,_,h.trans (qq s).1⟩
theorem Mb(h:Wq s)(f:s.held=[])(i:s.token=[]∧s.count=0)(j:jV s.ot s.name)(a:(s.opn.length:Int)<s.od)(k:s.over=false)(m:s.state=12∨s.state=13∨s.state=18)(n:13≤s.state∨s.aC=[])(b:Int)(c:(gQ s b).2=0):W (gQ s b).1:=by
 unfold gQ at c⊢;split at c
 .rename_i g;rw[if_pos g];split at c
  .simp at c
  rename_i l o;obtain⟨p,q,r⟩:=Ma s;dsimp only;rw[r];have d:s.aC=[]→l=[]:=by
   intro e;have:=(Qc o).2;rw[e]at this;simpa[Mk.iO]using this.symm
  have t:Wq {s with aG:=p,cnt:=q,aC:=l}:={h with
   gD:=fun g=>by exfalso;have g:s.state=14:=g;omega
   dQ:=fun g=>d (h.dQ g)}
  exact(C_ t f i j a k (by show s.state≠14;omega) b).toW
 rename_i g;rw[if_neg g];exact(C_ h f i j a k (by omega) b).toW
theorem xU(h:Wq s)(e:s.held=[])(f:s.token=[]∧s.count=0)(i:jV s.ot s.name)(a:(s.opn.length:Int)<s.od)(j:s.over=false)(d:s.state=12∨s.state=13∨s.state=18)(b:Int)(c:(fO s b).2=0):W (fO s b).1:=by
 unfold fO at c⊢;split at c
 .rename_i g;rw[if_pos g];exact(p_ h e j 13 (by omega) (fun _ _=>f) (by omega) s.quote (by omega) i a h.q0).toW
 rename_i g;rw[if_neg g];split at c
 .rename_i g2;rw[if_pos g2];exact Mb h e f i a j d (by by_cases q:13≤s.state;exact .inl q;exact .inr (h.dQ (by omega))) b c
 simp at c
theorem oF(h:W s)(a:12≤s.state∧s.state≤19):s.over=false:=by
 cases e:s.over
 .rfl
 exact absurd a (h.ov e).2
theorem Mc(h:Wq s)(a:s.state=12)(b:Int)(c:(jM s b).2=0):W (jM s b).1:=by
 have d:dX s=false:=by unfold dX;simp[a]
 have f:s.held=[]:=h.hs.none (by omega) (by omega) (by omega);have i:=oF h.toW (by omega);unfold jM at c⊢;split at c
 .rename_i g2;rw[if_pos g2];unfold Mk.gG at c⊢;split at c
  .rename_i e;rw[if_pos e,oD d,ru b (PV g2).2]
   exact{h with
    tk:=fun k l m j n o=>absurd a j
    c8:=fun _=>by have:=h.c8 (.inr (.inl a));show s.count+1=((s.token++[_]).length:Int);simp;omega
    gD:=fun g=>by exfalso;have g:s.state=14:=g;omega
    gM:=fun _=>LV (h.gM a) (by show(s.token.length:Int)+1≤s.ot;have:=h.c8 (.inr (.inl a));unfold Mk.fits at e;rw[d]at e;simp at e;omega) g2}
  simp at c
 rename_i g2;rw[if_neg g2];exact xU (uE (rz h f (by omega)) s.token (fun p g2=>h.gM a)) f ⟨rfl,rfl⟩ (h.gM a) (h.iV (by omega) (by omega)) i (.inl a) b c
theorem Me(h:Wq s)(i:s.state=13)(b:Int)(a:(jb s b).2=0):W (jb s b).1:=by
 have e:s.held=[]:=h.hs.none (by omega) (by omega) (by omega);have f:=oF h.toW (by omega);have c:=h.tk (by omega) (by omega) (by omega) (by omega) (by omega) (by omega);unfold jb at a⊢;split at a
 .rename_i g;rw[if_pos g];exact xU h e c (h.jh (by omega) (by omega)) (h.iV (by omega) (by omega)) f (by omega) b a
 rename_i g;rw[if_neg g];split at a
 .simp at a
 rename_i g2;rw[if_neg g2];have d:dX {s with state:=14}=false:=rfl;have g:dM b=true:=by simpa using g
 rw[oD d,ru b (Qw g).2]
 exact{h with
  st:=⟨by dsimp only;omega,by dsimp only;omega⟩
  o0:=fun g=>by exfalso;have g:(14:Int)=0:=g;omega
  o1:=fun g=>by exfalso;have g:(14:Int)=1∨(14:Int)=2∨(14:Int)=6∨(14:Int)=20∨(14:Int)=21:=g;omega
  ov:=fun g=>by have g:s.over=true:=g;rw[f]at g;cases g
  pl:=fun g=>by have g:0<s.pl:=g;have:=h.q;omega
  rf:=fun g=>absurd (h.r.symm.trans g) (by decide)
  hs:=.inl e
  m6:=fun g=>by exfalso;have g:(14:Int)=6:=g;omega
  lI:=fun g=>by exfalso;have g:(14:Int)=20:=g;omega
  tk:=fun _ _ _ _ g _=>absurd rfl g
  c8:=fun _=>by show s.count+1=((s.token++[_]).length:Int);rw[c.1,c.2];rfl
  gD:=fun _=>⟨fun _=>by show s.count+1+1≤s.ot;have:=h.bd;omega,by show(s.aC.length:Int)<s.oa;omega⟩
  oC:=fun g=>by exfalso;have g:(14:Int)=17:=g;omega
  dQ:=fun g=>absurd ⟨by dsimp only;omega,by dsimp only;omega⟩ g
  gM:=fun g=>by exfalso;have g:(14:Int)=12:=g;omega
  jh:=fun _ _=>h.jh (by omega) (by omega)
  iV:=fun _ _=>h.iV (by omega) (by omega)}
theorem Da(h:Wq s)(c:s.held=[])(d:s.token=[]∧s.count=0)(f:14≤s.state∧s.state≤15)(b:Int)(a:(gS s b).2=0):W (gS s b).1:=by
 have e:=oF h.toW (by omega);unfold gS at a⊢;split at a
 .rename_i g;rw[if_pos g];exact(p_ h c e 15 (by omega) (fun _ _=>d) (by omega) s.quote (by omega) (h.jh (by omega) (by omega)) (h.iV (by omega) (by omega)) h.q0).toW
 rename_i g;rw[if_neg g];split at a
 .rename_i g2;rw[if_pos g2];exact(p_ h c e 16 (by omega) (fun _ _=>d) (by omega) s.quote (by omega) (h.jh (by omega) (by omega)) (h.iV (by omega) (by omega)) h.q0).toW
 simp at a
theorem Mf(h:Wq s)(c:s.state=14)(b:Int)(a:(iz s b).2=0):W (iz s b).1:=by
 have d:dX s=false:=by unfold dX;simp[c]
 have j:s.held=[]:=h.hs.none (by omega) (by omega) (by omega);have l:=oF h.toW (by omega);have f:=h.gD c;unfold iz at a⊢;split at a
 .rename_i g;rw[if_pos g];unfold Mk.kF at a⊢;split at a
  .rename_i g2;rw[if_pos g2];split at a
   .simp at a
   rename_i i;rw[if_neg i];rw[oD d,ru b (PV g).2]at i⊢
   exact{h with
    gM:=fun g=>by exfalso;have g:s.state=12:=g;omega
    tk:=fun _ _ _ _ g _=>absurd c g
    c8:=fun _=>by have:=h.c8 (.inr (.inr c));show s.count+1=((s.token++[_]).length:Int);simp;omega
    gD:=fun _=>⟨fun k=>by
     have e:Mk.fits {s with token:=s.token++[Mk.u8 b],count:=s.count+1} 1=true:=by
      cases e:Mk.fits {s with token:=s.token++[Mk.u8 b],count:=s.count+1} 1
      .exact absurd (by rw[e];simpa using k) i
      rfl
     unfold Mk.fits at e
     rw[show dX {s with token:=s.token++[Mk.u8 b],count:=s.count+1}=false from d]at e
     simpa using e,f.2⟩}
  simp at a
 rename_i g;rw[if_neg g];split at a
 .simp at a
 rename_i g2;rw[if_neg g2];split at a
 .simp at a
 rename_i i;rw[if_neg i];refine Da (s:={aY s with attr:=s.token}) ?_ j ⟨rfl,rfl⟩ ⟨by show 14≤s.state;omega,by show s.state≤15;omega⟩ b a
 exact{h with
  gM:=fun g=>by exfalso;have g:s.state=12:=g;omega
  tk:=fun _ _ _ _ _ _=>⟨rfl,rfl⟩
  c8:=fun _=>rfl
  gD:=fun _=>⟨fun _=>by show(0:Int)+1≤s.ot;have:=h.bd;omega,f.2⟩}
theorem Mg(h:Wq s)(c:s.state=16)(b:Int)(a:(iA s b).2=0):W (iA s b).1:=by
 have d:s.held=[]:=h.hs.none (by omega) (by omega) (by omega);have e:=oF h.toW (by omega);have f:=h.tk (by omega) (by omega) (by omega) (by omega) (by omega) (by omega);unfold iA at a⊢;split at a
 .rename_i g;rw[if_pos g];exact h.toW
 rename_i g;rw[if_neg g];split at a
 .rename_i g2;rw[if_pos g2];have g2:b=34∨b=39:=by simpa using g2
  exact(p_ h d e 17 (by omega) (fun _ _=>f) (by omega) b (fun _=>g2) (h.jh (by omega) (by omega)) (h.iV (by omega) (by omega)) (by omega)).toW
 simp at a
theorem Mh(h:Wq s)(d:s.state=17)(b:Int)(i:0≤b)(a:(fC s b).2=0):W (fC s b).1:=by
 have f:s.held=[]:=h.hs.none (by omega) (by omega) (by omega);have j:=oF h.toW (by omega);unfold fC at a⊢;split at a
 .rename_i g;rw[if_pos g];have k:Wq (aY s):=rz h f (by omega);have l:=p_ k f j 18 (by omega) (fun _ _=>⟨rfl,rfl⟩) (by omega) s.quote (by omega) (h.jh (by omega) (by omega)) (h.iV (by omega) (by omega)) h.q0
  exact{l with
   gD:=fun g=>by exfalso;have g:(18:Int)=14:=g;omega
   dQ:=fun g=>absurd ⟨by show(13:Int)≤18;omega,by show(18:Int)≤19;omega⟩ g}
 rename_i g;rw[if_neg g];split at a
 .simp at a
 rename_i g2;rw[if_neg g2];split at a
 .rename_i e;rw[if_pos e];split at a
  .rename_i c;rw[if_pos c]
   exact{h with
    rf:=fun _=>⟨.inr d,.inl ⟨rfl,rfl⟩⟩
    pl:=fun g=>by have g:0<s.pl:=g;have:=h.q;omega}
  simp at a
 rename_i e;rw[if_neg e];split at a
 .rename_i c;rw[if_pos c];exact nu h.toW (by omega) h.r 32 (by omega) a
 rename_i c;rw[if_neg c];exact nu h.toW (by omega) h.r b i a
theorem Db(h:Wq s)(c:s.held=[])(d:s.token=[]∧s.count=0)(e:s.aC=[])(n:Bs):Wq (dR s n):=by
 have f:(s.opn.length=0)↔s.opn=[]:=List.length_eq_zero_iff;rw[xR];have i:Wq {s with list:=(dR s n).list,text:=(dR s n).text,aG:=(dR s n).aG,cnt:=(dR s n).cnt}:={h with};by_cases b:s.opn=[]
 .have a:=f.2 b;simp only[a,decide_true,if_true]
  exact{i with
   st:=⟨by dsimp only;omega,by dsimp only;omega⟩
   o0:=fun _=>b
   o1:=fun g=>by exfalso;have g:(0:Int)=1∨(0:Int)=2∨(0:Int)=6∨(0:Int)=20∨(0:Int)=21:=g;omega
   ov:=fun _=>⟨b,by dsimp only;omega⟩
   pl:=fun g=>by have g:0<s.pl:=g;have:=h.q;omega
   rf:=fun g=>absurd (h.r.symm.trans g) (by decide)
   hs:=.inl c
   m6:=fun g=>by exfalso;have g:(0:Int)=6:=g;omega
   lI:=fun g=>by exfalso;have g:(0:Int)=20:=g;omega
   tk:=fun _ _ _ _ _ _=>d
   c8:=fun g=>by exfalso;have g:(0:Int)=8∨(0:Int)=12∨(0:Int)=14:=g;omega
   gD:=fun g=>by exfalso;have g:(0:Int)=14:=g;omega
   oC:=fun g=>by exfalso;have g:(0:Int)=17:=g;omega
   dQ:=fun _=>e
   gM:=fun g=>by exfalso;have g:(0:Int)=12:=g;omega
   jh:=fun g=>by exfalso;have g:(13:Int)≤0:=g;omega
   iV:=fun g=>by exfalso;have g:(12:Int)≤0:=g;omega}
 have a:¬s.opn.length=0:=fun g=>b (f.1 g)
 simp only[a,decide_false,if_false]
 exact{i with
  st:=⟨by dsimp only;omega,by dsimp only;omega⟩
  o0:=fun g=>by exfalso;have g:(1:Int)=0:=g;omega
  o1:=fun _=>b
  ov:=fun g=>by cases g
  pl:=fun g=>by have g:0<s.pl:=g;have:=h.q;omega
  rf:=fun g=>absurd (h.r.symm.trans g) (by decide)
  hs:=.inl c
  m6:=fun g=>by exfalso;have g:(1:Int)=6:=g;omega
  lI:=fun g=>by exfalso;have g:(1:Int)=20:=g;omega
  tk:=fun _ _ _ _ _ _=>d
  c8:=fun g=>by exfalso;have g:(1:Int)=8∨(1:Int)=12∨(1:Int)=14:=g;omega
  gD:=fun g=>by exfalso;have g:(1:Int)=14:=g;omega
  oC:=fun g=>by exfalso;have g:(1:Int)=17:=g;omega
  dQ:=fun _=>e
  gM:=fun g=>by exfalso;have g:(1:Int)=12:=g;omega
  jh:=fun g=>by exfalso;have g:(13:Int)≤1:=g;omega
  iV:=fun g=>by exfalso;have g:(12:Int)≤1:=g;omega}
theorem Mi(h:Wq s)(d:s.state=19)(b:Int)(a:(jN s b).2=0):W (jN s b).1:=by
 have f:s.held=[]:=h.hs.none (by omega) (by omega) (by omega);have i:=h.tk (by omega) (by omega) (by omega) (by omega) (by omega) (by omega);unfold jN at a⊢;split at a
 .simp at a
 rename_i g;rw[if_neg g];have j:=Qy h (by omega);have e:=nJ s;have c:=Db j (by rw[e];exact f) (by rw[e];exact i) (by rw[e]) s.name;exact(uE c [] fun _ _=>Qt c.bd.2.1).toW
theorem Mj(h:Wq s)(i:s.state=20∨s.state=21):Wq (Pv s):=by
 have a:s.held=[]:=h.hs.none (by omega) (by omega) (by omega);have b:=h.tk (by omega) (by omega) (by omega) (by omega) (by omega) (by omega);have c:=h.dQ (by omega);have j:=h.o1 (by omega);have m:s.over=false:=by
  cases e:s.over
  .rfl
  exact absurd (h.ov e).1 j
 unfold Pv;have o:=iW h a b c 3 (by omega) (by omega) (by omega) (fun g=>(h.ov g).1) s.matched (by omega) (by omega) (by omega)
 have q:Wq {s with state:=3,opn:=s.opn.dropLast}:={o with
  o0:=fun g=>by exfalso;have g:(3:Int)=0:=g;omega
  o1:=fun g=>by exfalso;have g:(3:Int)=1∨(3:Int)=2∨(3:Int)=6∨(3:Int)=20∨(3:Int)=21:=g;omega
  ov:=fun g=>by have g:s.over=true:=g;rw[m]at g;cases g
  lI:=fun g=>by exfalso;have g:(3:Int)=20:=g;omega
  rq:=fun n w=>h.rq n (List.dropLast_subset _ w)
  dp:=by show(s.opn.dropLast.length:Int)≤s.od;have:=h.dp;rw[List.length_dropLast];omega
  iV:=fun g=>by exfalso;have g:(12:Int)≤3:=g;omega}
 have d:=Db q a b c (Mk.innermost s);have e:dR {s with state:=3,opn:=s.opn.dropLast} (Mk.innermost s)=dR {s with opn:=s.opn.dropLast} (Mk.innermost s):=by
  rw[xR,xR {s with opn:=s.opn.dropLast}];have x:∀(u v:Int) (e:Ev),(Mk.add {s with state:=u,opn:=s.opn.dropLast} e).list=(Mk.add {s with state:=v,opn:=s.opn.dropLast} e).list:=fun u v e=>by unfold Mk.add aQ;dsimp only;split<;>rfl
  have f:∀(l:List (Bs×Bs)) (z:St) (u:Int),fB {z with state:=u} l={fB z l with state:=u}:=by
   intro l;induction l with
   |nil=>intro z u;rfl
   |cons p r ih=>
    intro z u;have g:Mk.add {z with state:=u} ⟨7,p.1,[],[],[]⟩={Mk.add z ⟨7,p.1,[],[],[]⟩with state:=u}:=by unfold Mk.add aQ;dsimp only;split<;>rfl
    show fB (Mk.add {z with state:=u} _) r={fB (Mk.add z _) r with state:=u};rw[g];exact ih _ u
  have g:Mk.add {s with state:=3,opn:=s.opn.dropLast} ⟨2,Mk.innermost s,Mk.aZ s (Mk.innermost s),[],[]⟩={Mk.add {s with opn:=s.opn.dropLast} ⟨2,Mk.innermost s,Mk.aZ s (Mk.innermost s),[],[]⟩with state:=3}:=by unfold Mk.add aQ;dsimp only;split<;>rfl
  have k:eD (Mk.add {s with state:=3,opn:=s.opn.dropLast} ⟨2,Mk.innermost s,Mk.aZ s (Mk.innermost s),[],[]⟩)={eD (Mk.add {s with opn:=s.opn.dropLast} ⟨2,Mk.innermost s,Mk.aZ s (Mk.innermost s),[],[]⟩)with state:=3}:=by
   rw[g];unfold eD;exact f _ _ _
  have t:dR {s with state:=3,opn:=s.opn.dropLast} (Mk.innermost s)=dR {s with opn:=s.opn.dropLast} (Mk.innermost s):=by
   show Mk.resume {Mk.leave (eD (Mk.add {s with state:=3,opn:=s.opn.dropLast} ⟨2,Mk.innermost s,Mk.aZ s (Mk.innermost s),[],[]⟩))with over:=_}=Mk.resume {Mk.leave (eD (Mk.add {s with opn:=s.opn.dropLast} ⟨2,Mk.innermost s,Mk.aZ s (Mk.innermost s),[],[]⟩))with over:=_};rw[k];rfl
  rw[t]
 rw[e]at d;exact d
theorem Dc(h:Wq s)(c:s.state=20∨s.state=21)(b:Int)(a:(gT s b).2=0):W (gT s b).1:=by
 have d:s.held=[]:=h.hs.none (by omega) (by omega) (by omega);have e:=h.tk (by omega) (by omega) (by omega) (by omega) (by omega) (by omega);have f:=h.dQ (by omega);have i:=h.o1 (by omega);unfold gT at a⊢;split at a
 .rename_i g;rw[if_pos g];exact(iW h d e f 21 (by omega) (by omega) (fun _=>i) (fun g=>(h.ov g).1) s.matched (by omega) (by omega) (by omega)).toW
 rename_i g;rw[if_neg g];split at a
 .rename_i g2;rw[if_pos g2];exact(Mj h c).toW
 simp at a
theorem Ml(h:Wq s)(c:s.state=20)(b:Int)(a:(gU s b).2=0):W (gU s b).1:=by
 have d:=h.lI c;unfold gU at a⊢;split at a
 .rename_i g;rw[if_pos g];split at a
  .simp at a
  rename_i g2;rw[if_neg g2]
  exact{h with
   m6:=fun g=>by exfalso;have g:s.state=6:=g;omega
   lI:=fun _=>⟨by show 0≤s.matched+1;omega,by show s.matched+1≤(Mk.innermost s).length;omega⟩}
 rename_i g;rw[if_neg g];split at a
 .simp at a
 rename_i g2;rw[if_neg g2];exact Dc h (.inl c) b a
theorem Mm(h:Wq s)(j:12≤s.state∧s.state≤19∧s.state≠17)(b:Int)(a:(fD s b).2=0):W (fD s b).1:=by
 have i:s.held=[]:=h.hs.none (by omega) (by omega) (by omega);unfold fD at a⊢;split at a
 .rename_i g;rw[if_pos g];exact Mc h (by simpa using g) b a
 rename_i g;rw[if_neg g];have g:s.state≠12:=by simpa using g
 split at a
 .rename_i e;rw[if_pos e];exact Me h (by simpa using e) b a
 rename_i e;rw[if_neg e];have e:s.state≠13:=by simpa using e
 split at a
 .rename_i g2;rw[if_pos g2];exact Mf h (by simpa using g2) b a
 rename_i g2;rw[if_neg g2];have g2:s.state≠14:=by simpa using g2
 split at a
 .rename_i c;rw[if_pos c];have c:s.state=15:=by simpa using c
  exact Da h i (h.tk (by omega) (by omega) (by omega) (by omega) (by omega) (by omega)) (by omega) b a
 rename_i c;rw[if_neg c];have c:s.state≠15:=by simpa using c
 split at a
 .rename_i f;rw[if_pos f];exact Mg h (by simpa using f) b a
 rename_i f;rw[if_neg f];have f:s.state≠16:=by simpa using f
 split at a
 .rename_i d;rw[if_pos d];have d:s.state=18:=by simpa using d
  exact xU h i (h.tk (by omega) (by omega) (by omega) (by omega) (by omega) (by omega)) (h.jh (by omega) (by omega)) (h.iV (by omega) (by omega)) (oF h.toW (by omega)) (by omega) b a
 rename_i d;rw[if_neg d];have d:s.state≠18:=by simpa using d
 exact Mi h (by omega) b a
theorem Mq(h:Wq s)(l:s.state≠0∧s.state≠1∧s.state≠2∧s.state≠7∧s.state≠11∧s.state≠17)(b:Int)(m:0≤b)(a:(dP s b).2=0):W (dP s b).1:=by
 have n:=h.st;unfold dP at a⊢;split at a
 .rename_i g;rw[if_pos g];exact LX h (by simpa using g) b a
 rename_i g;rw[if_neg g];have g:s.state≠3:=by simpa using g
 split at a
 .rename_i d;rw[if_pos d];exact LY h (by simpa using d) b a
 rename_i d;rw[if_neg d];have d:s.state≠4:=by simpa using d
 split at a
 .rename_i g2;rw[if_pos g2];exact LZ h (by simpa using g2) b a
 rename_i g2;rw[if_neg g2];have g2:s.state≠5:=by simpa using g2
 split at a
 .rename_i e;rw[if_pos e];exact RN h (by simpa using e) b a
 rename_i e;rw[if_neg e];have e:s.state≠6:=by simpa using e
 split at a
 .rename_i f;rw[if_pos f];exact LP h (by simpa using f) b a
 rename_i f;rw[if_neg f];have f:s.state≠8:=by simpa using f
 split at a
 .rename_i i;rw[if_pos i];exact L_ h (by simpa using i) b a
 rename_i i;rw[if_neg i];have i:s.state≠9:=by simpa using i
 split at a
 .rename_i j;rw[if_pos j];exact LQ h (by simpa using j) b m a
 rename_i j;rw[if_neg j];have j:s.state≠10:=by simpa using j
 split at a
 .rename_i k;rw[if_pos k];exact Ml h (by simpa using k) b a
 rename_i k;rw[if_neg k];have k:s.state≠20:=by simpa using k
 split at a
 .rename_i c;rw[if_pos c];have c:s.state=21:=by simpa using c
  exact Dc h (.inr c) b a
 rename_i c;rw[if_neg c];have c:s.state≠21:=by simpa using c
 exact Mm h (by omega) b a
theorem Mr(h:W s)(b:Int)(c:0≤b)(a:(bO s b).2=0):W (bO s b).1:=by
 unfold bO at a⊢;split at a
 .rename_i g;rw[if_pos g];exact LJ h g b a
 rename_i g;rw[if_neg g];have m:s.pl=0:=by have:=h.p0;omega
 split at a
 .rename_i l;rw[if_pos l];exact LL h l m b c a
 rename_i l;rw[if_neg l];have d:Wq s:=⟨h,m,by simpa using l⟩;split at a
 .rename_i g2;rw[if_pos g2];exact LR d (by simpa using g2) b a
 rename_i g2;rw[if_neg g2];have g2:s.state≠0:=by simpa using g2
 split at a
 .rename_i e;rw[if_pos e];exact LS d (by simpa using e) b c a
 rename_i e;rw[if_neg e];have e:s.state≠1:=by simpa using e
 split at a
 .rename_i f;rw[if_pos f];exact LO d (by simpa using f) b c a
 rename_i f;rw[if_neg f];have f:s.state≠2:=by simpa using f
 split at a
 .rename_i i;rw[if_pos i];exact LN d (by simpa using i) b c a
 rename_i i;rw[if_neg i];have i:s.state≠7:=by simpa using i
 split at a
 .rename_i j;rw[if_pos j];exact Qv d (by simpa using j) b c a
 rename_i j;rw[if_neg j];have j:s.state≠11:=by simpa using j
 split at a
 .rename_i k;rw[if_pos k];exact Mh d (by simpa using k) b c a
 rename_i k;rw[if_neg k];have k:s.state≠17:=by simpa using k
 exact Mq d ⟨g2,e,f,i,j,k⟩ b c a
theorem Ms(h:W s)(b:Int):W (jc s b):=by
 unfold jc;split
 .exact{h with}
 split
 .exact{h with}
 exact h
theorem De(h:W s)(b:Int)(c:0≤b)(a:(jv s b).2=0):W (jv s b).1:=by
 unfold jv at a⊢;split at a
 .rename_i g;rw[if_pos g];exact Ms (Mr h b c g) b
 rename_i g;exact absurd a g
theorem Mt(h:W s)(x:UInt8)(a:(eU s x).ended=0):W (eU s x):=by
 unfold eU at a⊢;split at a
 .rename_i g;rw[if_pos g];have b:W {s with at_:=s.at_+1}:={h with};unfold Mk.read at a⊢;dsimp only at a⊢;split at a
  .rename_i g2;rw[if_pos g2];exact{b with}
  rename_i g2;rw[if_neg g2];split at a
  .rename_i c;rw[if_pos c];have d:=De (s:={s with at_:=s.at_+1,ret:=true}) {b with} 10 (by omega) a;exact{d with}
  rename_i c;rw[if_neg c];have d:=De (s:={s with at_:=s.at_+1,ret:=false}) {b with} x.toNat (by omega) a;exact{d with}
 rename_i g;exact absurd a g
theorem Df:∀(l:Bs) {s:St},W s→(bI s l).ended=0→W (bI s l)
 |[],_,h,_=>h
 |x::r,s,h,c=>by
  have e:(eU s x).ended=0:=by
   cases hd:decide ((eU s x).ended=0)
   .have a:(eU s x).ended≠0:=by simpa using hd
    have f:∀(l:Bs) (z:St),z.ended≠0→bI z l=z:=by
     intro l;induction l with
     |nil=>intro z _;rfl
     |cons y t ih=>intro z d;show bI (eU z y) t=z;have:eU z y=z:=(by unfold eU;rw[if_neg d]);rw[this];exact ih z d
    have b:(bI (eU s x) r).ended=0:=c;rw[f r _ a]at b;exact absurd b a
   simpa using hd
  exact Df r (Mt h x e) c
theorem Mw(d a t:Int)(n:Bool)(b:1≤d)(c:8≤t)(e:a≤32):W (bC d a t n):=by
 constructor<;>simp_all[bC,Hs,Mk.isOpen]<;>omega
end Go.Proofs.YtmgfijllcdadgaaGreatDoor
namespace Mk
def dB(c l:Int):Bs:=
 if l=1 then[128]
 else if l=2 then(if c=0 then[160,128]else[128,128])
 else if l=3 then(if c=0 then[144,128,128]else[128,128,128])
 else[]
def jW(n:Bs):List (Bs×Int)→Bs
 |[]=>[]
 |(x,_)::r=>if n.isPrefixOf x then x.drop n.length else jW n r
def iX(c base:Int):Bs:=
 if iM c then[59]else if iM (c*base)then[48,59]else if iM (c*base*base)then[48,48,59]else[57,59]
def h_(p:Int)(n:Bs)(c:Int):Bs:=
 if p=1∨p=2 then jW n fJ
 else if p=3∨p=5 then iX c 10
 else if p=4∨p=6 then iX c 16
 else[]
def behind(w:Bs)(k:Int):Bs:=if k<0∨(w.length:Int)<k then[]else w.drop k.toNat
def fG:Bs:=[67,68,65,84,65,91]
def oG(s:St):Nat→Int→Bs
 |0,_=>[]
 |n+1,b=>if gm b&& !Pu s (s.token++[u8 b])then[u8 b]else oG s n (b+1)
def mG(s:St):Bs:=if Pu s s.token then oG s 58 65 else[]
def kU(st:Int):Bool:=decide (12≤st)&&decide (st≤19)
def kV(st:Int):Bool:=st==20||st==21
def ia(s:St):Bs:=
 if s.state=14 then mG s++[61,39,39,47,62]
 else if s.state=15 then[61,39,39,47,62]
 else if s.state=16 then[39,39,47,62]
 else if s.state=17 then[u8 s.quote,47,62]
 else if s.state=19 then[62]
 else[47,62]
def iY(s:St):Bs:=
 if s.state=8∧(s.count=0∨jq s.token=true)then[97,63,62]
 else if s.state=9 then[62]
 else behind [63,62] s.held.length
def dH(s:St):Bs:=
 if s.state=0∨s.state=1 then[]
 else if s.state=3 then[33,45,45,45,45,62]
 else if s.state=4 then[45,45,45,45,62]
 else if s.state=5 then[45,45,45,62]
 else if s.state=7 then behind [45,45,62] s.held.length
 else if s.state=6 then behind fG s.matched++[93,93,62]
 else if s.state=2 then behind [93,93,62] s.held.length
 else if s.state=20 then behind (innermost s) s.matched++[62]
 else if s.state=21 then[62]
 else if kU s.state then ia s
 else iY s
def endTags:List Bs→Bs
 |[]=>[]
 |n::r=>[60,47]++n++[62]++endTags r
def ny(s:St):List Bs:=if kV s.state then s.opn.dropLast.reverse else s.opn.reverse
def rest(s:St):Bs:=
 dB s.pc s.pl++h_ s.rp s.rn s.rc++dH s++endTags (ny s)++(if s.opn=[]∧s.over=false∧kU s.state=false then[60,97,47,62]else[])
end Mk
namespace Go.Proofs.YtmgfijllcdadgaaGreatDoor
open Mk (St Bs Ev aD)
open Mk (dB h_ cQ ij)
def later(s:St):Bs:=Mk.dH s++Mk.endTags (Mk.ny s)++(if s.opn=[]∧s.over=false∧Mk.kU s.state=false then[60,97,47,62]else[])
theorem Mx(s:St):Mk.rest s=dB s.pc s.pl++(h_ s.rp s.rn s.rc++later s):=by unfold Mk.rest later;simp[List.append_assoc]
theorem My{p:Int}{n:Bs}{c:Int}(h:Mk.isOpen p=false):h_ p n c=[]:=by
 unfold Mk.isOpen at h;have:p=0∨p=7:=by
  by_cases a:p=0
  .exact .inl a
  exact .inr (by simpa[a]using h)
 rcases this with rfl|rfl<;>rfl
theorem MB{c l:Int}(h:iG c l):∃x r b,dB c l=x::r∧cQ c l x.toNat=some (b,l - 1)∧dB b (l - 1)=r∧x≠10∧x≠13:=by
 rcases h with⟨rfl,h⟩|⟨rfl,h⟩|⟨rfl,h⟩
 .refine⟨128,[],c*64,rfl,?_,rfl,by decide,by decide⟩;have:ij (c*64) 0=true:=by
   unfold ij Mk.iM;rw[if_neg (by decide),if_neg (by decide)];split
   .omega
   split
   .simp;omega
   simp;omega
  unfold cQ;rw[if_neg (by decide)];have e:c*64+((128:UInt8).toNat:Int) - 128=c*64:=by show c*64+128 - 128=_;omega
  rw[e];rw[if_pos (show ij (c*64) (1 - 1)=true from this)]
 .by_cases a:c=0
  .subst a;exact⟨160,[128],32,rfl,by decide,rfl,by decide,by decide⟩
  refine⟨128,[128],c*64,by simp[dB,a],?_,rfl,by decide,by decide⟩;have:ij (c*64) 1=true:=by
   unfold ij;simp;omega
  unfold cQ;rw[if_neg (by decide)];have e:c*64+((128:UInt8).toNat:Int) - 128=c*64:=by show c*64+128 - 128=_;omega
  rw[e];rw[if_pos (show ij (c*64) (2 - 1)=true from this)]
 by_cases a:c=0
 .subst a;exact⟨144,[128,128],16,rfl,by decide,rfl,by decide,by decide⟩
 refine⟨128,[128,128],c*64,by simp[dB,a],?_,?_,by decide,by decide⟩
 .have:ij (c*64) 2=true:=by
   unfold ij;simp;omega
  unfold cQ;rw[if_neg (by decide)];have e:c*64+((128:UInt8).toNat:Int) - 128=c*64:=by show c*64+128 - 128=_;omega
  rw[e];rw[if_pos (show ij (c*64) (3 - 1)=true from this)]
 have:¬(c*64=0):=by omega
 simp[dB,this]
end Go.Proofs.YtmgfijllcdadgaaGreatDoor
namespace Go.Proofs.YtmgfijllcdadgaaGreatDoor
open Mk (St Bs Ev aD)
end Go.Proofs.YtmgfijllcdadgaaGreatDoor
