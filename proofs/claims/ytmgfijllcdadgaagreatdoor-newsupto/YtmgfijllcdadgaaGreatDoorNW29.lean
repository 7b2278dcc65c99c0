import Derived.Test.YtmgfijllcdadgaaGreatDoorNW27
import Derived.Test.YtmgfijllcdadgaaGreatDoorNW28
import Derived.Test.YtmgfijllcdadgaaGreatDoorNW25
import Derived.Test.YtmgfijllcdadgaaGreatDoorNW24
import Derived.Test.YtmgfijllcdadgaaGreatDoorNW15
set_option linter.unusedVariables false
set_option linter.unusedSimpArgs false
set_option maxHeartbeats 16000000
set_option maxRecDepth 100000
namespace Go.Proofs.YtmgfijllcdadgaaGreatDoor.V
open Go.RowKit
open Mk (Bs Ev aD)
open Rf (R)
open Go.Proofs.Tryz
open Rf (eH aP cL aX gV)
variable {r x:R}
theorem Ks:EC 0:=by
 intro w b s L h a c d e f;omega
theorem BG:∀f,EC f
 |0=>Ks
 |f+1=>Kr f (Kl f fun a _=>BG a)
theorem Ku(f:Nat):EC f:=BG f
theorem BH{a:R}(h:Kp a r)(b:Bool):Kp a (jg b r):=⟨h.s,h.od,h.oa,h.ot,h.on,h.gz,h.len,h.ev,h.op,h.tg⟩
theorem BI(a:Bool):∀(f:Nat) (r:R),r.at_≤r.s.length→0≤r.ot→Kp r (eH a f r).1∧((eH a f r).2=true→(eH a f r).1.at_+1<r.s.length)
 |0,r,h,_=>⟨.refl h,fun e=>by cases e⟩
 |f+1,r,h,i=>by
  rw[wK];have b:=BH (gb h) a;have m:=b.le;have j:0≤(jg a (aP r)).ot:=by rw[b.ot];exact i
  generalize jg a (aP r)=q at *;have k:∀x:R×Bool,Kp q x.1→Kp r (if x.2 then eH a f x.1 else(x.1,false)).1∧((if x.2 then eH a f x.1 else(x.1,false)).2=true→(if x.2 then eH a f x.1 else(x.1,false)).1.at_+1<r.s.length):=by
   intro x l;have c:=b.trans l;split
   .have:=BI a f x.1 c.le (by rw[c.ot];exact i);exact⟨c.trans this.1,fun e=>by have:=this.2 e;rw[c.s]at this;exact this⟩
   exact⟨c,fun e=>by cases e⟩
  unfold tP;split
  .rename_i n;split
   .exact⟨b.fail 3,fun e=>by cases e⟩
   split
   .exact⟨b.stop 1,fun e=>by cases e⟩
   rename_i o;split
   .refine⟨b,fun _=>?_⟩;show q.at_+1<r.s.length;have:=b.s;rw[←this];omega
   simp only;have d:Kp q {q with at_:=q.at_+2}:=.to (by omega) (by omega);refine k _ ?_;split
   .exact d.trans (tO d.le j)
   have g:=fS (r:={q with at_:=q.at_+2}) d.le 45;split
   .exact d.trans (g.1.trans (tN g.1.le))
   exact d.trans g.1
  exact⟨b.stop 1,fun e=>by cases e⟩
theorem qV(a:Bool)(h:r.at_≤r.s.length)(b:0≤r.ot):Kp r (cL a r).1∧((cL a r).2=true→(cL a r).1.at_+1<r.s.length):=BI a _ r h b
def qW(x:R×Bool):R:=if x.2 then Rf.fail {x.1 with at_:=x.1.at_+1} 3 else x.1
def pO(f:Nat)(m:R):R:=if Rf.eC (m.byte (m.at_+1))then(if(Rf.element f m).2 then qW (cL true (Rf.element f m).1)else(Rf.element f m).1)else Rf.fail {m with at_:=m.at_+1} 3
theorem wW(r:R):Rf.document r=if(cL false r).2 then pO (2*r.s.length+2) (cL false r).1 else(cL false r).1:=by
 unfold Rf.document pO qW;simp only;cases(cL false r).2
 .rfl
 simp only[Bool.not_true,Bool.false_eq_true,if_false,if_true];cases Rf.eC ((cL false r).1.byte ((cL false r).1.at_+1))
 .rfl
 simp only[Bool.not_true,Bool.false_eq_true,if_false,if_true];cases(Rf.element (2*r.s.length+2) (cL false r).1).2<;>rfl
section
variable {w w' :World}{b:Nat}{s:R}{L:aH}
theorem BJ(h:aI w b s L)(f:Fit s)(hG:bG w)(K:0<b):Calls Tryz.prog 62 #[.pointer (some ⟨b,0,none⟩)] w fun e w' =>e=.returned (.tuple #[])∧∃L', aL w b (aR s L) w' (Rf.document s) L' :=by
 have a3:=aB h;have u:=aB (Bg false h f.ok f.ev f.sl);have F:=aB (fun(W:World) (r:R) (L' :aH) (hm:aL w b (aR s L) W r L')=>hG.mv h hm K);have j:=qV false f.ok.at_ f.ok.t0;have a4:=f.sl;obtain⟨i,a⟩:∃i,i=Rf.document s:=⟨_,rfl⟩;rw[←a];rw[wW]at a;have n:=aB (f.kp j.1);have C:=j.1.s;have D:=j.2;clear j;generalize cL false s=mm at *;obtain⟨m,o⟩:=mm;simp only at n C D;clear h f hG;cases o with
 |false=>
  have E:=aB (show i=m from a);clear a D;go_enter func62,ntmps62
  go_wp2_with(go_at_call 81;refine(aA u).mono ?_;rintro e w1 ⟨rfl,M,c⟩)
  refine bodyPost_ret (results_none rfl _ _ _) rfl ?_;rw[aA E];exact⟨rfl,M,c⟩
 |true=>
  have N:m.at_+1<m.s.length:=by rw[C];exact D rfl
  have a:i=pO (2*s.s.length+2) m:=a;have a5:m.s.length≤100000000:=(aA n).sl;obtain⟨y,hb,a6,hy⟩:=bH m (m.at_+1) N;have a7:=lZ y;have a8:(m.at_:Int)+1<(m.s.length:Int):=by omega
  have p:=aB (fun W=>pz (y.toNat:Int) W);unfold pO at a;rw[hb]at a;have X:=aB C;clear D hy hb C;cases T:Rf.eC (y.toNat:Int)with
  |false=>
   rw[T,if_neg (by decide)]at a;rw[T]at p;have E:=aB a;clear a;go_enter func62,ntmps62
   go_wp2_with(go_at_call 81;refine(aA u).mono ?_;rintro e w1 ⟨rfl,M,c⟩;have d:=aB c;have k:=c.rd.cell;have G:=c.rd.frozen;have v:=c.rd.lt;unfold aF at k;clear c)
   have z:IntKind.i64.wrap ((m.at_:Int)+1)=(m.at_:Int)+1:=by rw[IntKind.wrap_i64];omega
   go_region_with (go_at_call 82;refine(aA p _).mono ?_;rintro e w2 ⟨rfl,H⟩;obtain rfl:=H.symm)
   all_goals
    go_wp2_with(go_at_call 83;refine(bW ((aA d).drew.store 5 _ {m with at_:=m.at_+1} (by simp[aF]) rfl rfl rfl).rd 3).mono ?_;rintro e w3 ⟨rfl,O,g⟩)
    refine bodyPost_ret (results_none rfl _ _ _) rfl ?_;rw[aA E];exact⟨rfl,O,((aA d).drew.store 5 _ {m with at_:=m.at_+1} (by simp[aF]) rfl rfl rfl).call g⟩
  |true=>
   rw[T,if_pos rfl]at a;rw[T]at p;have I:=aB (fun(W:World) (L' :aH) (Y:aI W b m L') (Z:bG W)=>Ku (2*s.s.length+2) W b m L' Y (aA n) Z K (by omega) (by rw[aA X];omega));have A:=(jS (2*s.s.length+2)).1 m (by omega) (aA n).ot (aA n).sl;unfold tV at A;generalize Rf.element (2*s.s.length+2) m=el at *;obtain⟨q,o⟩:=el;simp only at a A;cases o with
   |false=>
    have E:=aB (show i=q from a);clear a A;go_enter func62,ntmps62
    go_wp2_with(go_at_call 81;refine(aA u).mono ?_;rintro e w1 ⟨rfl,M,c⟩;have d:=aB c;have k:=c.rd.cell;have G:=c.rd.frozen;have v:=c.rd.lt;unfold aF at k;clear c)
    have z:IntKind.i64.wrap ((m.at_:Int)+1)=(m.at_:Int)+1:=by rw[IntKind.wrap_i64];omega
    go_region_with (go_at_call 82;refine(aA p _).mono ?_;rintro e w2 ⟨rfl,H⟩;obtain rfl:=H.symm)
    all_goals
     go_wp2_with(go_at_call 84;refine(aA I _ _ (aA d).drew.rd (aA F _ _ _ (aA d).drew)).mono ?_;rintro e w3 ⟨rfl,O,g⟩)
     refine bodyPost_ret (results_none rfl _ _ _) rfl ?_;rw[aA E];exact⟨rfl,O,(aA d).drew.call g⟩
   |true=>
    have a:i=qW (cL true q):=a;have P:=(A rfl).1;have t:=aB ((aA n).kp P);have Q:=aB (fun(W:World) (L' :aH) (Y:aI W b q L')=>Bg true Y (aA t).ok (aA t).ev (aA t).sl);have j:=qV true (aA t).ok.at_ (aA t).ok.t0;have J:=aB ((aA t).kp j.1);clear A P j;generalize cL true q=xx at *;obtain⟨x,o⟩:=xx;simp only at J;have a9:=(aA J).sl;have aa:=(aA J).ok.at_;cases o with
    |false=>
     have E:=aB (show i=x from a);clear a;go_enter func62,ntmps62
     go_wp2_with(first
      |(go_at_call 81;refine(aA u).mono ?_;rintro e w1 ⟨rfl,M,c⟩;have d:=aB c;have k:=c.rd.cell;have G:=c.rd.frozen;have v:=c.rd.lt;unfold aF at k;clear c))
     have z:IntKind.i64.wrap ((m.at_:Int)+1)=(m.at_:Int)+1:=by rw[IntKind.wrap_i64];omega
     go_region_with (go_at_call 82;refine(aA p _).mono ?_;rintro e w2 ⟨rfl,H⟩;obtain rfl:=H.symm)
     all_goals
      go_wp2_with(first
       |(go_at_call 84;refine(aA I _ _ (aA d).drew.rd (aA F _ _ _ (aA d).drew)).mono ?_;rintro e w3 ⟨rfl,O,g⟩;have B:=aB ((aA d).drew.call g);clear g)
       |(go_at_call 81;refine(aA Q _ _ (aA B).rd).mono ?_;rintro e w4 ⟨rfl,L4,l⟩))
      go_end0
      rw[aA E];exact⟨rfl,L4,(aA B).call l⟩
    |true=>
     have E:=aB (show i=Rf.fail {x with at_:=x.at_+1} 3 from a);clear a;go_enter func62,ntmps62
     go_wp2_with(first
      |(go_at_call 81;refine(aA u).mono ?_;rintro e w1 ⟨rfl,M,c⟩;have d:=aB c;have k:=c.rd.cell;have G:=c.rd.frozen;have v:=c.rd.lt;unfold aF at k;clear c))
     have z:IntKind.i64.wrap ((m.at_:Int)+1)=(m.at_:Int)+1:=by rw[IntKind.wrap_i64];omega
     go_region_with (go_at_call 82;refine(aA p _).mono ?_;rintro e w2 ⟨rfl,H⟩;obtain rfl:=H.symm)
     all_goals
      go_wp2_with(first
       |(go_at_call 84;refine(aA I _ _ (aA d).drew.rd (aA F _ _ _ (aA d).drew)).mono ?_;rintro e w3 ⟨rfl,O,g⟩;have B:=aB ((aA d).drew.call g);clear g)
       |(go_at_call 81;refine(aA Q _ _ (aA B).rd).mono ?_;rintro e w4 ⟨rfl,L4,l⟩;have S:=aB ((aA B).call l);have a0:=l.rd.cell;have ab:=l.rd.frozen;have a2:=l.rd.lt;unfold aF at a0;clear l)
       |(go_at_call 83;refine(bW ((aA S).store 5 _ {x with at_:=x.at_+1} (by simp[aF]) rfl rfl rfl).rd 3).mono ?_;rintro e w5 ⟨rfl,L5,a1⟩))
      go_end0
      rw[aA E];exact⟨rfl,L5,((aA S).store 5 _ {x with at_:=x.at_+1} (by simp[aF]) rfl rfl rfl).call a1⟩
end
def Vo(r:R):Prop:=(∀n∈r.opn,n.length≤100000000)∧r.opn.length≤r.at_
def Le(r x:R):Prop:=x.s=r.s∧x.at_≤r.s.length∧x.events.length+4*r.at_≤r.events.length+4*x.at_∧(Vo r→Vo x)
theorem Kp.vo(h:Kp r x)(v:Vo r):Vo x:=⟨by rw[h.op];exact v.1,by have:=v.2;have:=h.gz;rw[h.op];omega⟩
theorem Kp.toLe(h:Kp r x):Le r x:=⟨h.s,h.len,h.ev,h.vo⟩
theorem Kp.BK{y:R}(h:Kp r x)(k:Le x y):Le r y:=⟨k.1.trans h.s,by have:=k.2.1;rw[h.s]at this;exact this,by have:=k.2.2.1;have:=h.ev;omega,fun v=>k.2.2.2 (h.vo v)⟩
theorem Kv(f:Nat)(Q:∀(r:R) (run:Nat),r.at_≤r.s.length→1≤r.ot→r.s.length≤100000000→Le r (Rf.content f r run).1)(r:R)(h:r.at_<r.s.length)(u:1≤r.ot)(g:r.s.length≤100000000):Le r (Rf.element (f+1) r).1:=by
 by_cases c:(Rf.element (f+1) r).2=true
 .exact((jS (f+1)).1 r h u g c).1.toLe
 rw[nX]at c⊢;have B:Kp r {r with at_:=r.at_+1}:=.to (by omega) (by omega);unfold PF at c⊢;split
 .exact(B.fail 7).toLe
 rename_i E;rw[if_neg E]at c;generalize S:({r with at_:=r.at_+1}:R)=q at *;have i:=B.trans (jR (r:=q) B.le (by rw[B.ot];omega));cases K:(Rf.word q).2.2 with
 |false=>rw[if_neg (by decide)];exact i.toLe
 |true=>
  rw[K,if_pos rfl]at c;rw[if_pos rfl];have j:=i.trans (Be i.le (by rw[i.ot];exact u) (by rw[i.s];exact g)).1;generalize T:Rf.attributes (Rf.word q).1=x at *;cases L:x.2.2 with
  |false=>rw[if_neg (by decide)];exact j.toLe
  |true=>
   rw[L,if_pos rfl]at c;rw[if_pos rfl];have k:=nY (nm:=(Rf.word q).2.1) h u g S.symm (by rw[←K]) T L;generalize(Rf.word q).2.1=nm at *;obtain⟨a,b,o⟩:=x;simp only at k j c⊢;have X:a.at_<a.s.length:=by rw[k.kp.s];exact k.at_
   have d:Kp r {a with at_:=a.at_+1}:=k.kp.trans (.to (by omega) (by omega));unfold PE at c⊢;split
   .exact(j.fail 8).toLe
   rename_i F;rw[if_neg F]at c;split
   .rename_i l;rw[if_pos l]at c;have M:=fS (r:={a with at_:=a.at_+1}) d.le 62;split
    .rename_i G;exact absurd (by rw[if_pos G]) c
    exact(d.trans M.1).toLe
   rename_i l;rw[if_neg l]at c;have H:=k.ev;have Y:=k.n;have Z:({a with at_:=a.at_+1}:R).at_=a.at_+1:=rfl;have I:({a with at_:=a.at_+1}:R).events=r.events:=H;generalize M:({a with at_:=a.at_+1}:R)=m at *;have t:=l_ m nm b;have e:(aX m nm b).s=r.s:=by rw[t.1];exact d.s
   have p:(aX m nm b).at_=m.at_:=by rw[t.1]
   have w:(aX m nm b).ot=r.ot:=by rw[t.1];exact d.ot
   have C:=Q (aX m nm b) (aX m nm b).at_ (by rw[e,p];exact d.len) (by rw[w];exact u) (by rw[e];exact g);have y:=(jS f).2 (aX m nm b) (aX m nm b).at_ (by rw[e,p];exact d.len) (by rw[w];exact u) (by rw[e];exact g)
   have z:Le r (Rf.content f (aX m nm b) (aX m nm b).at_).1:=⟨C.1.trans e,by have:=C.2.1;rw[e]at this;exact this,by have N:=C.2.2.1;have h6:=t.2;rw[I]at h6;omega,fun v=>C.2.2.2 (by
    have v1:=d.vo v
    refine⟨?_,?_⟩
    .rw[t.1]
     intro n A
     rcases List.mem_append.1 (show n∈m.opn++[nm]from A)with A|A
     .exact v1.1 n A
     rw[List.mem_singleton.1 A];exact k.nl
    rw[p,t.1]
    show(m.opn++[nm]).length≤m.at_
    rw[List.length_append,d.op]
    have:=v.2
    simp only[List.length_cons,List.length_nil]
    omega)⟩
   unfold nW at c⊢;unfold PG at y;generalize Rf.content f (aX m nm b) (aX m nm b).at_=O at *;split
   .rename_i P;obtain⟨c1,c2⟩:=y P;have D:=wP (r:=O.1) (by rw[c1.s];exact c2) nm;have J:Le r (Rf.eZ O.1 nm).1:=⟨D.s.trans z.1,by have:=D.len;rw[z.1]at this;exact this,by have:=D.ev;have:=z.2.2.1;omega,fun v=>D.vo (z.2.2.2 v)⟩;rw[if_pos P]at c;split
    .rename_i N;exact absurd (by rw[if_pos N]) c
    exact J
   exact z
theorem Kw(f:Nat)(i:∀(r:R),r.at_<r.s.length→1≤r.ot→r.s.length≤100000000→Le r (Rf.element f r).1)(j:∀(r:R) (run:Nat),r.at_≤r.s.length→1≤r.ot→r.s.length≤100000000→Le r (Rf.content f r run).1)
 (r:R) (run:Nat) (h:r.at_≤r.s.length) (e:1≤r.ot) (a:r.s.length≤100000000):Le r (Rf.content (f+1) r run).1:=by
 have c:∀(q:R) (k:Nat),Kp r q→Le r (Rf.content f q k).1:=fun q k d=>
  d.BK (j q k d.le (by rw[d.ot];exact e) (by rw[d.s];exact a))
 rw[Rf.content];split
 .rename_i b;simp only;split
  .split
   .exact((Kp.refl h).stop 1).toLe
   rename_i m;split
   .exact(Kp.refl h).toLe
   split
   .split
    .rename_i l;exact c _ _ ((jS f).1 r b e a l).1
    exact i r b e a
   split
   .exact c _ _ (qT (r:=r) (by omega) (by omega) _).1
   exact(qT (r:=r) (by omega) (by omega) _).1.toLe
  split
  .split
   .rename_i g;exact c _ _ (tT b g).1
   exact(PD b).1.toLe
  split
  .exact((Kp.refl h).fail 3).toLe
  split
  .rename_i g;exact c _ _ (pN b g).1
  exact(gX b).1.toLe
 exact((Kp.refl h).stop 1).toLe
theorem tY:∀(f:Nat),(∀(r:R),r.at_<r.s.length→1≤r.ot→r.s.length≤100000000→Le r (Rf.element f r).1)∧(∀(r:R) (run:Nat),r.at_≤r.s.length→1≤r.ot→r.s.length≤100000000→Le r (Rf.content f r run).1)
 |0=>⟨fun r h _ _=>(by rw[Rf.element];exact(Kp.refl (Nat.le_of_lt h)).toLe),fun r run h _ _=>(by rw[Rf.content];exact(Kp.refl h).toLe)⟩
 |f+1=>⟨Kv f (tY f).2,Kw f (tY f).1 (tY f).2⟩
theorem wX(r:R)(h:r.at_≤r.s.length)(e:1≤r.ot)(d:r.s.length≤100000000):Le r (Rf.document r):=by
 rw[wW];have a:=qV false h (by omega);split
 .rename_i f;have g:=a.2 f;unfold pO;generalize(cL false r).1=m at *;have i:m.at_+1<m.s.length:=by rw[a.1.s];exact g
  split
  .split
   .rename_i j;have b:=a.1.trans ((jS _).1 m (by omega) (by rw[a.1.ot];exact e) (by rw[a.1.s];exact d) j).1;have c:=qV true b.le (by rw[b.ot];omega);unfold qW;split
    .rename_i k;have l:=c.2 k;rw[b.s]at l;have n:=(b.trans c.1).ev;exact⟨c.1.s.trans b.s,by show _+1≤_;omega,by show(cL true (Rf.element _ m).1).1.events.length+4*r.at_≤r.events.length+4* ((cL true (Rf.element _ m).1).1.at_+1);omega,fun v=>⟨((b.trans c.1).vo v).1,by have o:=((b.trans c.1).vo v).2;show(cL true (Rf.element _ m).1).1.opn.length≤(cL true (Rf.element _ m).1).1.at_+1;omega⟩⟩
    exact(b.trans c.1).toLe
   exact a.1.BK ((tY _).1 m (by omega) (by rw[a.1.ot];exact e) (by rw[a.1.s];exact d))
  have n:=a.1.ev;exact⟨a.1.s,by show m.at_+1≤_;omega,by show m.events.length+4*r.at_≤r.events.length+4* (m.at_+1);omega,fun v=>⟨(a.1.vo v).1,by have o:=(a.1.vo v).2;show m.opn.length≤m.at_+1;omega⟩⟩
 exact a.1.toLe
theorem Ky(y:UInt8): -1≤Rf.goes [y]∧Rf.goes [y]≤3:=by
 have h:=y.toNat_lt;unfold Rf.goes;split
 .rename_i e;cases e
 rename_i x l e;cases e;split
 .omega
 rename_i b c d a;unfold Rf.jy at a;have f:b≤4:=by
  split at a
  .cases a;omega
  split at a
  .cases a;omega
  split at a
  .cases a;omega
  split at a
  .cases a;omega
  cases a
 split
 .omega
 split
 .omega
 simp only[List.length_nil];split<;>omega
theorem getD_at{s:Bs}{a:Nat}{y:UInt8}(h:s[a]?=some y):s.getD a 0=y:=by rw[List.getD_eq_getElem?_getD,h];rfl
section
variable {s:Bs}{n g a:Nat}{line col:Int}{y z:UInt8}
theorem Kz(h:¬a<n):gV s n (g+1) a line col=(line,col):=by rw[gV,if_neg h]
theorem KA(h:a<n)(b:s[a]?=some y)(c:((y.toNat:Int)==13)=true)(d:a+1<n)(e:s[a+1]?=some z)(f:((z.toNat:Int)==10)=true):gV s n (g+1) a line col=gV s n g (a+2) (line+1) 1:=by
 rw[gV,if_pos h];simp only[getD_at b,getD_at e,c,f,d,decide_true,Bool.and_self,Bool.true_or,if_true]
theorem wY(h:a<n)(b:s[a]?=some y)(e0:((y.toNat:Int)==13||(y.toNat:Int)==10)=true)(c:((y.toNat:Int)==13&&decide (a+1<n)&&((s.getD (a+1) 0).toNat:Int)==10)=false):gV s n (g+1) a line col=gV s n g (a+1) (line+1) 1:=by
 rw[gV,if_pos h];simp only[getD_at b];rw[if_pos e0,if_neg (by rw[c];decide)]
theorem KB(h:a<n)(b:s[a]?=some y)(e0:((y.toNat:Int)==13||(y.toNat:Int)==10)=false)(c:(decide (Rf.goes [y]<0)||decide ((n:Int)≤(a:Int)+Rf.goes [y]))=true):gV s n (g+1) a line col=(line,col):=by
 rw[gV,if_pos h];simp only[getD_at b];rw[if_neg (by rw[e0];decide),if_pos c]
theorem KC(h:a<n)(b:s[a]?=some y)(e0:((y.toNat:Int)==13||(y.toNat:Int)==10)=false)(c:(decide (Rf.goes [y]<0)||decide ((n:Int)≤(a:Int)+Rf.goes [y]))=false):gV s n (g+1) a line col=gV s n g (a+1+(Rf.goes [y]).toNat) line (col+1):=by
 rw[gV,if_pos h];simp only[getD_at b];rw[if_neg (by rw[e0];decide),if_neg (by rw[c];decide)]
end
theorem vR(s:Bs)(n:Nat)(hn:n≤s.length)(hs:s.length≤1000000000000)(w:World):
 Calls Tryz.prog 63 #[.string ⟨s.toArray⟩,.int .i64 (n:Int)] w fun e w' =>e=.returned (.tuple #[.int .i64 (Rf.place s n).1,.int .i64 (Rf.place s n).2])∧w' =w:=by
 obtain⟨l,i⟩:∃l,l=Rf.place s n:=⟨_,rfl⟩;rw[←i];have c:=aB (show l=gV s n (n+1) 0 1 1 from i);have A:=aB vZ;clear i;go_enter func63,ntmps63
 go_wp2_with fail
 go_loopg [6,7,8] (n+1) (fun g H I J K=>K=w∧∃(line col:Int) (a:Nat),H=.int .i64 line∧I=.int .i64 col∧J=.int .i64 (a:Int)∧Hid (l=gV s n g a line col)∧n<a+g∧a≤n∧0≤line∧line≤1+a∧0≤col∧col≤1+a)
 case atStart=>exact⟨rfl,1,1,0,rfl,rfl,rfl,c,by omega,by omega,by omega,by omega,by omega,by omega⟩
 case round=>
  obtain⟨rfl,line,col,a,rfl,rfl,rfl,u,hg,L,M,N,O,P⟩:=hrel;obtain⟨g,B⟩:∃g,gk=g+1:=⟨gk - 1,by omega⟩;subst B;have hfin:=aA u;clear u c;by_cases o:a<n
  .have Q:decide ((a:Int)<(n:Int))=true:=by simp;omega
   have C:decide (a<n)=true:=by simpa using o
   have has:a<s.length:=by omega
   have G:(a:Int)<(s.length:Int):=by omega
   obtain⟨y,d⟩:∃y,s[a]?=some y:=⟨s[a],by simp[has]⟩;have R:∀h,(ByteArray.mk s.toArray)[a]'h=y:=fun h=>by
    rw[jQ s a has h];exact(List.getElem?_eq_some_iff.1 d).2
   cases b:((y.toNat:Int)==13)with
   |true=>
    by_cases D:a+1<n
    .have S:decide ((a:Int)+1<(n:Int))=true:=by simp;omega
     have r:decide (a+1<n)=true:=by simpa using D
     have p:a+1<s.length:=by omega
     have E:(a:Int)+1<(s.length:Int):=by omega
     obtain⟨z,v⟩:∃z,s[a+1]?=some z:=⟨s[a+1],by simp[p]⟩;have T:∀h,(ByteArray.mk s.toArray)[a+1]'h=z:=fun h=>by
      rw[jQ s (a+1) p h];exact(List.getElem?_eq_some_iff.1 v).2
     cases f:((z.toNat:Int)==10)with
     |true=>
      rw[KA o d b D v f]at hfin;have c:=aB hfin;clear hfin d v;go_wp2_with fail
      go_roundg g
      case measure=>omega
      case rel=>exact⟨rfl,line+1,1,a+2,by simp,rfl,by simp;omega,c,by omega,by omega,by omega,by omega,by omega,by omega⟩
     |false=>
      rw[wY o d (by rw[b];rfl) (by rw[b,r,getD_at v,f];rfl)]at hfin;have c:=aB hfin;clear hfin d v;go_wp2_with fail
      go_roundg g
      case measure=>omega
      case rel=>exact⟨rfl,line+1,1,a+1,by simp,rfl,by simp,c,by omega,by omega,by omega,by omega,by omega,by omega⟩
    .have S:decide ((a:Int)+1<(n:Int))=false:=by simp;omega
     have r:decide (a+1<n)=false:=by simpa using D
     rw[wY o d (by rw[b];rfl) (by rw[b,r];rfl)]at hfin;have c:=aB hfin;clear hfin d;go_wp2_with fail
     go_roundg g
     case measure=>omega
     case rel=>exact⟨rfl,line+1,1,a+1,by simp,rfl,by simp,c,by omega,by omega,by omega,by omega,by omega,by omega⟩
   |false=>
    cases f:((y.toNat:Int)==10)with
    |true=>
     rw[wY o d (by rw[b,f];rfl) (by rw[b];rfl)]at hfin;have c:=aB hfin;clear hfin d;go_wp2_with fail
     go_roundg g
     case measure=>omega
     case rel=>exact⟨rfl,line+1,1,a+1,by simp,rfl,by simp,c,by omega,by omega,by omega,by omega,by omega,by omega⟩
    |false=>
     have X:ByteArray.extract ⟨s.toArray⟩ a (a+1)=⟨[y].toArray⟩:=by
      rw[iS s a 1,drop_at d];rfl
     have t:=aB (aA A [y] (by simp));have Y:=Ky y;have j:=KB (g:=g) (line:=line) (col:=col) o d (by rw[b,f];rfl);have k:=KC (g:=g) (line:=line) (col:=col) o d (by rw[b,f];rfl);generalize Rf.goes [y]=q at *;clear d;cases e0:(decide (q<0)||decide ((n:Int)≤(a:Int)+q))with
     |true=>
      rw[j e0]at hfin;have c:=aB hfin;clear hfin j k;cases F:decide (q<0)with
      |true=>
       go_wp2_with(go_at_call 85;refine(aA t _).mono ?_;rintro e w' ⟨rfl,x⟩;obtain rfl:=x.symm)
       go_ret2;rw[aA c];exact⟨rfl,rfl⟩
      |false=>
       rw[F,Bool.false_or]at e0;go_wp2_with(go_at_call 85;refine(aA t _).mono ?_;rintro e w' ⟨rfl,x⟩;obtain rfl:=x.symm)
       go_ret2;rw[aA c];exact⟨rfl,rfl⟩
     |false=>
      rw[k e0]at hfin;have c:=aB hfin;clear hfin j k;obtain⟨F,Z⟩:decide (q<0)=false∧decide ((n:Int)≤(a:Int)+q)=false:=by simpa[Bool.or_eq_false_iff]using e0
      have a0:0≤q:=by simpa using F
      obtain⟨m,rfl⟩:∃m:Nat,q=m:=⟨q.toNat,by omega⟩;have a1:(a:Int)+m<n:=by simpa using Z
      simp only[Int.toNat_natCast]at c;clear e0;go_wp2_with(go_at_call 85;refine(aA t _).mono ?_;rintro e w' ⟨rfl,x⟩;obtain rfl:=x.symm)
      go_roundg g
      case measure=>omega
      case rel=>exact⟨rfl,line,col+1,a+1+m,rfl,by simp,by simp,c,by omega,by omega,by omega,by omega,by omega,by omega⟩
  have Q:decide ((a:Int)<(n:Int))=false:=by simp;omega
  have C:decide (a<n)=false:=by simpa using o
  rw[Kz o]at hfin;have c:=aB hfin;clear hfin;go_wp2_with fail
  go_ret2;rw[aA c];exact⟨rfl,rfl⟩
end Go.Proofs.YtmgfijllcdadgaaGreatDoor.V
