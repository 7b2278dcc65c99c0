import Derived.Test.YtmgfijllcdadgaaGreatDoorNW23
import Derived.Test.YtmgfijllcdadgaaGreatDoorNW25
import Derived.Test.YtmgfijllcdadgaaGreatDoorNW26
import Derived.Deep.RegionWith
set_option linter.unusedVariables false
set_option linter.unusedSimpArgs false
set_option maxHeartbeats 16000000
set_option maxRecDepth 100000
namespace Go.Proofs.YtmgfijllcdadgaaGreatDoor.V
open Go.RowKit
open Mk (Bs Ev aD)
open Rf (R)
open Go.Proofs.Tryz
open Rf (j_)
variable {r:R}{f k:Nat}
structure Fit(s:R):Prop where
 ok:bT s
 ot:1≤s.ot
 oa:0≤s.oa∧s.oa≤1000000
 od:s.od≤1000000
 kQ:(s.opn.length:Int)≤s.od
 tl:s.tags.length=s.opn.length
 sl:s.s.length≤100000000
 sh:∀t∈s.tags,Sh t
 ev:s.events.length≤4*s.at_+100
theorem Fit.kp{s:R}(h:Fit s)(k:Kp s r):Fit r:=
 ⟨k.ok h.ok,by rw[k.ot];exact h.ot,by rw[k.oa];exact h.oa,by rw[k.od];exact h.od,by rw[k.op,k.od];exact h.kQ,by rw[k.op,k.tg];exact h.tl,by rw[k.s];exact h.sl,by rw[k.tg];exact h.sh,by have:=k.ev;have:=h.ev;omega⟩
def EC(f:Nat):Prop:=∀(w:World) (b:Nat) (s:R) (L:aH),aI w b s L→Fit s→bG w→0<b→s.at_<s.s.length→s.s.length<s.at_+f+1→Calls Tryz.prog 84 #[.pointer (some ⟨b,0,none⟩)] w (iC w b s L (Rf.element f s))
def CC(f:Nat):Prop:=∀(w:World) (b:Nat) (s:R) (L:aH),aI w b s L→Fit s→bG w→0<b→s.s.length<s.at_+f→Calls Tryz.prog 113 #[.pointer (some ⟨b,0,none⟩)] w (iC w b s L (Rf.content f s s.at_))
def kr(f:Nat)(s:R)(c:Int):R×Bool:=if Rf.eC c then Rf.element f s else j_ s c
section
variable {w w' :World}{b:Nat}{s:R}{L:aH}
theorem Ka(f:Nat)(F:EC f)(h:aI w b s L)(i:Fit s)(G:bG w)(a2:0<b)(h2:s.at_+2≤s.s.length)(a3:s.s.length<s.at_+f+1)(c:Int)(a6:0≤c)(a7:c≤255):
 Calls Tryz.prog 165 #[.pointer (some ⟨b,0,none⟩),.int .u8 c] w (iC w b s L (kr f s c)):=by
 have H:=aB h;have a4:=h.cell;have hf:=h.frozen;have a8:=h.lt;have a9:=i.sl;have aa:=i.ok.len;unfold aF at a4;have l:=aB (fun w=>pz c w);obtain⟨x,a⟩:∃x,x=kr f s c:=⟨_,rfl⟩;rw[←a];unfold kr at a;cases hl:Rf.eC c with
 |true=>
  rw[hl,if_pos rfl]at a;rw[hl]at l;have I:=aB (F w b s L h i G a2 (by omega) a3);rw[←a]at I;clear h i a G F;go_enter func165,ntmps165
  go_wp2_with(first
   |(go_at_call 82;refine(aA l _).mono ?_;rintro e w' ⟨rfl,u⟩;obtain rfl:=u.symm)
   |(go_at_call 84;refine(aA I).mono ?_;rintro e w1 ⟨rfl,J,z⟩))
  go_ret;exact⟨rfl,J,z⟩
 |false=>
  rw[hl,if_neg (by decide)]at a;rw[hl]at l;unfold j_ at a;have j:Fit {s with at_:=s.at_+2}:=i.kp (.to (by omega) h2);cases K:(c==63)with
  |true=>
   rw[K,if_pos rfl]at a;have HI:=aB (fun(W:World) (L' :aH) (B:aI W b {s with at_:=s.at_+2} L')=>Qn B j.ok j.ev j.sl);rw[←a]at HI;clear h i a G F j;go_enter func165,ntmps165
   go_wp2_with(first
    |(go_at_call 82;refine(aA l _).mono ?_;rintro e w' ⟨rfl,u⟩;obtain rfl:=u.symm)
    |(go_at_call 106;refine(aA HI _ _ (((aA H).start.drewN 0).store 5 _ {s with at_:=s.at_+2} (by simp[aF]) rfl rfl rfl).rd).mono ?_;rintro e w1 ⟨rfl,J,z⟩))
   go_ret;exact⟨rfl,J,(((aA H).start.drewN 0).store 5 _ {s with at_:=s.at_+2} (by simp[aF]) rfl rfl rfl).call z⟩
  |false=>
   rw[K,if_neg (by decide)]at a;cases M:(c==33)with
   |false=>
    have D:(c !=33)=true:=by unfold bne;rw[M];rfl
    rw[D,if_pos rfl]at a;have N:=aB a;clear h i a G F j;go_enter func165,ntmps165
    go_wp2_with(first
     |(go_at_call 82;refine(aA l _).mono ?_;rintro e w' ⟨rfl,u⟩;obtain rfl:=u.symm)
     |(go_at_call 83;refine(bW (((aA H).start.drewN 0).store 5 _ {s with at_:=s.at_+1} (by simp[aF]) rfl rfl rfl).rd 3).mono ?_;rintro e w1 ⟨rfl,J,z⟩))
    go_ret;have O:=aA N;subst O;exact⟨rfl,J,(((aA H).start.drewN 0).store 5 _ {s with at_:=s.at_+1} (by simp[aF]) rfl rfl rfl).call z⟩
   |true=>
    have D:(c !=33)=false:=by unfold bne;rw[M];rfl
    rw[D,if_neg (by decide)]at a;simp only at a;have m:Hid (∀n,aL w b (aR s L) ((w.drewN n).setCell ⟨b,5,none⟩ (.int .i64 ((s.at_:Int)+2))) {s with at_:=s.at_+2} L):=fun n=>((aA H).start.drewN n).store 5 _ {s with at_:=s.at_+2} (by simp[aF]) rfl rfl rfl
    have p:=aB (fun(W:World) (L' :aH) (B:aI W b {s with at_:=s.at_+2} L')=>gy B j.ok);obtain⟨q,hq⟩:∃q:R,q={s with at_:=s.at_+2}:=⟨_,rfl⟩;rw[←hq]at p m j;have d:x=(if q.at_<q.s.length then(if q.byte q.at_ !=91 then(if(Rf.must q 45).2 then Rf.comment (Rf.must q 45).1 else((Rf.must q 45).1,false))else Rf.lC q)else({q with stop:=1},false)):=by rw[hq];exact a
    have k:=aB j;have ab:=j.ok.len;have ad:=j.ok.at_;clear a hq h i G F j;by_cases P:q.at_<q.s.length
    .rw[if_pos P]at d;have A:Rf.ends q=(q,false):=by unfold Rf.ends;rw[if_pos P]
     have t:=p;rw[A]at t;clear p A;obtain⟨y,hb,ae,hy⟩:=bH q q.at_ P;have af:(q.at_:Int)<(q.s.length:Int):=by omega
     rw[hb]at d;clear hb hy;cases Q:((y.toNat:Int)==91)with
     |false=>
      have E:((y.toNat:Int) !=91)=true:=by unfold bne;rw[Q];rfl
      rw[E,if_pos rfl]at d;have S:=aB (fun(W:World) (L' :aH) (B:aI W b q L')=>Py B (aA k).ok 45 (by omega) (by omega));have T:=(fS (aA k).ok.at_ 45).1;have C:=aB ((aA k).kp T);generalize Rf.must q 45=mu at *;obtain⟨q3,o⟩:=mu;simp only at C;clear T;cases o with
      |false=>
       have N:=aB (show x=(q3,false)from d);clear d;go_enter func165,ntmps165
       go_wp2_with(first
        |(go_at_call 82;refine(aA l _).mono ?_;rintro e w' ⟨rfl,u⟩;obtain rfl:=u.symm)
        |(go_at_call 105;refine(aA t _ _ (aA m 0).rd).mono ?_;rintro e w2 ⟨rfl,L3,g⟩;have r:=aB ((aA m 0).call g).drew;have hc3:=g.rd.cell;have X:=g.rd.frozen;unfold aF at hc3;clear g))
       go_region
       go_wp2_with(go_at_call 107;refine(aA S _ _ (aA r).rd).mono ?_;rintro e w4 ⟨rfl,L4,v⟩)
       go_ret;have O:=aA N;subst O;exact⟨rfl,L4,(aA r).call v⟩
      |true=>
       have Y:=aB (fun(W:World) (L' :aH) (B:aI W b q3 L')=>AB B (aA C).ok (aA C).ev (aA C).sl);have Z:x=Rf.comment q3:=d;rw[←Z]at Y;clear d Z;go_enter func165,ntmps165
       go_wp2_with(first
        |(go_at_call 82;refine(aA l _).mono ?_;rintro e w' ⟨rfl,u⟩;obtain rfl:=u.symm)
        |(go_at_call 105;refine(aA t _ _ (aA m 0).rd).mono ?_;rintro e w2 ⟨rfl,L3,g⟩;have r:=aB ((aA m 0).call g).drew;have hc3:=g.rd.cell;have X:=g.rd.frozen;unfold aF at hc3;clear g))
       go_region
       go_wp2_with(first
        |(go_at_call 107;refine(aA S _ _ (aA r).rd).mono ?_;rintro e w4 ⟨rfl,L4,v⟩;have a0:=aB ((aA r).call v);clear v)
        |(go_at_call 108;refine(aA Y _ _ (aA a0).rd).mono ?_;rintro e w5 ⟨rfl,L5,a5⟩))
       go_ret;exact⟨rfl,L5,(aA a0).call a5⟩
     |true=>
      have E:((y.toNat:Int) !=91)=false:=by unfold bne;rw[Q];rfl
      rw[E,if_neg (by decide)]at d;have a1:=aB (fun(W:World) (L' :aH) (B:aI W b q L')=>Rv B (aA k).ok (aA k).ev (aA k).sl);rw[←d]at a1;clear d;go_enter func165,ntmps165
      go_wp2_with(first
       |(go_at_call 82;refine(aA l _).mono ?_;rintro e w' ⟨rfl,u⟩;obtain rfl:=u.symm)
       |(go_at_call 105;refine(aA t _ _ (aA m 0).rd).mono ?_;rintro e w2 ⟨rfl,L3,g⟩;have r:=aB ((aA m 0).call g).drew;have hc3:=g.rd.cell;have X:=g.rd.frozen;unfold aF at hc3;clear g))
      go_region
      go_wp2_with(go_at_call 208;refine(aA a1 _ _ (aA r).rd).mono ?_;rintro e w4 ⟨rfl,L4,v⟩)
      go_ret;exact⟨rfl,L4,(aA r).call v⟩
    rw[if_neg P]at d;have N:=aB d;have A:Rf.ends q=({q with stop:=1},true):=by unfold Rf.ends;rw[if_neg P]
    have t:=p;rw[A]at t;clear p A d;go_enter func165,ntmps165
    go_wp2_with(first
     |(go_at_call 82;refine(aA l _).mono ?_;rintro e w' ⟨rfl,u⟩;obtain rfl:=u.symm)
     |(go_at_call 105;refine(aA t _ _ (aA m 0).rd).mono ?_;rintro e w2 ⟨rfl,L3,g⟩))
    go_ret;have O:=aA N;subst O;exact⟨rfl,L3,(aA m 0).call g⟩
end
theorem Kb(h:¬r.at_<r.s.length):Rf.content (f+1) r k=({r with stop:=1},false):=by
 rw[Rf.content,if_neg h]
theorem Kc(h:r.at_<r.s.length)(a:(r.byte r.at_==60)=true)(b:r.at_+1=r.s.length):Rf.content (f+1) r k=({r with stop:=1},false):=by
 rw[Rf.content,if_pos h];simp only;rw[if_pos a,if_pos b]
theorem Ke(h:r.at_<r.s.length)(a:(r.byte r.at_==60)=true)(b:¬r.at_+1=r.s.length)(c:(r.byte (r.at_+1)==47)=true):Rf.content (f+1) r k=(r,true):=by
 rw[Rf.content,if_pos h];simp only;rw[if_pos a,if_neg b,if_pos c]
theorem Kg(h:r.at_<r.s.length)(a:(r.byte r.at_==60)=true)(b:¬r.at_+1=r.s.length)(c:(r.byte (r.at_+1)==47)=false):Rf.content (f+1) r k=if(kr f r (r.byte (r.at_+1))).2 then Rf.content f (kr f r (r.byte (r.at_+1))).1 (kr f r (r.byte (r.at_+1))).1.at_ else((kr f r (r.byte (r.at_+1))).1,false):=by
 rw[Rf.content,if_pos h];simp only;rw[if_pos a,if_neg b,if_neg (by rw[c];decide)];rfl
theorem Kh(h:r.at_<r.s.length)(b:(r.byte r.at_==60)=false)(a:(r.byte r.at_==38)=true):Rf.content (f+1) r k=if(Rf.reference r).2.2 then Rf.content f (Rf.text (Rf.reference r).1 (Rf.reference r).2.1) (Rf.reference r).1.at_ else((Rf.reference r).1,false):=by
 rw[Rf.content,if_pos h];simp only;rw[if_neg (by rw[b];decide),if_pos a]
theorem Ki(h:r.at_<r.s.length)(b:(r.byte r.at_==60)=false)(a:(r.byte r.at_==38)=false)(c:(r.byte r.at_==62&&decide (k+2≤r.at_)&&r.byte (r.at_ - 2)==93&&r.byte (r.at_ - 1)==93)=true):Rf.content (f+1) r k=(Rf.fail r 3,false):=by
 rw[Rf.content,if_pos h];simp only;rw[if_neg (by rw[b];decide),if_neg (by rw[a];decide),if_pos c]
theorem Kj(h:r.at_<r.s.length)(b:(r.byte r.at_==60)=false)(a:(r.byte r.at_==38)=false)(c:(r.byte r.at_==62&&decide (k+2≤r.at_)&&r.byte (r.at_ - 2)==93&&r.byte (r.at_ - 1)==93)=false):Rf.content (f+1) r k=if(Rf.character r).2.2 then Rf.content f (Rf.text (Rf.character r).1 (Rf.character r).2.1) k else((Rf.character r).1,false):=by
 rw[Rf.content,if_pos h];simp only;rw[if_neg (by rw[b];decide),if_neg (by rw[a];decide),if_neg (by rw[c];decide)]
theorem Kk{c:Int}(a:Fit r)(h:r.at_+2≤r.s.length)(e:(kr f r c).2=true):Kp r (kr f r c).1∧r.at_<(kr f r c).1.at_:=by
 unfold kr at e⊢;split at e
 .rename_i b;rw[if_pos b];exact(jS f).1 r (by omega) a.ot a.sl e
 rename_i b;rw[if_neg b];have:=qT h (by have:=a.ot;omega) c;exact⟨this.1,this.2 e⟩
theorem BA{s:Bs}{a:Nat}(h:2≤a)(e:a≤s.length){y z:UInt8}(c:s[a - 2]?=some y)(d:s[a - 1]?=some z):ByteArray.extract ⟨s.toArray⟩ (a - 2) a=⟨#[y,z]⟩:=by
 have b:=iS s (a - 2) 2;rw[show a - 2+2=a by omega]at b;rw[b,drop_at c,show a - 2+1=a - 1 by omega,drop_at d];rfl
section
variable {w w' :World}{b:Nat}{s:R}{L:aH}
theorem Kl(f:Nat)(hE:∀f' <f,EC f'):CC f:=by
 intro w b s L h a9 hG aj aq;have HM:=aB h;have b4:=aB a9;have aa:=aB (fun(W:World) (r:R) (L' :aH) (hm:aL w b (aR s L) W r L')=>hG.mv h hm aj);have a3:=Kp.refl a9.ok.at_;have b5:=aB hE;obtain⟨G,ab⟩:∃G,G=Rf.content f s s.at_:=⟨_,rfl⟩;rw[←ab];have N:=aB ab;have ar:=h.cell;have hf:=h.frozen;have b6:=h.lt;unfold aF at ar;clear h a9 ab hG hE;go_enter func113,ntmps113
 go_wp2_with fail
 go_loopg [3] f (fun g s3 wx=>∃(r:R) (L1:aH) (k:Nat),s3=.int .i64 k∧g≤f∧Hid (G=Rf.content g r k)∧s.s.length<r.at_+g∧k≤r.at_∧Hid (Kp s r)∧Hid (aL w b (aR s L) wx r L1))
 case atStart=>exact⟨s,L,s.at_,rfl,Nat.le_refl _,N,aq,Nat.le_refl _,aB a3,aB (aA HM).start⟩
 case round=>
  obtain⟨r,L1,k,rfl,D,au,hg,Q,Y,B⟩:=hrel;have ad:=(aA b4).kp (aA Y);have ae:=ad.ok;have h1:=ae.len;have h2:=ae.at_;have b7:=ad.sl;have E:r.s.length=s.s.length:=by rw[(aA Y).s]
  obtain⟨g,b8⟩:∃g,gk=g+1:=⟨gk - 1,by omega⟩;subst b8;have C:=aB (gy (aA B).rd ae);have l:r.events.length≤1000000000:=by
   have:=ad.ev;omega
  have ah:=aB ad;have av:=aB ae;have j:r.s.length<r.at_+g+1:=by omega
  have hfin:=aA au;have aw:=aA aa _ _ _ (aA B);have bl:=aB aw;have I:=aB (And.intro l (And.intro j (And.intro E D)));clear ad ae aw au ar hf b6 a3 N aq;by_cases h3:r.at_<r.s.length
  .rw[show Rf.ends r=(r,false) by simp[Rf.ends,h3]]at C;obtain⟨y,O,bm,hy⟩:=bH r r.at_ h3;have bn:(r.at_:Int)<(r.s.length:Int):=by omega
   cases ax:((y.toNat:Int)==60)with
   |true=>
    have p:(r.byte r.at_==60)=true:=by rw[O];exact ax
    by_cases h4:r.at_+1=r.s.length
    .rw[Kc h3 p h4]at hfin;have N:=aB hfin;have e4:((r.at_:Int)+1==(r.s.length:Int))=true:=by simp;omega
     have HQ:=aB h4;clear hfin O hy h4 p j hg E l D Q;go_wp2_with(go_at_call 105;refine(aA C).mono ?_;rintro e w2 ⟨rfl,X,a⟩;have d:=aB ((aA B).call a);have hc3:=a.rd.cell;have H:=a.rd.frozen;have u:=a.rd.lt;unfold aF at hc3;clear a)
     go_region
     go_wp2_with fail
     go_region
     go_wp2
     go_ret;have S:=aA N;subst S;exact⟨rfl,X,((aA d).drew.drew).store 6 _ {r with stop:=1} (by simp[aF]) rfl rfl rfl⟩
    .have h5:r.at_+1<r.s.length:=by omega
     have e4:((r.at_:Int)+1==(r.s.length:Int))=false:=by simp;omega
     obtain⟨y2,a4,bj,ak⟩:=bH r (r.at_+1) h5;have bo:(r.at_:Int)+1<(r.s.length:Int):=by omega
     cases ay:((y2.toNat:Int)==47)with
     |true=>
      rw[Ke h3 p h4 (by rw[a4];exact ay)]at hfin;have N:=aB hfin;clear hfin O hy h4 p a4 ak j hg E l D Q;go_wp2_with(go_at_call 105;refine(aA C).mono ?_;rintro e w2 ⟨rfl,X,a⟩;have d:=aB ((aA B).call a);have hc3:=a.rd.cell;have H:=a.rd.frozen;have u:=a.rd.lt;unfold aF at hc3;clear a)
      go_region
      go_wp2_with fail
      go_region
      go_wp2_with fail
      go_region
      go_wp2
      go_ret;have S:=aA N;subst S;exact⟨rfl,X,(aA d).drew.drew.drew⟩
     |false=>
      rw[Kg h3 p h4 (by rw[a4];exact ay),a4]at hfin;have ag:=lZ y2;have az:=aB (fun(W:World) (L' :aH) (Z:aI W b r L') (al:bG W)=>Ka g (aA b5 g (by omega)) Z (aA ah) al aj (by omega) (by omega) (y2.toNat:Int) ag.1 ag.2);have am:=Kk (f:=g) (c:=(y2.toNat:Int)) (aA ah) (by omega:r.at_+2≤r.s.length);generalize kr g r (y2.toNat:Int)=x at *;obtain⟨q,o⟩:=x;cases o with
      |false=>
       have N:=aB (show G=(q,false)from hfin);clear hfin O hy h4 p a4 ak j hg E l D Q am ag;go_wp2_with(go_at_call 105;refine(aA C).mono ?_;rintro e w2 ⟨rfl,X,a⟩;have d:=aB ((aA B).call a);have hc3:=a.rd.cell;have H:=a.rd.frozen;have u:=a.rd.lt;unfold aF at hc3;clear a)
       go_region
       go_wp2_with fail
       go_region
       go_wp2_with fail
       go_region
       go_wp2_with fail
       have b0:IntKind.i64.wrap ((r.at_:Int)+1)=(r.at_:Int)+1:=by rw[IntKind.wrap_i64];omega
       go_region_with (go_at_call 165;refine(aA az _ _ (aA d).drew.drew.drew.drew.rd (aA aa _ _ _ (aA d).drew.drew.drew.drew)).mono ?_;rintro e w4 ⟨rfl,P,i⟩;have z:=aB ((aA d).drew.drew.drew.drew.call i);have af:=i.rd.cell;have b1:=i.rd.frozen;have ai:=i.rd.lt;unfold aF at af;clear i)
       all_goals
        go_wp2
        go_ret;have S:=aA N;subst S;exact⟨rfl,P,aA z⟩
      |true=>
       have m:=am rfl;have HZ:=aB (And.intro (show G=Rf.content g q q.at_ from hfin) (And.intro ((aA Y).trans m.1) m.2));clear hfin O hy h4 p a4 ak j hg E l D Q am ag m;go_wp2_with(go_at_call 105;refine(aA C).mono ?_;rintro e w2 ⟨rfl,X,a⟩;have d:=aB ((aA B).call a);have hc3:=a.rd.cell;have H:=a.rd.frozen;have u:=a.rd.lt;unfold aF at hc3;clear a)
       go_region
       go_wp2_with fail
       go_region
       go_wp2_with fail
       go_region
       go_wp2_with fail
       have b0:IntKind.i64.wrap ((r.at_:Int)+1)=(r.at_:Int)+1:=by rw[IntKind.wrap_i64];omega
       go_region_with (go_at_call 165;refine(aA az _ _ (aA d).drew.drew.drew.drew.rd (aA aa _ _ _ (aA d).drew.drew.drew.drew)).mono ?_;rintro e w4 ⟨rfl,P,i⟩;have z:=aB ((aA d).drew.drew.drew.drew.call i);have af:=i.rd.cell;have b1:=i.rd.frozen;have ai:=i.rd.lt;unfold aF at af;clear i)
       all_goals
        go_wp2_with fail
        obtain⟨z1,z2,z3⟩:=aA HZ;obtain⟨z4,z5,z6,z7⟩:=aA I;go_roundg g
        case measure=>omega
        case rel=>exact⟨q,P,q.at_,rfl,by omega,aB z1,by omega,Nat.le_refl _,aB z2,z⟩
   |false=>
    have p:(r.byte r.at_==60)=false:=by rw[O];exact ax
    cases b2:((y.toNat:Int)==38)with
    |true=>
     rw[Kh h3 p (by rw[O];exact b2)]at hfin;have HC:=aB (fun(W:World) (L' :aH) (Z:aI W b r L') (al:bG W)=>wA Z (aA av) h3 b7 al aj);have a3:=tT (r:=r) h3;have an:=(PD h3).2;generalize Rf.reference r=x at *;obtain⟨q,t,o⟩:=x;cases o with
     |false=>
      have N:=aB (show G=(q,false)from hfin);clear hfin O hy p j hg E l D Q a3 an;go_wp2_with(go_at_call 105;refine(aA C).mono ?_;rintro e w2 ⟨rfl,X,a⟩;have d:=aB ((aA B).call a);have hc3:=a.rd.cell;have H:=a.rd.frozen;have u:=a.rd.lt;unfold aF at hc3;clear a)
      go_region
      go_wp2_with(go_at_call 166;refine(aA HC _ _ (aA d).drew.rd (aA aa _ _ _ (aA d).drew)).mono ?_;rintro e w4 ⟨rfl,P,i⟩;have z:=aB ((aA d).drew.call i);have af:=i.rd.cell;have b1:=i.rd.frozen;have ai:=i.rd.lt;unfold aF at af;clear i)
      go_ret;have S:=aA N;subst S;exact⟨rfl,P,(aA z)⟩
     |true=>
      have m:=a3 rfl;have v:q.events.length≤1000000000:=by
       obtain⟨kk,_,_,A,_⟩:=an rfl;have A:q=_:=A;rw[A];exact l
      have HT:=aB (fun(W:World) (L' :aH) (Z:aI W b q L')=>mZ Z t v);have HZ:=aB (And.intro (show G=Rf.content g (Rf.text q t) q.at_ from hfin) (And.intro ((aA Y).trans m.1) m.2));clear hfin O hy p j hg E l D Q a3 an m v;go_wp2_with(go_at_call 105;refine(aA C).mono ?_;rintro e w2 ⟨rfl,X,a⟩;have d:=aB ((aA B).call a);have hc3:=a.rd.cell;have H:=a.rd.frozen;have u:=a.rd.lt;unfold aF at hc3;clear a)
      go_region
      go_wp2_with(first
       |(go_at_call 166;refine(aA HC _ _ (aA d).drew.rd (aA aa _ _ _ (aA d).drew)).mono ?_;rintro e w4 ⟨rfl,P,i⟩;have z:=aB ((aA d).drew.call i);clear i)
       |(go_at_call 167;refine(aA HT _ _ (aA z).rd).mono ?_;rintro e w5 ⟨rfl,L5,F⟩;have T:=aB ((aA z).call F);have b9:=F.rd.cell;have bp:=F.rd.frozen;have bk:=F.rd.lt;unfold aF Rf.text Rf.tell at b9;clear F))
      obtain⟨z1,z2,z3⟩:=aA HZ;obtain⟨z4,z5,z6,z7⟩:=aA I;have z8:q.at_≤(Rf.text q t).at_:=Nat.le_refl _;go_roundg g
      case measure=>omega
      case rel=>exact⟨Rf.text q t,L5,q.at_,rfl,by omega,aB z1,by omega,z8,aB z2,T⟩
    |false=>
     have M:(r.byte r.at_==38)=false:=by rw[O];exact b2
     have a0:=aB (fun(W:World) (L' :aH) (Z:aI W b r L')=>nR Z (aA av) h3);have J:=pN (r:=r) h3;have K:=(gX h3).2;cases n:(r.byte r.at_==62&&decide (k+2≤r.at_)&&r.byte (r.at_ - 2)==93&&r.byte (r.at_ - 1)==93)with
     |true=>
      rw[Ki h3 p M n]at hfin;have N:=aB hfin;simp only[Bool.and_eq_true,decide_eq_true_eq]at n;obtain⟨⟨⟨x1,x2⟩,x3⟩,x4⟩:=n;rw[O]at x1;have ao:2≤r.at_:=by omega
      obtain⟨y3,a5,a1,a6⟩:=bH r (r.at_ - 2) (by omega);obtain⟨y4,a7,a2,a8⟩:=bH r (r.at_ - 1) (by omega);rw[a5]at x3;rw[a7]at x4;have ba:y3=93:=UInt8.toNat_inj.1 (by have:=beq_iff_eq.1 x3;show y3.toNat=93;omega);have bb:y4=93:=UInt8.toNat_inj.1 (by have:=beq_iff_eq.1 x4;show y4.toNat=93;omega);subst ba bb;have bc:=BA ao h2 a6 a8;have d1:decide ((r.at_:Int) - k≥2)=true:=by simp;omega
      have d2:decide ((2:Int)≤(r.at_:Int) - k)=true:=by simp;omega
      have n1:(2:Int)≤(r.at_:Int):=by omega
      have n2:((r.at_:Int) - 2).toNat=r.at_ - 2:=by omega
      have n3:(0:Int)≤(r.at_:Int) - 2:=by omega
      have n4:(r.at_:Int) - 2≤(r.at_:Int):=by omega
      have n5:(r.at_:Int)≤(r.s.length:Int):=by omega
      have be:=aB (fun(W:World) (L' :aH) (Z:aI W b r L')=>bW Z 3);clear hfin O hy p M j hg E l D J K a5 a7 a6 a8 x3 x4 a1 a2;go_wp2_with(go_at_call 105;refine(aA C).mono ?_;rintro e w2 ⟨rfl,X,a⟩;have d:=aB ((aA B).call a);have hc3:=a.rd.cell;have H:=a.rd.frozen;have u:=a.rd.lt;unfold aF at hc3;clear a)
      go_region
      go_wp2_with fail
      go_quiet(fail)
      go_wp2_with(go_at_call 83;refine(aA be _ _ ((aA d).drewN _).rd).mono ?_;rintro e w4 ⟨rfl,P,i⟩)
      go_ret;have S:=aA N;subst S;exact⟨rfl,P,((aA d).drewN _).call i⟩
     |false=>
      rw[Kj h3 p M n]at hfin;have bq:(k:Int)≤(r.at_:Int):=by omega
      cases bf:((y.toNat:Int)==62)with
      |false=>
       generalize Rf.character r=x at *;obtain⟨q,t,o⟩:=x;cases o with
       |false=>
        have N:=aB (show G=(q,false)from hfin);clear hfin O hy p M j hg E l D Q J K n;go_wp2_with(go_at_call 105;refine(aA C).mono ?_;rintro e w2 ⟨rfl,X,a⟩;have d:=aB ((aA B).call a);have hc3:=a.rd.cell;have H:=a.rd.frozen;have u:=a.rd.lt;unfold aF at hc3;clear a)
        go_region
        go_wp2_with fail
        go_quiet(fail)
        go_wp2_with(go_at_call 155;refine(aA a0 _ _ ((aA d).drewN _).rd).mono ?_;rintro e w4 ⟨rfl,P,i⟩)
        go_ret;have S:=aA N;subst S;exact⟨rfl,P,((aA d).drewN _).call i⟩
       |true=>
        have m:=J rfl;have v:q.events.length≤1000000000:=by
         obtain⟨kk,_,A,_⟩:=K rfl;have A:q=_:=A;rw[A];exact l
        have HT:=aB (fun(W:World) (L' :aH) (Z:aI W b q L')=>mZ Z t v);have HZ:=aB (And.intro (show G=Rf.content g (Rf.text q t) k from hfin) (And.intro ((aA Y).trans m.1) (And.intro m.2 Q)));clear hfin O hy p M j hg E l D Q J K n m v;go_wp2_with(go_at_call 105;refine(aA C).mono ?_;rintro e w2 ⟨rfl,X,a⟩;have d:=aB ((aA B).call a);have hc3:=a.rd.cell;have H:=a.rd.frozen;have u:=a.rd.lt;unfold aF at hc3;clear a)
        go_region
        go_wp2_with fail
        go_quiet(fail)
        go_wp2_with(first
         |(go_at_call 155;refine(aA a0 _ _ ((aA d).drewN _).rd).mono ?_;rintro e w4 ⟨rfl,P,i⟩;have z:=aB (((aA d).drewN _).call i);clear i)
         |(go_at_call 167;refine(aA HT _ _ (aA z).rd).mono ?_;rintro e w5 ⟨rfl,L5,F⟩;have T:=aB ((aA z).call F);clear F))
        obtain⟨z1,z2,z3,z9⟩:=aA HZ;obtain⟨z4,z5,z6,z7⟩:=aA I;go_roundg g
        case measure=>omega
        case rel=>exact⟨Rf.text q t,L5,k,rfl,by omega,aB z1,by omega,by omega,aB z2,T⟩
      |true=>
       by_cases bg:k+2≤r.at_
       .have ao:2≤r.at_:=by omega
        obtain⟨y3,a5,a1,a6⟩:=bH r (r.at_ - 2) (by omega);obtain⟨y4,a7,a2,a8⟩:=bH r (r.at_ - 1) (by omega);have bc:=BA ao h2 a6 a8;have d1:decide ((r.at_:Int) - k≥2)=true:=by simp;omega
        have d2:decide ((2:Int)≤(r.at_:Int) - k)=true:=by simp;omega
        have n1:(2:Int)≤(r.at_:Int):=by omega
        have n2:((r.at_:Int) - 2).toNat=r.at_ - 2:=by omega
        have n3:(0:Int)≤(r.at_:Int) - 2:=by omega
        have n4:(r.at_:Int) - 2≤(r.at_:Int):=by omega
        have n5:(r.at_:Int)≤(r.s.length:Int):=by omega
        have ap:¬(y3=93∧y4=93):=by
         rintro⟨rfl,rfl⟩;rw[O,bf,a5,a7]at n;simp only[bg,decide_true,Bool.and_self,Bool.true_and,Bool.and_eq_false_iff]at n;rcases n with h|h<;>exact absurd h (by decide)
        by_cases b3:y3=93
        .subst b3;have bh:¬y4=93:=fun h=>ap ⟨rfl,h⟩
         have bi:(y4==93)=false:=by simpa using bh
         clear a5 a7 a6 a8 a1 a2 ap;generalize Rf.character r=x at *;obtain⟨q,t,o⟩:=x;cases o with
         |false=>
          have N:=aB (show G=(q,false)from hfin);clear hfin O hy p M j hg E l D Q J K n;go_wp2_with(go_at_call 105;refine(aA C).mono ?_;rintro e w2 ⟨rfl,X,a⟩;have d:=aB ((aA B).call a);have hc3:=a.rd.cell;have H:=a.rd.frozen;have u:=a.rd.lt;unfold aF at hc3;clear a)
          go_region
          go_wp2_with fail
          go_quiet(fail)
          go_wp2_with(go_at_call 155;refine(aA a0 _ _ ((aA d).drewN _).rd).mono ?_;rintro e w4 ⟨rfl,P,i⟩)
          go_ret;have S:=aA N;subst S;exact⟨rfl,P,((aA d).drewN _).call i⟩
         |true=>
          have m:=J rfl;have v:q.events.length≤1000000000:=by
           obtain⟨kk,_,A,_⟩:=K rfl;have A:q=_:=A;rw[A];exact l
          have HT:=aB (fun(W:World) (L' :aH) (Z:aI W b q L')=>mZ Z t v);have HZ:=aB (And.intro (show G=Rf.content g (Rf.text q t) k from hfin) (And.intro ((aA Y).trans m.1) (And.intro m.2 Q)));clear hfin O hy p M j hg E l D Q J K n m v;go_wp2_with(go_at_call 105;refine(aA C).mono ?_;rintro e w2 ⟨rfl,X,a⟩;have d:=aB ((aA B).call a);have hc3:=a.rd.cell;have H:=a.rd.frozen;have u:=a.rd.lt;unfold aF at hc3;clear a)
          go_region
          go_wp2_with fail
          go_quiet(fail)
          go_wp2_with(first
           |(go_at_call 155;refine(aA a0 _ _ ((aA d).drewN _).rd).mono ?_;rintro e w4 ⟨rfl,P,i⟩;have z:=aB (((aA d).drewN _).call i);clear i)
           |(go_at_call 167;refine(aA HT _ _ (aA z).rd).mono ?_;rintro e w5 ⟨rfl,L5,F⟩;have T:=aB ((aA z).call F);clear F))
          obtain⟨z1,z2,z3,z9⟩:=aA HZ;obtain⟨z4,z5,z6,z7⟩:=aA I;go_roundg g
          case measure=>omega
          case rel=>exact⟨Rf.text q t,L5,k,rfl,by omega,aB z1,by omega,by omega,aB z2,T⟩
        have bi:(y3==93)=false:=by simpa using b3
        clear a5 a7 a6 a8 a1 a2 ap;generalize Rf.character r=x at *;obtain⟨q,t,o⟩:=x;cases o with
        |false=>
         have N:=aB (show G=(q,false)from hfin);clear hfin O hy p M j hg E l D Q J K n;go_wp2_with(go_at_call 105;refine(aA C).mono ?_;rintro e w2 ⟨rfl,X,a⟩;have d:=aB ((aA B).call a);have hc3:=a.rd.cell;have H:=a.rd.frozen;have u:=a.rd.lt;unfold aF at hc3;clear a)
         go_region
         go_wp2_with fail
         go_quiet(fail)
         go_wp2_with(go_at_call 155;refine(aA a0 _ _ ((aA d).drewN _).rd).mono ?_;rintro e w4 ⟨rfl,P,i⟩)
         go_ret;have S:=aA N;subst S;exact⟨rfl,P,((aA d).drewN _).call i⟩
        |true=>
         have m:=J rfl;have v:q.events.length≤1000000000:=by
          obtain⟨kk,_,A,_⟩:=K rfl;have A:q=_:=A;rw[A];exact l
         have HT:=aB (fun(W:World) (L' :aH) (Z:aI W b q L')=>mZ Z t v);have HZ:=aB (And.intro (show G=Rf.content g (Rf.text q t) k from hfin) (And.intro ((aA Y).trans m.1) (And.intro m.2 Q)));clear hfin O hy p M j hg E l D Q J K n m v;go_wp2_with(go_at_call 105;refine(aA C).mono ?_;rintro e w2 ⟨rfl,X,a⟩;have d:=aB ((aA B).call a);have hc3:=a.rd.cell;have H:=a.rd.frozen;have u:=a.rd.lt;unfold aF at hc3;clear a)
         go_region
         go_wp2_with fail
         go_quiet(fail)
         go_wp2_with(first
          |(go_at_call 155;refine(aA a0 _ _ ((aA d).drewN _).rd).mono ?_;rintro e w4 ⟨rfl,P,i⟩;have z:=aB (((aA d).drewN _).call i);clear i)
          |(go_at_call 167;refine(aA HT _ _ (aA z).rd).mono ?_;rintro e w5 ⟨rfl,L5,F⟩;have T:=aB ((aA z).call F);clear F))
         obtain⟨z1,z2,z3,z9⟩:=aA HZ;obtain⟨z4,z5,z6,z7⟩:=aA I;go_roundg g
         case measure=>omega
         case rel=>exact⟨Rf.text q t,L5,k,rfl,by omega,aB z1,by omega,by omega,aB z2,T⟩
       have d1:decide ((r.at_:Int) - k≥2)=false:=by simp;omega
       have d2:decide ((2:Int)≤(r.at_:Int) - k)=false:=by simp;omega
       generalize Rf.character r=x at *;obtain⟨q,t,o⟩:=x;cases o with
       |false=>
        have N:=aB (show G=(q,false)from hfin);clear hfin O hy p M j hg E l D Q J K n;go_wp2_with(go_at_call 105;refine(aA C).mono ?_;rintro e w2 ⟨rfl,X,a⟩;have d:=aB ((aA B).call a);have hc3:=a.rd.cell;have H:=a.rd.frozen;have u:=a.rd.lt;unfold aF at hc3;clear a)
        go_region
        go_wp2_with fail
        go_quiet(fail)
        go_wp2_with(go_at_call 155;refine(aA a0 _ _ ((aA d).drewN _).rd).mono ?_;rintro e w4 ⟨rfl,P,i⟩)
        go_ret;have S:=aA N;subst S;exact⟨rfl,P,((aA d).drewN _).call i⟩
       |true=>
        have m:=J rfl;have v:q.events.length≤1000000000:=by
         obtain⟨kk,_,A,_⟩:=K rfl;have A:q=_:=A;rw[A];exact l
        have HT:=aB (fun(W:World) (L' :aH) (Z:aI W b q L')=>mZ Z t v);have HZ:=aB (And.intro (show G=Rf.content g (Rf.text q t) k from hfin) (And.intro ((aA Y).trans m.1) (And.intro m.2 Q)));clear hfin O hy p M j hg E l D Q J K n m v;go_wp2_with(go_at_call 105;refine(aA C).mono ?_;rintro e w2 ⟨rfl,X,a⟩;have d:=aB ((aA B).call a);have hc3:=a.rd.cell;have H:=a.rd.frozen;have u:=a.rd.lt;unfold aF at hc3;clear a)
        go_region
        go_wp2_with fail
        go_quiet(fail)
        go_wp2_with(first
         |(go_at_call 155;refine(aA a0 _ _ ((aA d).drewN _).rd).mono ?_;rintro e w4 ⟨rfl,P,i⟩;have z:=aB (((aA d).drewN _).call i);clear i)
         |(go_at_call 167;refine(aA HT _ _ (aA z).rd).mono ?_;rintro e w5 ⟨rfl,L5,F⟩;have T:=aB ((aA z).call F);clear F))
        obtain⟨z1,z2,z3,z9⟩:=aA HZ;obtain⟨z4,z5,z6,z7⟩:=aA I;go_roundg g
        case measure=>omega
        case rel=>exact⟨Rf.text q t,L5,k,rfl,by omega,aB z1,by omega,by omega,aB z2,T⟩
  rw[show Rf.ends r=({r with stop:=1},true) by simp[Rf.ends,h3]]at C;rw[Kb h3]at hfin;have N:=aB hfin;clear hfin j hg E l D Q;go_wp2_with(go_at_call 105;refine(aA C).mono ?_;rintro e w2 ⟨rfl,X,a⟩)
  go_ret;have S:=aA N;subst S;exact⟨rfl,X,(aA B).call a⟩
end
end Go.Proofs.YtmgfijllcdadgaaGreatDoor.V
