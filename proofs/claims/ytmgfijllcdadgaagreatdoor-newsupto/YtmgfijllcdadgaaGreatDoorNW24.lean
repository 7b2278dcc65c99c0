import Derived.Test.YtmgfijllcdadgaaGreatDoorNW23
set_option linter.unusedVariables false
set_option linter.unusedSimpArgs false
set_option maxHeartbeats 8000000
set_option maxRecDepth 100000
namespace Go.Proofs.YtmgfijllcdadgaaGreatDoor.V
open Go.RowKit
open Mk (Bs Ev aD)
open Rf (R)
open Go.Proofs.Tryz
open Rf (jO eH aP cL fR eY eZ gu lC fF mR)
variable {f:Nat}{r:R}
def tP(after:Bool)(f:Nat)(r:R):R×Bool:=
 if r.at_<r.s.length then
  if r.byte r.at_ !=60 then(Rf.fail r 3,false)
  else if r.at_+1=r.s.length then({r with stop:=1},false)
  else if r.byte (r.at_+1) !=33&&r.byte (r.at_+1) !=63 then(r,true)
  else
   let x:=if r.byte (r.at_+1)==63 then jO {r with at_:=r.at_+2}else(if(Rf.must {r with at_:=r.at_+2} 45).2 then Rf.comment (Rf.must {r with at_:=r.at_+2} 45).1 else((Rf.must {r with at_:=r.at_+2} 45).1,false))
   if x.2 then eH after f x.1 else(x.1,false)
 else({r with stop:=1},false)
def jg(after:Bool)(r:R):R:={r with whole:=after&&decide (r.at_=r.s.length)}
theorem wK(a:Bool)(f:Nat)(r:R):eH a (f+1) r=tP a f (jg a (aP r)):=rfl
section
variable {w w' :World}{b:Nat}{s:R}{L:aH}
theorem Bg(d:Bool)(h:aI w b s L)(hl:bT s)(hev:s.events.length≤4*s.at_+100)(ab:s.s.length≤100000000):Calls Tryz.prog 81 #[.pointer (some ⟨b,0,none⟩),.bool d] w (iC w b s L (cL d s)):=by
 have HM:=aB h;have HL:=aB hl;have ad:=Kp.refl hl.at_;obtain⟨z,O⟩:∃z,z=cL d s:=⟨_,rfl⟩;rw[←O];have ak:=h.lt;have E:=aB (show z=eH d (s.s.length+1) s from O);clear h O hl;go_enter func81,ntmps81
 go_wp2_with fail
 go_loopg [] (s.s.length+1) (fun g wx=>∃(r:R) (L1:aH),z=eH d g r∧s.s.length - r.at_<g∧Kp s r∧aL w b (aR s L) wx r L1)
 case atStart=>exact⟨s,L,aA E,by omega,ad,(aA HM).start⟩
 case round=>
  obtain⟨r,L1,hfin,hg,a6,hm⟩:=hrel;have a7:=a6.ok (aA HL);obtain⟨f,rfl⟩:∃f,gk=f+1:=⟨gk - 1,by omega⟩;rw[wK]at hfin;have a8:=gb a7.at_;have C:=a6.trans a8;have a9:=aB (mU hm.rd a7);have t:=aB hm;obtain⟨u,aa⟩:∃u,u=aP r:=⟨_,rfl⟩;rw[←aa]at hfin a9 C;have G:u.s.length - u.at_<f+1:=by
   have:=a8.gz;rw[←aa]at this;rw[C.s];omega
  have P:=C.ok (aA HL);have a1:=aB C;have Q:=aB P;clear hm a7 a8 a6 C aa HM E ad hg;go_wp2_with(go_at_call 104;refine(aA a9).mono ?_;rintro e w1 ⟨rfl,L2,a⟩;have j:=aB ((aA t).call a);have k:=a.rd.cell;have A:=a.rd.frozen;have m:=a.rd.lt;clear a;unfold aF at k)
  go_cut [] (fun wx=>aL w b (aR s L) wx (jg d u) L2)
  case first=>
   have ae:∀v,(d&&decide (u.at_=u.s.length))=v→aL w b (aR s L) ((w1.setCell ⟨b,8,none⟩ (.bool v)).drew) (jg d u) L2:=fun v hv=>by
    have:=((aA j).store 8 (.bool v) {u with whole:=v} rfl rfl rfl rfl).drew;unfold jg;rw[hv];exact this
   have a2:=aB ae;clear ae hfin G P;by_cases h3:u.at_=u.s.length
   .have e0:((u.at_:Int)==(u.s.length:Int))=true:=by simp;omega
    have HV:=aB (show decide (u.at_=u.s.length)=true by simpa using h3);clear h3;cases d
    .go_region
     go_wp2
     go_meet
     exact aA a2 false rfl
    go_region
    go_wp2
    go_meet
    exact aA a2 true (by rw[aA HV];rfl)
   have e0:((u.at_:Int)==(u.s.length:Int))=false:=by simp;omega
   have HV:=aB (show decide (u.at_=u.s.length)=false by simpa using h3);clear h3;cases d
   .go_region
    go_wp2
    go_meet
    exact aA a2 false rfl
   go_region
   go_wp2
   go_meet
   exact aA a2 false (by rw[aA HV];rfl)
  case rest=>
  have K:Kp s (jg d u):=by
   have:=aA a1;exact⟨this.s,this.od,this.oa,this.ot,this.on,this.gz,this.len,this.ev,this.op,this.tg⟩
  have i:(jg d u).s.length - (jg d u).at_<f+1:=G;clear j k A m a1 Q P G a9 t;generalize jg d u=c at *;have D:=K.ok (aA HL);have t:=aB hcut;have S:=aB (gy hcut.rd D);have Q:=aB D;have a1:=aB K;have h1:=D.len;have h2:=D.at_;have n:c.events.length≤4*c.at_+100:=by
   have:=K.ev;omega
  have a5:c.s.length≤100000000:=by rw[K.s];exact ab
  have al:c.s.length=s.s.length:=by rw[K.s]
  clear hcut D K hev ab;unfold tP at hfin;by_cases h3:c.at_<c.s.length
  .rw[if_pos h3]at hfin;rw[show Rf.ends c=(c,false) by simp[Rf.ends,h3]]at S;obtain⟨y,hb,am,hy⟩:=bH c c.at_ h3;have an:(c.at_:Int)<(c.s.length:Int):=by omega
   rw[hb]at hfin;by_cases h4:(y.toNat:Int)=60
   .have e1:((y.toNat:Int) !=60)=false:=by simpa using h4
    rw[e1]at hfin;simp only[Bool.false_eq_true,if_false]at hfin;by_cases h5:c.at_+1=c.s.length
    .rw[if_pos h5]at hfin;have e2:((c.at_:Int)+1==(c.s.length:Int))=true:=by simp;omega
     have E:=aB hfin;clear hfin h4 hb hy h5 i n;go_wp2_with(go_at_call 105;refine(aA S).mono ?_;rintro e w1 ⟨rfl,T,a⟩;have j:=aB ((aA t).call a);have k:=a.rd.cell;have A:=a.rd.frozen;have m:=a.rd.lt;clear a;unfold aF at k)
     go_quiet(fail)
     go_wp2
     go_quiet(fail)
     go_wp2
     go_ret;rw[aA E];exact⟨rfl,T,((aA j).drewN _).store 6 _ {c with stop:=1} rfl rfl rfl rfl⟩
    rw[if_neg h5]at hfin;have h6:c.at_+1<c.s.length:=by omega
    have e2:((c.at_:Int)+1==(c.s.length:Int))=false:=by simp;omega
    obtain⟨y2,H,aj,M⟩:=bH c (c.at_+1) h6;have ao:(c.at_:Int)+1<(c.s.length:Int):=by omega
    have ap:((c.at_:Int)+1).toNat=c.at_+1:=by omega
    rw[H]at hfin;have l:bT {c with at_:=c.at_+2}:=⟨(aA Q).len,by simp;omega,(aA Q).t0,(aA Q).t1⟩;have q:Kp s {c with at_:=c.at_+2}:=(aA a1).trans (.to (by omega) (by omega));by_cases h7:(y2.toNat:Int)=63
    .have e3:((y2.toNat:Int)==63)=true:=by simpa using h7
     have e4:((y2.toNat:Int) !=63)=false:=by simpa using h7
     have e5:((y2.toNat:Int) !=33)=true:=by simp;omega
     rw[e3,e4]at hfin;simp only[Bool.and_false,Bool.false_eq_true,if_false,if_true]at hfin;have x:=tO (r:={c with at_:=c.at_+2}) l.at_ l.t0;have HI:=aB (fun(W:World) (L' :aH) (hW:aI W b {c with at_:=c.at_+2} L')=>Qn hW l (by show c.events.length≤4* (c.at_+2)+100;omega) a5);generalize N:jO {c with at_:=c.at_+2}=ir at *;obtain⟨F,o⟩:=ir;cases o with
     |false=>
      have E:=aB (show z=(F,false)from hfin);clear hfin h4 hb hy h5 i n H M h7 x N l q h6;go_wp2_with(go_at_call 105;refine(aA S).mono ?_;rintro e w1 ⟨rfl,T,a⟩;have j:=aB ((aA t).call a);have k:=a.rd.cell;have A:=a.rd.frozen;have m:=a.rd.lt;clear a;unfold aF at k)
      go_quiet(fail)
      go_wp2
      go_quiet(fail)
      go_wp2
      go_quiet(fail)
      go_wp2_with(go_at_call 106;refine(aA HI _ _ (((aA j).drewN _).store 5 _ {c with at_:=c.at_+2} (by simp[aF]) rfl rfl rfl).rd).mono ?_;rintro e w3 ⟨rfl,L4,p⟩)
      go_ret;rw[aA E];exact⟨rfl,L4,(((aA j).drewN _).store 5 _ {c with at_:=c.at_+2} (by simp[aF]) rfl rfl rfl).call p⟩
     |true=>
      have HZ:=aB (And.intro (show z=eH d f F from hfin) (And.intro i (And.intro (q.trans x) x.gz)));clear hfin h4 hb hy h5 i n H M h7 x N l q;go_wp2_with(go_at_call 105;refine(aA S).mono ?_;rintro e w1 ⟨rfl,T,a⟩;have j:=aB ((aA t).call a);have k:=a.rd.cell;have A:=a.rd.frozen;have m:=a.rd.lt;clear a;unfold aF at k)
      go_quiet(fail)
      go_wp2
      go_quiet(fail)
      go_wp2
      go_quiet(fail)
      go_wp2_with(go_at_call 106;refine(aA HI _ _ (((aA j).drewN _).store 5 _ {c with at_:=c.at_+2} (by simp[aF]) rfl rfl rfl).rd).mono ?_;rintro e w3 ⟨rfl,L4,p⟩;have B:=aB ((((aA j).drewN _).store 5 _ {c with at_:=c.at_+2} (by simp[aF]) rfl rfl rfl).call p);clear p)
      obtain⟨z1,z2,z3,z4⟩:=aA HZ;have z4:c.at_+2≤F.at_:=z4;go_roundg f
      case measure=>omega
      case rel=>exact⟨F,L4,z1,by omega,z3,aA B⟩
    have e3:((y2.toNat:Int)==63)=false:=by simpa using h7
    have e4:((y2.toNat:Int) !=63)=true:=by simpa using h7
    by_cases h8:(y2.toNat:Int)=33
    .have e5:((y2.toNat:Int) !=33)=false:=by simpa using h8
     rw[e3,e5]at hfin;simp only[Bool.false_and,Bool.false_eq_true,if_false]at hfin;have x:=fS (r:={c with at_:=c.at_+2}) l.at_ 45;have HI:=aB (fun(W:World) (L' :aH) (hW:aI W b {c with at_:=c.at_+2} L')=>Py hW l 45 (by decide) (by decide));generalize N:Rf.must {c with at_:=c.at_+2} 45=ir at *;obtain⟨F,o⟩:=ir;cases o with
     |false=>
      have E:=aB (show z=(F,false)from hfin);clear hfin h4 hb hy h5 i n H M h7 h8 x N l q h6;go_wp2_with(go_at_call 105;refine(aA S).mono ?_;rintro e w1 ⟨rfl,T,a⟩;have j:=aB ((aA t).call a);have k:=a.rd.cell;have A:=a.rd.frozen;have m:=a.rd.lt;clear a;unfold aF at k)
      go_quiet(fail)
      go_wp2
      go_quiet(fail)
      go_wp2
      go_quiet(fail)
      go_wp2_with(go_at_call 107;refine(aA HI _ _ (((aA j).drewN _).store 5 _ {c with at_:=c.at_+2} (by simp[aF]) rfl rfl rfl).rd).mono ?_;rintro e w3 ⟨rfl,L4,p⟩;have B:=aB ((((aA j).drewN _).store 5 _ {c with at_:=c.at_+2} (by simp[aF]) rfl rfl rfl).call p);clear p)
      go_ret;rw[aA E];exact⟨rfl,L4,aA B⟩
     |true=>
      have I:Kp s F:=q.trans x.1;have J:bT F:=I.ok (aA HL);have X:F={c with at_:=c.at_+2+1}:=(x.2 rfl).1;have Y:F.events.length≤4*F.at_+100:=by rw[X];show c.events.length≤4* (c.at_+2+1)+100;omega
      have Z:F.s.length≤100000000:=by rw[X];exact a5
      have a0:c.at_+2≤F.at_:=by rw[X];show c.at_+2≤c.at_+2+1;omega
      have a3:=tN J.at_;have af:=aB (fun(W:World) (L' :aH) (hW:aI W b F L')=>AB hW J Y Z);simp only[if_true]at hfin;generalize ag:Rf.comment F=cr at *;obtain⟨r4,o4⟩:=cr;cases o4 with
      |false=>
       have E:=aB (show z=(r4,false)from hfin);clear hfin h4 hb hy h5 i n H M h7 h8 x N l q h6 I J X Y Z a0 a3 ag;go_wp2_with(go_at_call 105;refine(aA S).mono ?_;rintro e w1 ⟨rfl,T,a⟩;have j:=aB ((aA t).call a);have k:=a.rd.cell;have A:=a.rd.frozen;have m:=a.rd.lt;clear a;unfold aF at k)
       go_quiet(fail)
       go_wp2
       go_quiet(fail)
       go_wp2
       go_quiet(fail)
       go_wp2_with(first
        |(go_at_call 107;refine(aA HI _ _ (((aA j).drewN _).store 5 _ {c with at_:=c.at_+2} (by simp[aF]) rfl rfl rfl).rd).mono ?_;rintro e w3 ⟨rfl,L4,p⟩;have B:=aB ((((aA j).drewN _).store 5 _ {c with at_:=c.at_+2} (by simp[aF]) rfl rfl rfl).call p);clear p)
        |(go_at_call 108;refine(aA af _ _ (aA B).rd).mono ?_;rintro e w4 ⟨rfl,L5,a4⟩))
       go_ret;rw[aA E];exact⟨rfl,L5,(aA B).call a4⟩
      |true=>
       have HZ:=aB (And.intro (show z=eH d f r4 from hfin) (And.intro i (And.intro (I.trans a3) (And.intro a3.gz a0))));clear hfin h4 hb hy h5 i n H M h7 h8 x N l q I J X Y Z a0 a3 ag;go_wp2_with(go_at_call 105;refine(aA S).mono ?_;rintro e w1 ⟨rfl,T,a⟩;have j:=aB ((aA t).call a);have k:=a.rd.cell;have A:=a.rd.frozen;have m:=a.rd.lt;clear a;unfold aF at k)
       go_quiet(fail)
       go_wp2
       go_quiet(fail)
       go_wp2
       go_quiet(fail)
       go_wp2_with(first
        |(go_at_call 107;refine(aA HI _ _ (((aA j).drewN _).store 5 _ {c with at_:=c.at_+2} (by simp[aF]) rfl rfl rfl).rd).mono ?_;rintro e w3 ⟨rfl,L4,p⟩;have B:=aB ((((aA j).drewN _).store 5 _ {c with at_:=c.at_+2} (by simp[aF]) rfl rfl rfl).call p);clear p)
        |(go_at_call 108;refine(aA af _ _ (aA B).rd).mono ?_;rintro e w4 ⟨rfl,L5,a4⟩;have ah:=aB ((aA B).call a4);clear a4))
       obtain⟨z1,z2,z3,z4,z5⟩:=aA HZ;have z4:F.at_≤r4.at_:=z4;go_roundg f
       case measure=>omega
       case rel=>exact⟨r4,L5,z1,by omega,z3,aA ah⟩
    have e5:((y2.toNat:Int) !=33)=true:=by simpa using h8
    rw[e4,e5]at hfin;simp only[Bool.and_true,if_true]at hfin;have E:=aB hfin;clear hfin h4 hb hy h5 i n H M h7 h8 l q h6;go_wp2_with(go_at_call 105;refine(aA S).mono ?_;rintro e w1 ⟨rfl,T,a⟩;have j:=aB ((aA t).call a);have k:=a.rd.cell;have A:=a.rd.frozen;have m:=a.rd.lt;clear a;unfold aF at k)
    go_quiet(fail)
    go_wp2
    go_quiet(fail)
    go_wp2
    go_quiet(fail)
    go_wp2
    go_ret;rw[aA E];exact⟨rfl,T,(aA j).drewN _⟩
   have e1:((y.toNat:Int) !=60)=true:=by simpa using h4
   rw[e1]at hfin;simp only[if_true]at hfin;have E:=aB hfin;clear hfin h4 hb hy i n;go_wp2_with(go_at_call 105;refine(aA S).mono ?_;rintro e w1 ⟨rfl,T,a⟩;have j:=aB ((aA t).call a);have k:=a.rd.cell;have A:=a.rd.frozen;have m:=a.rd.lt;clear a;unfold aF at k)
   go_quiet(fail)
   go_wp2_with(go_at_call 83;refine(bW ((aA j).drewN _).rd 3).mono ?_;rintro e w2 ⟨rfl,L4,ai⟩)
   go_ret;rw[aA E];exact⟨rfl,L4,((aA j).drewN _).call ai⟩
  rw[if_neg h3]at hfin;rw[show Rf.ends c=({c with stop:=1},true) by simp[Rf.ends,h3]]at S;have E:=aB hfin;clear hfin i n;go_wp2_with(go_at_call 105;refine(aA S).mono ?_;rintro e w1 ⟨rfl,T,a⟩)
  go_ret;rw[aA E];exact⟨rfl,T,(aA t).call a⟩
end
section
variable {w w' :World}{b:Nat}{s:R}{L:aH}
theorem mZ(h:aI w b s L)(t:Bs)(a:s.events.length≤1000000000):Calls Tryz.prog 167 #[.pointer (some ⟨b,0,none⟩),.string ⟨t.toArray⟩] w fun e w' =>e=.returned (.tuple #[])∧∃L', aL w b (aR s L) w' (Rf.text s t) L' :=by
 have c:=aB (mV h ⟨3,[],[],t,[]⟩ none 0 0 (jw ⟨rfl,rfl,rfl⟩) (fun k d=>by cases d) a);clear h a;go_enter func167,ntmps167
 go_wp2_with(go_at_call 152;refine(aA c).mono ?_;rintro e w1 ⟨rfl,f,g⟩)
 go_end0
 exact⟨rfl,f,g⟩
theorem wL(x:UInt8)(l:Bs)(r:R):fR (x::l) r=if r.at_<r.s.length then(if r.byte r.at_ !=(x.toNat:Int)then(Rf.fail r 5,false)else fR l {r with at_:=r.at_+1})else({r with stop:=1},false):=rfl
def qR(r:R):R×Bool:=if decide (r.at_<r.s.length)&&eY (r.byte r.at_)then(Rf.fail r 5,false)else Rf.must (aP r) 62
theorem Bh(r:R)(a:Bs):eZ r a=if(fR a {r with at_:=r.at_+2}).2 then qR (fR a {r with at_:=r.at_+2}).1 else((fR a {r with at_:=r.at_+2}).1,false):=by
 unfold eZ qR;simp only;cases(fR a {r with at_:=r.at_+2}).2<;>rfl
theorem JZ(a:Bs)(h:aI w b s L)(Y:bT s)(hn:a.length≤100000000)(a6:s.s.length≤100000000)(h2:s.at_+2≤s.s.length):Calls Tryz.prog 114 #[.pointer (some ⟨b,0,none⟩),.string ⟨a.toArray⟩] w (iC w b s L (eZ s a)):=by
 have hc:=h.cell;have hf:=h.frozen;have Z:=h.lt;have HM:=aB h;have HL:=aB Y;have h1:=Y.len;obtain⟨v,n⟩:∃v,v=eZ s a:=⟨_,rfl⟩;rw[←n];rw[Bh]at n;have o:=aB n;unfold aF at hc;clear h Y n;go_enter func114,ntmps114
 go_wp2_with fail
 clear hc hf;go_loopg [5] a.length (fun g s5 wx=>∃(i k:Nat) (L1:aH),i≤a.length∧g=a.length - i∧s5=.int .i64 i∧s.at_+2≤k∧k≤s.s.length∧fR a {s with at_:=s.at_+2}=fR (a.drop i) {s with at_:=k}∧aL w b (aR s L) wx {s with at_:=k} L1)
 case atStart=>exact⟨0,s.at_+2,L,by omega,rfl,rfl,by omega,h2,rfl,(aA HM).start.store 5 _ {s with at_:=s.at_+2} (by simp[aF]) rfl rfl rfl⟩
 case round=>
  obtain⟨i,k,L1,hi,rfl,rfl,a7,a0,z,F⟩:=hrel;have A:bT {s with at_:=k}:=⟨(aA HL).len,a0,(aA HL).t0,(aA HL).t1⟩;have j:=aB F;have G:=aB (gy F.rd A);have B:=aB A;have a1:=F.rd.cell;have a8:=F.rd.frozen;have a5:=F.rd.lt;unfold aF at a1;clear F A HM Z;have c:=aA o;rw[z]at c;have J:=aB z;clear z o;by_cases h5:i<a.length
  .have e0:decide ((i:Int)<(a.length:Int))=true:=by simp;omega
   have a9:(i:Int)<(a.length:Int):=by omega
   obtain⟨x,H⟩:∃x,a[i]?=some x:=⟨a[i],by simp[h5]⟩;have aa:∀h,(ByteArray.mk a.toArray)[i]'h=x:=fun h=>by
    have S:=jQ a i h5 h;rw[S];exact(List.getElem?_eq_some_iff.1 H).2
   rw[drop_at H,wL]at c;by_cases p:k<s.s.length
   .obtain⟨y,C,a2,K⟩:=bH s k p;have a3:(k:Int)<(s.s.length:Int):=by omega
    have m:R.byte {s with at_:=k} k=(y.toNat:Int):=C;simp only[p,if_true,m]at c;rw[show Rf.ends {s with at_:=k}=({s with at_:=k},false) by simp[Rf.ends,p]]at G;by_cases T:(y.toNat:Int)=(x.toNat:Int)
    .have I:((y.toNat:Int) !=(x.toNat:Int))=false:=by simpa using T
     simp only[I,Bool.false_eq_true,if_false]at c;have ab:wrap64 ((k:Int)+1)=((k+1:Nat):Int):=by unfold wrap64;omega
     have HZ:=aB (show fR a {s with at_:=s.at_+2}=fR (a.drop (i+1)) {s with at_:=k+1} by
      rw[aA J,drop_at H,wL]
      simp only[p,if_true,m,I,Bool.false_eq_true,if_false])
     clear c C K T H m;go_wp2_with(go_at_call 105;refine(aA G).mono ?_;rintro e w1 ⟨rfl,X,d⟩;have r:=aB ((aA j).call d);have D:=d.rd.cell;have a4:=d.rd.frozen;have M:=d.rd.lt;clear d;unfold aF at D)
     go_quiet(fail)
     go_wp2
     go_roundg (a.length - (i+1))
     case measure=>omega
     case rel=>exact⟨i+1,k+1,X,by omega,rfl,by simp,by omega,by omega,aA HZ,((aA r).drewN _).store 5 _ {s with at_:=k+1} (by simp[aF]) rfl rfl rfl⟩
    have I:((y.toNat:Int) !=(x.toNat:Int))=true:=by simpa using T
    simp only[I,if_true,Bool.false_eq_true,if_false]at c;have o:=aB c;clear c C K T H m;go_wp2_with(go_at_call 105;refine(aA G).mono ?_;rintro e w1 ⟨rfl,X,d⟩;have r:=aB ((aA j).call d);have D:=d.rd.cell;have a4:=d.rd.frozen;have M:=d.rd.lt;clear d;unfold aF at D)
    go_quiet(fail)
    go_wp2_with(go_at_call 83;refine(bW ((aA r).drewN _).rd 5).mono ?_;rintro e w2 ⟨rfl,N,l⟩)
    go_ret;rw[aA o];exact⟨rfl,N,((aA r).drewN _).call l⟩
   rw[show Rf.ends {s with at_:=k}=({s with at_:=k,stop:=1},true) by simp[Rf.ends,p]]at G;simp only[p,if_false,Bool.false_eq_true]at c;have o:=aB c;clear c H;go_wp2_with(go_at_call 105;refine(aA G).mono ?_;rintro e w1 ⟨rfl,X,d⟩)
   go_ret;rw[aA o];exact⟨rfl,X,(aA j).call d⟩
  have e0:decide ((i:Int)<(a.length:Int))=false:=by simp;omega
  rw[List.drop_of_length_le (by omega)]at c;have f:v=qR {s with at_:=k}:=c;clear c J G;unfold qR at f;have O:=aB (fun(W:World) (L' :aH) (hW:aI W b {s with at_:=k} L')=>mU hW (aA B));have P:=gb (aA B).at_;have u:bT (aP {s with at_:=k}):=P.ok (aA B);have Q:=aB (fun(W:World) (L' :aH) (hW:aI W b (aP {s with at_:=k}) L')=>Py hW u 62 (by decide) (by decide));clear P u;by_cases p:k<s.s.length
  .obtain⟨y,C,a2,K⟩:=bH s k p;have a3:(k:Int)<(s.s.length:Int):=by omega
   have I:decide ((k:Int)<(s.s.length:Int))=true:=by simpa using p
   have m:R.byte {s with at_:=k} k=(y.toNat:Int):=C;simp only[p,decide_true,Bool.true_and,m]at f;have t:=aB (fun w=>vW (y.toNat:Int) w);cases S:eY (y.toNat:Int)
   .rw[S]at f t;simp only[Bool.false_eq_true,if_false]at f;have o:=aB f;clear f C K m;go_wp2_with fail
    go_quiet((go_at_call 156;refine Calls.quiet_of_same (aA t _)))
    go_wp2_with(first
     |(go_at_call 104;refine(aA O _ _ ((aA j).drewN _).rd).mono ?_;rintro e w2 ⟨rfl,N,l⟩;have q:=aB (((aA j).drewN _).call l);clear l)
     |(go_at_call 107;refine(aA Q _ _ (aA q).rd).mono ?_;rintro e w3 ⟨rfl,L5,E⟩))
    go_ret;rw[aA o];exact⟨rfl,L5,(aA q).call E⟩
   rw[S]at f t;simp only[if_true]at f;have o:=aB f;clear f C K m;go_wp2_with fail
   go_quiet((go_at_call 156;refine Calls.quiet_of_same (aA t _)))
   go_wp2_with(go_at_call 83;refine(bW ((aA j).drewN _).rd 5).mono ?_;rintro e w2 ⟨rfl,N,l⟩)
   go_ret;rw[aA o];exact⟨rfl,N,((aA j).drewN _).call l⟩
  have I:decide ((k:Int)<(s.s.length:Int))=false:=by simpa using p
  simp only[p,decide_false,Bool.false_and,Bool.false_eq_true,if_false]at f;have o:=aB f;clear f;go_wp2_with fail
  go_quiet(fail)
  go_wp2_with(first
   |(go_at_call 104;refine(aA O _ _ ((aA j).drewN _).rd).mono ?_;rintro e w2 ⟨rfl,N,l⟩;have q:=aB (((aA j).drewN _).call l);clear l)
   |(go_at_call 107;refine(aA Q _ _ (aA q).rd).mono ?_;rintro e w3 ⟨rfl,L5,E⟩))
  go_ret;rw[aA o];exact⟨rfl,L5,(aA q).call E⟩
end
def fG:Bs:=[91,67,68,65,84,65,91]
theorem tQ(x:UInt8)(l:Bs)(r:R):gu (x::l) r=if(Rf.must r (x.toNat:Int)).2 then gu l (Rf.must r (x.toNat:Int)).1 else((Rf.must r (x.toNat:Int)).1,false):=rfl
theorem wM(r:R):lC r=if(gu fG r).2 then fF (r.s.length+1) (gu fG r).1 else((gu fG r).1,false):=rfl
theorem Rt(h:¬r.at_<r.s.length):fF (f+1) r=({r with stop:=1},false):=by
 rw[fF,if_neg h]
theorem Bi(h:r.at_<r.s.length)(b:r.byte r.at_=93)(a:r.s.drop r.at_=[93]∨r.s.drop r.at_=[93,93]):fF (f+1) r=(mR r,false):=by
 rw[fF,if_pos h];simp only;rw[if_pos (by rcases a with a|a<;>simp[b,a])]
theorem Ru(h:r.at_<r.s.length)(a:r.byte r.at_=93)(b:r.s.drop r.at_≠[93])(c:r.s.drop r.at_≠[93,93])(d:r.byte (r.at_+1)=93)(e:r.byte (r.at_+2)=62):fF (f+1) r=({r with at_:=r.at_+3},true):=by
 rw[fF,if_pos h];simp only;rw[if_neg (by simp[b,c]),if_pos (by simp[a,d,e])]
theorem wN(h:r.at_<r.s.length)(a:r.byte r.at_≠93∨(r.s.drop r.at_≠[93]∧r.s.drop r.at_≠[93,93]∧¬(r.byte (r.at_+1)=93∧r.byte (r.at_+2)=62))):fF (f+1) r=if(Rf.character r).2.2 then fF f (Rf.text (Rf.character r).1 (Rf.character r).2.1)else((Rf.character r).1,false):=by
 rw[fF,if_pos h];simp only;rcases a with a|⟨a,b,c⟩
 .rw[if_neg (by simp[a]),if_neg (by simp[a])]
 rw[if_neg (by simp[a,b]),if_neg (by simp;intro _ d;exact fun e=>c ⟨d,e⟩)]
section
variable {w w' :World}{b:Nat}{s:R}{L:aH}
theorem Rv(h:aI w b s L)(hl:bT s)(hev:s.events.length≤4*s.at_+100)(an:s.s.length≤100000000):Calls Tryz.prog 208 #[.pointer (some ⟨b,0,none⟩)] w (iC w b s L (lC s)):=by
 have HM:=aB h;have HL:=aB hl;have ah:=Kp.refl hl.at_;obtain⟨D,a0⟩:∃D,D=lC s:=⟨_,rfl⟩;rw[←a0];rw[wM]at a0;have G:=aB a0;clear h hl a0;go_enter func208,ntmps208
 go_wp2_with fail
 go_loopg [4] 7 (fun g s4 wx=>∃(i:Nat) (r:R) (L1:aH),i≤7∧g=7 - i∧s4=.int .i64 i∧gu fG s=gu (fG.drop i) r∧Kp s r∧aL w b (aR s L) wx r L1)
 case atStart=>exact⟨0,s,L,by omega,rfl,rfl,rfl,ah,(aA HM).start⟩
 case round=>
  obtain⟨i,r,L1,hi,rfl,rfl,ad,j,hm⟩:=hrel;have B:=j.ok (aA HL);have p:=aB hm;have ai:=aB B;have a2:=aB j;have K:=aA G;rw[ad]at K;have ae:=aB ad;clear ad G ah HM;by_cases h5:i<7
  .have e0:decide ((i:Int)<7)=true:=by simp;omega
   have aw:(i:Int)<7:=by omega
   obtain⟨x,hx⟩:∃x,fG[i]?=some x:=⟨fG[i]'(by show i<7;exact h5),by simp[fG,h5]⟩;have ax:∀h,(ByteArray.mk #[91,67,68,65,84,65,91])[i]'h=x:=fun h=>by
    have h6:=jQ fG i (by show i<7;exact h5) h;have h7:=(List.getElem?_eq_some_iff.1 hx).2;exact h6.trans h7
   have af:=lZ x;rw[drop_at hx,tQ]at K;have aj:=aB (Py hm.rd B (x.toNat:Int) af.1 af.2);have ag:=fS B.at_ (x.toNat:Int);have ab:=aB (show gu fG s=if(Rf.must r (x.toNat:Int)).2 then gu (fG.drop (i+1)) (Rf.must r (x.toNat:Int)).1 else((Rf.must r (x.toNat:Int)).1,false) by rw[aA ae,drop_at hx,tQ]);generalize ao:Rf.must r (x.toNat:Int)=mu at *;obtain⟨r2,o⟩:=mu;clear hx af ao ae;cases o with
   |false=>
    have G:=aB (show D=(r2,false)from K);clear K ag hm B j;go_wp2_with(go_at_call 107;refine(aA aj).mono ?_;rintro e w3 ⟨rfl,L4,a8⟩)
    go_ret;rw[aA G];exact⟨rfl,L4,(aA p).call a8⟩
   |true=>
    have HZ:=aB (And.intro (show gu fG s=gu (fG.drop (i+1)) r2 from aA ab) (j.trans ag.1));clear K ag hm B j ab;go_wp2_with(go_at_call 107;refine(aA aj).mono ?_;rintro e w3 ⟨rfl,L4,a8⟩;have ap:=aB ((aA p).call a8);clear a8)
    go_roundg (7 - (i+1))
    case measure=>omega
    case rel=>exact⟨i+1,r2,L4,by omega,rfl,by simp,(aA HZ).1,(aA HZ).2,aA ap⟩
  have e0:decide ((i:Int)<7)=false:=by simp;omega
  rw[List.drop_of_length_le (by show 7≤i;omega)]at K;have ak:D=fF (s.s.length+1) r:=K;have G:=aB ak;clear K ak ae hm B;go_wp2_with fail
  go_loopg [] (s.s.length+1) (fun g wx=>∃(r:R) (L1:aH),D=fF g r∧s.s.length - r.at_<g∧Kp s r∧aL w b (aR s L) wx r L1)
  case atStart=>exact⟨r,L1,aA G,by omega,aA a2,aA p⟩
  case round=>
   obtain⟨r,L1,hfin,hg,j,hm⟩:=hrel;have B:=j.ok (aA HL);obtain⟨f,rfl⟩:∃f,gk=f+1:=⟨gk - 1,by omega⟩;have h1:=B.len;have h2:=B.at_;have F:r.s.length≤100000000:=by rw[j.s];exact an
   have HE:=aB (gy hm.rd B);have p:=aB hm;have ai:=aB B;have d:r.s.length - r.at_<f+1:=by rw[j.s];exact hg
   have a2:=aB j;have m:r.events.length≤1000000000:=by
    have:=j.ev;have:=j.len;omega
   clear hm B hg;by_cases h3:r.at_<r.s.length
   .rw[show Rf.ends r=(r,false) by simp[Rf.ends,h3]]at HE;obtain⟨y,hb,ay,hy⟩:=bH r r.at_ h3;have az:(r.at_:Int)<(r.s.length:Int):=by omega
    have C:=gX h3;have HC:=aB (fun(W:World) (L' :aH) (hW:aI W b r L')=>nR hW (aA ai) h3);by_cases Y:(y.toNat:Int)=93
    .have e1:((y.toNat:Int)==93)=true:=by simpa using Y
     have b0:ByteArray.extract ⟨r.s.toArray⟩ r.at_ r.s.length=⟨(r.s.drop r.at_).toArray⟩:=by
      have:=iS r.s r.at_ (r.s.length - r.at_);rw[show r.at_+(r.s.length - r.at_)=r.s.length by omega,List.take_of_length_le (by rw[List.length_drop];omega)]at this;exact this
     have E:r.s.drop r.at_=y::r.s.drop (r.at_+1):=drop_at hy;have q:y=93:=by
      apply UInt8.toNat_inj.1;show y.toNat=93;omega
     cases al:(r.s.drop r.at_==[93])
     .cases am:(r.s.drop r.at_==[93,93])
      .have H:r.s.drop r.at_≠[93]:=by simpa using al
       have I:r.s.drop r.at_≠[93,93]:=by simpa using am
       have h6:r.at_+1<r.s.length:=by
        have:¬r.at_+1=r.s.length:=fun h=>H (by rw[E,List.drop_of_length_le (by omega),q])
        omega
       obtain⟨y2,Z,aq,a1⟩:=bH r (r.at_+1) h6;have M:=drop_at a1;have b1:∀h,(ByteArray.mk (r.s.drop r.at_).toArray)[1]'h=y2:=fun h=>by
        have h7:=jQ (r.s.drop r.at_) 1 (by rw[List.length_drop];omega) h;rw[h7];simp only[E,M];rfl
       have b2:(1:Int)<((r.s.length - r.at_:Nat):Int):=by omega
       have ar:1<r.s.length - r.at_:=by omega
       by_cases h7:(y2.toNat:Int)=93
       .have e2:((y2.toNat:Int)==93)=true:=by simpa using h7
        have J:y2=93:=by
         apply UInt8.toNat_inj.1;show y2.toNat=93;omega
        have h8:r.at_+2<r.s.length:=by
         have:¬r.at_+2=r.s.length:=fun h=>I (by rw[E,M,List.drop_of_length_le (by omega),q,J])
         omega
        obtain⟨y3,a3,au,a9⟩:=bH r (r.at_+2) h8;have aa:r.s.drop (r.at_+1+1)=y3::r.s.drop (r.at_+3):=drop_at a9;have b3:∀h,(ByteArray.mk (r.s.drop r.at_).toArray)[2]'h=y3:=fun h=>by
         have h9:=jQ (r.s.drop r.at_) 2 (by rw[List.length_drop];omega) h;rw[h9];simp only[E,M,aa];rfl
        have b4:(2:Int)<((r.s.length - r.at_:Nat):Int):=by omega
        have av:2<r.s.length - r.at_:=by omega
        by_cases h9:(y3.toNat:Int)=62
        .have e3:((y3.toNat:Int)==62)=true:=by simpa using h9
         rw[Ru h3 (by rw[hb];exact Y) H I (by rw[Z];exact h7) (by rw[a3];exact h9)]at hfin;have G:=aB hfin;clear hfin hb hy Y j m d F C Z a3 a1 a9 E M aa h7 h9 q J H I;go_wp2_with(go_at_call 105;refine(aA HE).mono ?_;rintro e w1 ⟨rfl,L2,a⟩;have l:=aB ((aA p).call a);have n:=a.rd.cell;have N:=a.rd.frozen;have u:=a.rd.lt;clear a;unfold aF at n)
         go_quiet(fail)
         go_wp2_with fail
         go_quiet(fail)
         go_wp2
         go_ret;rw[aA G];exact⟨rfl,L2,((aA l).drewN _).store 5 _ {r with at_:=r.at_+3} (by simp[aF]) rfl rfl rfl⟩
        have e3:((y3.toNat:Int)==62)=false:=by simpa using h9
        rw[wN h3 (.inr ⟨H,I,fun h=>h9 (by rw[←a3];exact h.2)⟩)]at hfin;generalize O:Rf.character r=ch at *;obtain⟨v,P,o3⟩:=ch;cases o3 with
        |false=>
         have G:=aB (show D=(v,false)from hfin);clear hfin hb hy Y j m d F C O Z a3 a1 a9 E M aa h7 h9 q J H I;go_wp2_with(go_at_call 105;refine(aA HE).mono ?_;rintro e w1 ⟨rfl,L2,a⟩;have l:=aB ((aA p).call a);have n:=a.rd.cell;have N:=a.rd.frozen;have u:=a.rd.lt;clear a;unfold aF at n)
         go_quiet(fail)
         go_wp2_with fail
         go_quiet(fail)
         go_wp2_with(go_at_call 155;refine(aA HC _ _ ((aA l).drewN _).rd).mono ?_;rintro e w2 ⟨rfl,L3,t⟩)
         go_ret;rw[aA G];exact⟨rfl,L3,((aA l).drewN _).call t⟩
        |true=>
         obtain⟨k,a4,c,a5,a6⟩:=C.2 rfl;have c:v={r with at_:=r.at_+k}:=c;have Q:Kp r (Rf.text v P):=by rw[c];exact nV (by omega) (by omega) _
         have z:v.events.length≤1000000000:=by rw[c];exact m
         have HT:=aB (fun(W:World) (L' :aH) (hW:aI W b v L')=>mZ hW P z);have A:r.at_<(Rf.text v P).at_:=by rw[c];show r.at_<r.at_+k;omega
         have HZ:=aB (And.intro (show D=fF f (Rf.text v P)from hfin) (And.intro (j.trans Q) (And.intro A d)));clear hfin hb hy Y j m d F C O a4 c a5 a6 Q z A Z a3 a1 a9 E M aa h7 h9 q J H I;go_wp2_with(go_at_call 105;refine(aA HE).mono ?_;rintro e w1 ⟨rfl,L2,a⟩;have l:=aB ((aA p).call a);have n:=a.rd.cell;have N:=a.rd.frozen;have u:=a.rd.lt;clear a;unfold aF at n)
         go_quiet(fail)
         go_wp2_with fail
         go_quiet(fail)
         go_wp2_with(first
          |(go_at_call 155;refine(aA HC _ _ ((aA l).drewN _).rd).mono ?_;rintro e w2 ⟨rfl,L3,t⟩;have S:=aB (((aA l).drewN _).call t);clear t)
          |(go_at_call 167;refine(aA HT _ _ (aA S).rd).mono ?_;rintro e w4 ⟨rfl,L5,T⟩;have a7:=aB ((aA S).call T);clear T))
         obtain⟨z1,z2,z3,z4⟩:=aA HZ;have X:r.s=s.s:=(aA a2).s;go_roundg f
         case measure=>omega
         case rel=>exact⟨Rf.text v P,L5,z1,by rw[←X];omega,z2,aA a7⟩
       have e2:((y2.toNat:Int)==93)=false:=by simpa using h7
       rw[wN h3 (.inr ⟨H,I,fun h=>h7 (by rw[←Z];exact h.1)⟩)]at hfin;generalize O:Rf.character r=ch at *;obtain⟨v,P,o3⟩:=ch;cases o3 with
       |false=>
        have G:=aB (show D=(v,false)from hfin);clear hfin hb hy Y j m d F C O Z a1 E M h7 q H I;go_wp2_with(go_at_call 105;refine(aA HE).mono ?_;rintro e w1 ⟨rfl,L2,a⟩;have l:=aB ((aA p).call a);have n:=a.rd.cell;have N:=a.rd.frozen;have u:=a.rd.lt;clear a;unfold aF at n)
        go_quiet(fail)
        go_wp2_with fail
        go_quiet(fail)
        go_wp2_with(go_at_call 155;refine(aA HC _ _ ((aA l).drewN _).rd).mono ?_;rintro e w2 ⟨rfl,L3,t⟩)
        go_ret;rw[aA G];exact⟨rfl,L3,((aA l).drewN _).call t⟩
       |true=>
        obtain⟨k,a4,c,a5,a6⟩:=C.2 rfl;have c:v={r with at_:=r.at_+k}:=c;have Q:Kp r (Rf.text v P):=by rw[c];exact nV (by omega) (by omega) _
        have z:v.events.length≤1000000000:=by rw[c];exact m
        have HT:=aB (fun(W:World) (L' :aH) (hW:aI W b v L')=>mZ hW P z);have A:r.at_<(Rf.text v P).at_:=by rw[c];show r.at_<r.at_+k;omega
        have HZ:=aB (And.intro (show D=fF f (Rf.text v P)from hfin) (And.intro (j.trans Q) (And.intro A d)));clear hfin hb hy Y j m d F C O a4 c a5 a6 Q z A Z a1 E M h7 q H I;go_wp2_with(go_at_call 105;refine(aA HE).mono ?_;rintro e w1 ⟨rfl,L2,a⟩;have l:=aB ((aA p).call a);have n:=a.rd.cell;have N:=a.rd.frozen;have u:=a.rd.lt;clear a;unfold aF at n)
        go_quiet(fail)
        go_wp2_with fail
        go_quiet(fail)
        go_wp2_with(first
         |(go_at_call 155;refine(aA HC _ _ ((aA l).drewN _).rd).mono ?_;rintro e w2 ⟨rfl,L3,t⟩;have S:=aB (((aA l).drewN _).call t);clear t)
         |(go_at_call 167;refine(aA HT _ _ (aA S).rd).mono ?_;rintro e w4 ⟨rfl,L5,T⟩;have a7:=aB ((aA S).call T);clear T))
        obtain⟨z1,z2,z3,z4⟩:=aA HZ;have X:r.s=s.s:=(aA a2).s;go_roundg f
        case measure=>omega
        case rel=>exact⟨Rf.text v P,L5,z1,by rw[←X];omega,z2,aA a7⟩
      rw[Bi h3 (by rw[hb];exact Y) (.inr (by simpa using am))]at hfin;have G:=aB hfin;clear hfin hb hy Y j m d F C E q;go_wp2_with(go_at_call 105;refine(aA HE).mono ?_;rintro e w1 ⟨rfl,L2,a⟩;have l:=aB ((aA p).call a);have n:=a.rd.cell;have N:=a.rd.frozen;have u:=a.rd.lt;clear a;unfold aF at n)
      go_quiet(fail)
      go_wp2_with fail
      go_quiet(fail)
      go_wp2
      go_ret;rw[aA G];exact⟨rfl,L2,(((aA l).drewN _).store 5 _ {r with at_:=r.s.length} rfl rfl rfl rfl).store 6 _ (mR r) rfl rfl rfl rfl⟩
     rw[Bi h3 (by rw[hb];exact Y) (.inl (by simpa using al))]at hfin;have G:=aB hfin;clear hfin hb hy Y j m d F C E q;go_wp2_with(go_at_call 105;refine(aA HE).mono ?_;rintro e w1 ⟨rfl,L2,a⟩;have l:=aB ((aA p).call a);have n:=a.rd.cell;have N:=a.rd.frozen;have u:=a.rd.lt;clear a;unfold aF at n)
     go_quiet(fail)
     go_wp2_with fail
     go_quiet(fail)
     go_wp2
     go_ret;rw[aA G];exact⟨rfl,L2,(((aA l).drewN _).store 5 _ {r with at_:=r.s.length} rfl rfl rfl rfl).store 6 _ (mR r) rfl rfl rfl rfl⟩
    have e1:((y.toNat:Int)==93)=false:=by simpa using Y
    rw[wN h3 (.inl (by rw[hb];exact Y))]at hfin;generalize O:Rf.character r=ch at *;obtain⟨v,P,o3⟩:=ch;cases o3 with
    |false=>
     have G:=aB (show D=(v,false)from hfin);clear hfin hb hy Y j m d F C O;go_wp2_with(go_at_call 105;refine(aA HE).mono ?_;rintro e w1 ⟨rfl,L2,a⟩;have l:=aB ((aA p).call a);have n:=a.rd.cell;have N:=a.rd.frozen;have u:=a.rd.lt;clear a;unfold aF at n)
     go_quiet(fail)
     go_wp2_with(go_at_call 155;refine(aA HC _ _ ((aA l).drewN _).rd).mono ?_;rintro e w2 ⟨rfl,L3,t⟩)
     go_ret;rw[aA G];exact⟨rfl,L3,((aA l).drewN _).call t⟩
    |true=>
     obtain⟨k,a4,c,a5,a6⟩:=C.2 rfl;have c:v={r with at_:=r.at_+k}:=c;have Q:Kp r (Rf.text v P):=by rw[c];exact nV (by omega) (by omega) _
     have z:v.events.length≤1000000000:=by rw[c];exact m
     have HT:=aB (fun(W:World) (L' :aH) (hW:aI W b v L')=>mZ hW P z);have A:r.at_<(Rf.text v P).at_:=by rw[c];show r.at_<r.at_+k;omega
     have HZ:=aB (And.intro (show D=fF f (Rf.text v P)from hfin) (And.intro (j.trans Q) (And.intro A d)));clear hfin hb hy Y j m d F C O a4 c a5 a6 Q z A;go_wp2_with(go_at_call 105;refine(aA HE).mono ?_;rintro e w1 ⟨rfl,L2,a⟩;have l:=aB ((aA p).call a);have n:=a.rd.cell;have N:=a.rd.frozen;have u:=a.rd.lt;clear a;unfold aF at n)
     go_quiet(fail)
     go_wp2_with(first
      |(go_at_call 155;refine(aA HC _ _ ((aA l).drewN _).rd).mono ?_;rintro e w2 ⟨rfl,L3,t⟩;have S:=aB (((aA l).drewN _).call t);clear t)
      |(go_at_call 167;refine(aA HT _ _ (aA S).rd).mono ?_;rintro e w4 ⟨rfl,L5,T⟩;have a7:=aB ((aA S).call T);clear T))
     obtain⟨z1,z2,z3,z4⟩:=aA HZ;have X:r.s=s.s:=(aA a2).s;go_roundg f
     case measure=>omega
     case rel=>exact⟨Rf.text v P,L5,z1,by rw[←X];omega,z2,aA a7⟩
   rw[show Rf.ends r=({r with stop:=1},true) by simp[Rf.ends,h3]]at HE;rw[Rt h3]at hfin;have G:=aB hfin;clear hfin j m d F;go_wp2_with(go_at_call 105;refine(aA HE).mono ?_;rintro e w1 ⟨rfl,L2,a⟩)
   go_ret;rw[aA G];exact⟨rfl,L2,(aA p).call a⟩
end
end Go.Proofs.YtmgfijllcdadgaaGreatDoor.V
