import Derived.Test.YtmgfijllcdadgaaGreatDoorNW15
import Derived.Test.YtmgfijllcdadgaaGreatDoorNW16
set_option linter.unusedVariables false
set_option linter.unusedSimpArgs false
set_option maxHeartbeats 8000000
set_option maxRecDepth 100000
namespace Go.Proofs.YtmgfijllcdadgaaGreatDoor.V
open Go.RowKit
open Mk (Bs Ev aD)
open Rf (R)
open Tryz
open Rf (dG lW)
section
variable {f first:Nat}{r:R}{n base:Int}
theorem v_(h:¬r.at_<r.s.length):dG base first (f+1) r n=({r with stop:=1},[],false):=by
 rw[dG,if_neg h]
theorem wm(h:r.at_<r.s.length)(a:r.byte r.at_=59):dG base first (f+1) r n=if decide (r.at_=first)|| !Rf.some_ n n then(Rf.fail r 4,[],false)else({r with at_:=r.at_+1},lW n,true):=by
 rw[dG,if_pos h];simp[a]
theorem wu(h:r.at_<r.s.length)(a:r.byte r.at_≠59):dG base first (f+1) r n=if decide (Rf.digit (r.byte r.at_) base<0)||decide (1114111<n*base+Rf.digit (r.byte r.at_) base)then(Rf.fail r 4,[],false)else dG base first f {r with at_:=r.at_+1} (n*base+Rf.digit (r.byte r.at_) base):=by
 rw[dG,if_pos h];simp[a]
theorem PO(c base:Int)(b:0≤c)(d:c≤255)(a:base=10∨base=16): -1≤Rf.digit c base∧Rf.digit c base≤15:=by
 unfold Rf.digit;rcases a with rfl|rfl
 .simp;repeat' split
  all_goals omega
 simp;repeat' split
 all_goals omega
end
section
variable {w w' :World}{b:Nat}{s:R}{L:aH}
theorem Rs(h:aI w b s L)(hl:bT s)(hi:s.at_<s.s.length)(ab:s.s.length≤100000000)(hx:s.at_+1<s.s.length)(O:s.byte (s.at_+1)=120):Calls Tryz.prog 209 #[.pointer (some ⟨b,0,none⟩)] w (kM w b s L (dG 16 (s.at_+2) (s.s.length+1) {s with at_:=s.at_+2} 0)):=by
 have HM:=aB h;have HL:=aB hl;have h1:=hl.len;obtain⟨m,A⟩:∃m,m=dG 16 (s.at_+2) (s.s.length+1) {s with at_:=s.at_+2} 0:=⟨_,rfl⟩;rw[←A];have a1:=h.lt;have hc:=h.cell;have hf:=h.frozen;unfold aF at hc;have HF:=aB A;clear h A hl;have a2:wrap64 ((s.at_:Int)+1)=((s.at_+1:Nat):Int):=by unfold wrap64;omega
 obtain⟨y1,P,Q,a3⟩:=bH s (s.at_+1) hx;have e1:decide ((s.at_:Int)+1<(s.s.length:Int))=true:=by simp;omega
 have a4:(s.at_:Int)+1<(s.s.length:Int):=by omega
 have a5:((s.at_:Int)+1).toNat=s.at_+1:=by omega
 have e2:((y1.toNat:Int)==120)=true:=by rw[←P,O];rfl
 have H:wrap64 ((s.at_:Int)+1+1)=((s.at_+2:Nat):Int):=by unfold wrap64;omega
 have I:Hid (∀n,aL w b (aR s L) (((w.setCell ⟨b,5,none⟩ (.int .i64 ((s.at_:Int)+1))).drewN n).setCell ⟨b,5,none⟩ (.int .i64 ((s.at_:Int)+1+1))) {s with at_:=s.at_+2} L):=fun n=>(((aA HM).start.store 5 _ {s with at_:=s.at_+1} (by simp[aF]) rfl rfl rfl).drewN n).store 5 _ {s with at_:=s.at_+2} (by simp[aF];omega) rfl rfl rfl
 clear O P a3;go_enter func209,ntmps209
 go_wp2
 go_quiet(fail)
 go_wp2_with fail
 generalize R:(s.at_:Int)+1+1=S at I⊢;have T:Hid (S=((s.at_+2:Nat):Int)):=(show S=_ by rw[←R];simp;try omega);clear R;go_loopg [6] (s.s.length+1) (fun g s6 wx=>∃(k:Nat) (n:Int) (L1:aH),s6=.int .i64 n∧0≤n∧n≤1114111∧m=dG 16 (s.at_+2) g {s with at_:=k} n∧s.at_+2≤k∧k≤s.s.length∧s.s.length - k<g∧aL w b (aR s L) wx {s with at_:=k} L1)
 case atStart=>exact⟨s.at_+2,0,L,rfl,by decide,by decide,aA HF,Nat.le_refl _,by omega,by omega,aA I _⟩
 case round=>
  obtain⟨k,n,L1,rfl,q,t,hfin,u,o,J,hm⟩:=hrel;obtain⟨f,rfl⟩:∃f,gk=f+1:=⟨gk - 1,by omega⟩;have a6:bT {s with at_:=k}:=⟨(aA HL).len,o,(aA HL).t0,(aA HL).t1⟩;have E:=aB (gy hm.rd a6);have v:=aB hm;have aa:=hm.rd.lt;have X:=aB (And.intro u (And.intro o J));clear hm hc hf a1 HF HM I a2 hi hx Q e1 a4 a5 e2 H;by_cases z:k<s.s.length
  .rw[show Rf.ends {s with at_:=k}=({s with at_:=k},false) by simp[Rf.ends,z]]at E;obtain⟨y,F,ad,N⟩:=bH {s with at_:=k} k z;have ae:(k:Int)<(s.s.length:Int):=by omega
   have l:=lZ y;have a7:=aB z;by_cases D:(y.toNat:Int)=59
   .have e1:((y.toNat:Int)==59)=true:=by simpa using D
    rw[wm (r:={s with at_:=k}) z (by rw[F];exact D)]at hfin;have Y:=aB (fun w=>qH n n w);cases Z:Rf.some_ n n with
    |false=>
     rw[Z]at Y hfin;have i:=aB (show m=(Rf.fail {s with at_:=k} 4,[],false) by rw[hfin];simp);cases e2:((k:Int)==S);all_goals
      clear u o J z hfin F N q t D l;go_wp2_with(go_at_call 105;refine(aA E).mono ?_;rintro e w1 ⟨rfl,G,a⟩;have c:=aB ((aA v).call a);have j:=a.rd.cell;have B:=a.rd.frozen;have p:=a.rd.lt;clear a;unfold aF at j)
      go_quiet(fail)
      go_wp2_with(first
       |(go_at_call 116;refine(aA Y _).mono ?_;rintro e w' ⟨rfl,C⟩;obtain rfl:=C.symm)
       |(go_at_call 83;refine(bW ((aA c).drewN _).rd 4).mono ?_;rintro e w2 ⟨rfl,K,x⟩))
      go_ret2;rw[aA i];exact⟨rfl,K,((aA c).drewN _).call x⟩
    |true=>
     rw[Z]at Y hfin;by_cases h5:k=s.at_+2
     .have i:=aB (show m=(Rf.fail {s with at_:=k} 4,[],false) by rw[hfin];simp[h5]);have e2:((k:Int)==S)=true:=by rw[aA T,h5];simp
      clear u o J z hfin F N q t D l h5;go_wp2_with(go_at_call 105;refine(aA E).mono ?_;rintro e w1 ⟨rfl,G,a⟩;have c:=aB ((aA v).call a);have j:=a.rd.cell;have B:=a.rd.frozen;have p:=a.rd.lt;clear a;unfold aF at j)
      go_quiet(fail)
      go_wp2_with(first
       |(go_at_call 116;refine(aA Y _).mono ?_;rintro e w' ⟨rfl,C⟩;obtain rfl:=C.symm)
       |(go_at_call 83;refine(bW ((aA c).drewN _).rd 4).mono ?_;rintro e w2 ⟨rfl,K,x⟩))
      go_ret2;rw[aA i];exact⟨rfl,K,((aA c).drewN _).call x⟩
     have i:=aB (show m=({s with at_:=k+1},lW n,true) by rw[hfin];simp[h5]);have e2:((k:Int)==S)=false:=by rw[aA T];simp;omega
     have H:wrap64 ((k:Int)+1)=((k+1:Nat):Int):=by unfold wrap64;omega
     have HW:=aB (fun w=>qJ n q t w);clear u o J z hfin F N q t D l h5;go_wp2_with(go_at_call 105;refine(aA E).mono ?_;rintro e w1 ⟨rfl,G,a⟩;have c:=aB ((aA v).call a);have j:=a.rd.cell;have B:=a.rd.frozen;have p:=a.rd.lt;clear a;unfold aF at j)
     go_quiet(fail)
     go_wp2_with(first
      |(go_at_call 116;refine(aA Y _).mono ?_;rintro e w' ⟨rfl,C⟩;obtain rfl:=C.symm)
      |(go_at_call 228;refine(aA HW _).mono ?_;rintro e w2 ⟨rfl,a0⟩;have a8:=aB a0;clear a0))
     go_ret2;rw[aA i];exact⟨rfl,G,(((aA c).drewN _).store 5 _ {s with at_:=k+1} (by simp[aF]) rfl rfl rfl).below (aA a8)⟩
   have e1:((y.toNat:Int)==59)=false:=by simpa using D
   rw[wu (r:={s with at_:=k}) z (by rw[F];exact D)]at hfin;rw[F]at hfin;have HD:=aB (fun w=>vX (y.toNat:Int) l.1 l.2 16 (by decide) w);have M:=PO (y.toNat:Int) 16 l.1 l.2 (by decide);generalize Rf.digit (y.toNat:Int) 16=d at *;have af:wrap64 (n*16)=n*16:=by unfold wrap64;omega
   have a9:wrap64 (n*16+d)=n*16+d:=by unfold wrap64;omega
   cases e3:decide (d<0)with
   |true=>
    have i:=aB (show m=(Rf.fail {s with at_:=k} 4,[],false) by rw[hfin,e3];rfl);clear u o J z hfin F N q t D l M;go_wp2_with(go_at_call 105;refine(aA E).mono ?_;rintro e w1 ⟨rfl,G,a⟩;have c:=aB ((aA v).call a);have j:=a.rd.cell;have B:=a.rd.frozen;have p:=a.rd.lt;clear a;unfold aF at j)
    go_quiet(fail)
    go_wp2_with(first
     |(go_at_call 227;refine(aA HD _).mono ?_;rintro e w' ⟨rfl,C⟩;obtain rfl:=C.symm)
     |(go_at_call 83;refine(bW ((aA c).drewN _).rd 4).mono ?_;rintro e w2 ⟨rfl,K,x⟩))
    go_ret2;rw[aA i];exact⟨rfl,K,((aA c).drewN _).call x⟩
   |false=>
    cases e4:decide (1114111<n*16+d)with
    |true=>
     have i:=aB (show m=(Rf.fail {s with at_:=k} 4,[],false) by rw[hfin,e3,e4];rfl);clear u o J z hfin F N q t D l M;go_wp2_with(go_at_call 105;refine(aA E).mono ?_;rintro e w1 ⟨rfl,G,a⟩;have c:=aB ((aA v).call a);have j:=a.rd.cell;have B:=a.rd.frozen;have p:=a.rd.lt;clear a;unfold aF at j)
     go_quiet(fail)
     go_wp2_with(first
      |(go_at_call 227;refine(aA HD _).mono ?_;rintro e w' ⟨rfl,C⟩;obtain rfl:=C.symm)
      |(go_at_call 83;refine(bW ((aA c).drewN _).rd 4).mono ?_;rintro e w2 ⟨rfl,K,x⟩))
     go_ret2;rw[aA i];exact⟨rfl,K,((aA c).drewN _).call x⟩
    |false=>
     have i:=aB (show m=dG 16 (s.at_+2) f {s with at_:=k+1} (n*16+d) by rw[hfin,e3,e4];rfl);have H:wrap64 ((k:Int)+1)=((k+1:Nat):Int):=by unfold wrap64;omega
     have HZ:Hid (0≤n*16+d∧n*16+d≤1114111):=⟨by simp at e3;omega,by simp at e4;omega⟩;clear u o J z hfin F N q t D l M;go_wp2_with(go_at_call 105;refine(aA E).mono ?_;rintro e w1 ⟨rfl,G,a⟩;have c:=aB ((aA v).call a);have j:=a.rd.cell;have B:=a.rd.frozen;have p:=a.rd.lt;clear a;unfold aF at j)
     go_quiet(fail)
     go_wp2_with(go_at_call 227;refine(aA HD _).mono ?_;rintro e w' ⟨rfl,C⟩;obtain rfl:=C.symm)
     go_roundg f
     case measure=>omega
     case rel=>exact⟨k+1,n*16+d,G,by rw[a9],(aA HZ).1,(aA HZ).2,aA i,by have:=(aA X).1;omega,by have:=aA a7;omega,by have:=(aA X).2.2;omega,((aA c).drewN _).store 5 _ {s with at_:=k+1} (by simp[aF]) rfl rfl rfl⟩
  rw[show Rf.ends {s with at_:=k}=({s with at_:=k,stop:=1},true) by simp[Rf.ends,z]]at E;rw[v_ (r:={s with at_:=k}) z]at hfin;have i:=aB hfin;clear hfin;go_wp2_with(go_at_call 105;refine(aA E).mono ?_;rintro e w1 ⟨rfl,G,a⟩)
  go_ret2;rw[aA i];exact⟨rfl,G,(aA v).call a⟩
theorem I_(h:aI w b s L)(hl:bT s)(hi:s.at_<s.s.length)(ad:s.s.length≤100000000)(hx:s.at_+1<s.s.length)(N:s.byte (s.at_+1)≠120):Calls Tryz.prog 209 #[.pointer (some ⟨b,0,none⟩)] w (kM w b s L (dG 10 (s.at_+1) (s.s.length+1) {s with at_:=s.at_+1} 0)):=by
 have HM:=aB h;have HL:=aB hl;have h1:=hl.len;obtain⟨m,A⟩:∃m,m=dG 10 (s.at_+1) (s.s.length+1) {s with at_:=s.at_+1} 0:=⟨_,rfl⟩;rw[←A];have a1:=h.lt;have hc:=h.cell;have hf:=h.frozen;unfold aF at hc;have HF:=aB A;clear h A hl;have a2:wrap64 ((s.at_:Int)+1)=((s.at_+1:Nat):Int):=by unfold wrap64;omega
 obtain⟨y1,O,P,a3⟩:=bH s (s.at_+1) hx;have e1:decide ((s.at_:Int)+1<(s.s.length:Int))=true:=by simp;omega
 have a4:(s.at_:Int)+1<(s.s.length:Int):=by omega
 have a5:((s.at_:Int)+1).toNat=s.at_+1:=by omega
 have e2:((y1.toNat:Int)==120)=false:=by rw[←O];simpa using N
 have H:Hid (∀n,aL w b (aR s L) ((w.setCell ⟨b,5,none⟩ (.int .i64 ((s.at_:Int)+1))).drewN n) {s with at_:=s.at_+1} L):=fun n=>((aA HM).start.store 5 _ {s with at_:=s.at_+1} (by simp[aF]) rfl rfl rfl).drewN n
 clear N O a3;go_enter func209,ntmps209
 go_wp2
 go_quiet(fail)
 go_wp2_with fail
 generalize Q:(s.at_:Int)+1=R at H⊢;have S:Hid (R=((s.at_+1:Nat):Int)):=(show R=_ by rw[←Q];simp;try omega);clear Q;go_loopg [6] (s.s.length+1) (fun g s6 wx=>∃(k:Nat) (n:Int) (L1:aH),s6=.int .i64 n∧0≤n∧n≤1114111∧m=dG 10 (s.at_+1) g {s with at_:=k} n∧s.at_+1≤k∧k≤s.s.length∧s.s.length - k<g∧aL w b (aR s L) wx {s with at_:=k} L1)
 case atStart=>exact⟨s.at_+1,0,L,rfl,by decide,by decide,aA HF,Nat.le_refl _,by omega,by omega,aA H _⟩
 case round=>
  obtain⟨k,n,L1,rfl,q,t,hfin,u,o,I,hm⟩:=hrel;obtain⟨f,rfl⟩:∃f,gk=f+1:=⟨gk - 1,by omega⟩;have a6:bT {s with at_:=k}:=⟨(aA HL).len,o,(aA HL).t0,(aA HL).t1⟩;have E:=aB (gy hm.rd a6);have v:=aB hm;have ab:=hm.rd.lt;have T:=aB (And.intro u (And.intro o I));clear hm hc hf a1 HF HM H a2 hi hx P e1 a4 a5 e2;by_cases z:k<s.s.length
  .rw[show Rf.ends {s with at_:=k}=({s with at_:=k},false) by simp[Rf.ends,z]]at E;obtain⟨y,F,ae,M⟩:=bH {s with at_:=k} k z;have af:(k:Int)<(s.s.length:Int):=by omega
   have l:=lZ y;have a7:=aB z;by_cases D:(y.toNat:Int)=59
   .have e1:((y.toNat:Int)==59)=true:=by simpa using D
    rw[wm (r:={s with at_:=k}) z (by rw[F];exact D)]at hfin;have X:=aB (fun w=>qH n n w);cases Y:Rf.some_ n n with
    |false=>
     rw[Y]at X hfin;have i:=aB (show m=(Rf.fail {s with at_:=k} 4,[],false) by rw[hfin];simp);cases e2:((k:Int)==R);all_goals
      clear u o I z hfin F M q t D l;go_wp2_with(go_at_call 105;refine(aA E).mono ?_;rintro e w1 ⟨rfl,G,a⟩;have c:=aB ((aA v).call a);have j:=a.rd.cell;have B:=a.rd.frozen;have p:=a.rd.lt;clear a;unfold aF at j)
      go_quiet(fail)
      go_wp2_with(first
       |(go_at_call 116;refine(aA X _).mono ?_;rintro e w' ⟨rfl,C⟩;obtain rfl:=C.symm)
       |(go_at_call 83;refine(bW ((aA c).drewN _).rd 4).mono ?_;rintro e w2 ⟨rfl,J,x⟩))
      go_ret2;rw[aA i];exact⟨rfl,J,((aA c).drewN _).call x⟩
    |true=>
     rw[Y]at X hfin;by_cases Z:k=s.at_+1
     .have i:=aB (show m=(Rf.fail {s with at_:=k} 4,[],false) by rw[hfin];simp[Z]);have e2:((k:Int)==R)=true:=by rw[aA S,Z];simp
      clear u o I z hfin F M q t D l Z;go_wp2_with(go_at_call 105;refine(aA E).mono ?_;rintro e w1 ⟨rfl,G,a⟩;have c:=aB ((aA v).call a);have j:=a.rd.cell;have B:=a.rd.frozen;have p:=a.rd.lt;clear a;unfold aF at j)
      go_quiet(fail)
      go_wp2_with(first
       |(go_at_call 116;refine(aA X _).mono ?_;rintro e w' ⟨rfl,C⟩;obtain rfl:=C.symm)
       |(go_at_call 83;refine(bW ((aA c).drewN _).rd 4).mono ?_;rintro e w2 ⟨rfl,J,x⟩))
      go_ret2;rw[aA i];exact⟨rfl,J,((aA c).drewN _).call x⟩
     have i:=aB (show m=({s with at_:=k+1},lW n,true) by rw[hfin];simp[Z]);have e2:((k:Int)==R)=false:=by rw[aA S];simp;omega
     have a8:wrap64 ((k:Int)+1)=((k+1:Nat):Int):=by unfold wrap64;omega
     have HW:=aB (fun w=>qJ n q t w);clear u o I z hfin F M q t D l Z;go_wp2_with(go_at_call 105;refine(aA E).mono ?_;rintro e w1 ⟨rfl,G,a⟩;have c:=aB ((aA v).call a);have j:=a.rd.cell;have B:=a.rd.frozen;have p:=a.rd.lt;clear a;unfold aF at j)
     go_quiet(fail)
     go_wp2_with(first
      |(go_at_call 116;refine(aA X _).mono ?_;rintro e w' ⟨rfl,C⟩;obtain rfl:=C.symm)
      |(go_at_call 228;refine(aA HW _).mono ?_;rintro e w2 ⟨rfl,a0⟩;have a9:=aB a0;clear a0))
     go_ret2;rw[aA i];exact⟨rfl,G,(((aA c).drewN _).store 5 _ {s with at_:=k+1} (by simp[aF]) rfl rfl rfl).below (aA a9)⟩
   have e1:((y.toNat:Int)==59)=false:=by simpa using D
   rw[wu (r:={s with at_:=k}) z (by rw[F];exact D)]at hfin;rw[F]at hfin;have HD:=aB (fun w=>vX (y.toNat:Int) l.1 l.2 10 (by decide) w);have K:=PO (y.toNat:Int) 10 l.1 l.2 (by decide);generalize Rf.digit (y.toNat:Int) 10=d at *;have ag:wrap64 (n*10)=n*10:=by unfold wrap64;omega
   have aa:wrap64 (n*10+d)=n*10+d:=by unfold wrap64;omega
   cases e3:decide (d<0)with
   |true=>
    have i:=aB (show m=(Rf.fail {s with at_:=k} 4,[],false) by rw[hfin,e3];rfl);clear u o I z hfin F M q t D l K;go_wp2_with(go_at_call 105;refine(aA E).mono ?_;rintro e w1 ⟨rfl,G,a⟩;have c:=aB ((aA v).call a);have j:=a.rd.cell;have B:=a.rd.frozen;have p:=a.rd.lt;clear a;unfold aF at j)
    go_quiet(fail)
    go_wp2_with(first
     |(go_at_call 227;refine(aA HD _).mono ?_;rintro e w' ⟨rfl,C⟩;obtain rfl:=C.symm)
     |(go_at_call 83;refine(bW ((aA c).drewN _).rd 4).mono ?_;rintro e w2 ⟨rfl,J,x⟩))
    go_ret2;rw[aA i];exact⟨rfl,J,((aA c).drewN _).call x⟩
   |false=>
    cases e4:decide (1114111<n*10+d)with
    |true=>
     have i:=aB (show m=(Rf.fail {s with at_:=k} 4,[],false) by rw[hfin,e3,e4];rfl);clear u o I z hfin F M q t D l K;go_wp2_with(go_at_call 105;refine(aA E).mono ?_;rintro e w1 ⟨rfl,G,a⟩;have c:=aB ((aA v).call a);have j:=a.rd.cell;have B:=a.rd.frozen;have p:=a.rd.lt;clear a;unfold aF at j)
     go_quiet(fail)
     go_wp2_with(first
      |(go_at_call 227;refine(aA HD _).mono ?_;rintro e w' ⟨rfl,C⟩;obtain rfl:=C.symm)
      |(go_at_call 83;refine(bW ((aA c).drewN _).rd 4).mono ?_;rintro e w2 ⟨rfl,J,x⟩))
     go_ret2;rw[aA i];exact⟨rfl,J,((aA c).drewN _).call x⟩
    |false=>
     have i:=aB (show m=dG 10 (s.at_+1) f {s with at_:=k+1} (n*10+d) by rw[hfin,e3,e4];rfl);have a8:wrap64 ((k:Int)+1)=((k+1:Nat):Int):=by unfold wrap64;omega
     have HZ:Hid (0≤n*10+d∧n*10+d≤1114111):=⟨by simp at e3;omega,by simp at e4;omega⟩;clear u o I z hfin F M q t D l K;go_wp2_with(go_at_call 105;refine(aA E).mono ?_;rintro e w1 ⟨rfl,G,a⟩;have c:=aB ((aA v).call a);have j:=a.rd.cell;have B:=a.rd.frozen;have p:=a.rd.lt;clear a;unfold aF at j)
     go_quiet(fail)
     go_wp2_with(go_at_call 227;refine(aA HD _).mono ?_;rintro e w' ⟨rfl,C⟩;obtain rfl:=C.symm)
     go_roundg f
     case measure=>omega
     case rel=>exact⟨k+1,n*10+d,G,by rw[aa],(aA HZ).1,(aA HZ).2,aA i,by have:=(aA T).1;omega,by have:=aA a7;omega,by have:=(aA T).2.2;omega,((aA c).drewN _).store 5 _ {s with at_:=k+1} (by simp[aF]) rfl rfl rfl⟩
  rw[show Rf.ends {s with at_:=k}=({s with at_:=k,stop:=1},true) by simp[Rf.ends,z]]at E;rw[v_ (r:={s with at_:=k}) z]at hfin;have i:=aB hfin;clear hfin;go_wp2_with(go_at_call 105;refine(aA E).mono ?_;rintro e w1 ⟨rfl,G,a⟩)
  go_ret2;rw[aA i];exact⟨rfl,G,(aA v).call a⟩
theorem Ja(h:aI w b s L)(hl:bT s)(hi:s.at_<s.s.length)(a8:s.s.length≤100000000)(hx:¬s.at_+1<s.s.length):Calls Tryz.prog 209 #[.pointer (some ⟨b,0,none⟩)] w (kM w b s L (dG 10 (s.at_+1) (s.s.length+1) {s with at_:=s.at_+1} 0)):=by
 have HM:=aB h;have HL:=aB hl;have h1:=hl.len;obtain⟨m,A⟩:∃m,m=dG 10 (s.at_+1) (s.s.length+1) {s with at_:=s.at_+1} 0:=⟨_,rfl⟩;rw[←A];have a0:=h.lt;have hc:=h.cell;have hf:=h.frozen;unfold aF at hc;have HF:=aB A;clear h A hl;have a1:wrap64 ((s.at_:Int)+1)=((s.at_+1:Nat):Int):=by unfold wrap64;omega
 have e1:decide ((s.at_:Int)+1<(s.s.length:Int))=false:=by simp;omega
 have H:Hid (∀n,aL w b (aR s L) ((w.setCell ⟨b,5,none⟩ (.int .i64 ((s.at_:Int)+1))).drewN n) {s with at_:=s.at_+1} L):=fun n=>((aA HM).start.store 5 _ {s with at_:=s.at_+1} (by simp[aF]) rfl rfl rfl).drewN n
 go_enter func209,ntmps209
 go_wp2
 go_quiet(fail)
 go_wp2_with fail
 generalize N:(s.at_:Int)+1=O at H⊢;have P:Hid (O=((s.at_+1:Nat):Int)):=(show O=_ by rw[←N];simp;try omega);clear N;go_loopg [6] (s.s.length+1) (fun g s6 wx=>∃(k:Nat) (n:Int) (L1:aH),s6=.int .i64 n∧0≤n∧n≤1114111∧m=dG 10 (s.at_+1) g {s with at_:=k} n∧s.at_+1≤k∧k≤s.s.length∧s.s.length - k<g∧aL w b (aR s L) wx {s with at_:=k} L1)
 case atStart=>exact⟨s.at_+1,0,L,rfl,by decide,by decide,aA HF,Nat.le_refl _,by omega,by omega,aA H _⟩
 case round=>
  obtain⟨k,n,L1,rfl,q,t,hfin,u,o,I,Y⟩:=hrel;obtain⟨f,rfl⟩:∃f,gk=f+1:=⟨gk - 1,by omega⟩;have a2:bT {s with at_:=k}:=⟨(aA HL).len,o,(aA HL).t0,(aA HL).t1⟩;have E:=aB (gy Y.rd a2);have v:=aB Y;have a7:=Y.rd.lt;have Q:=aB (And.intro u (And.intro o I));clear Y hc hf a0 HF HM H a1 hi hx e1;by_cases z:k<s.s.length
  .rw[show Rf.ends {s with at_:=k}=({s with at_:=k},false) by simp[Rf.ends,z]]at E;obtain⟨y,F,a9,M⟩:=bH {s with at_:=k} k z;have aa:(k:Int)<(s.s.length:Int):=by omega
   have l:=lZ y;have a3:=aB z;by_cases D:(y.toNat:Int)=59
   .have e1:((y.toNat:Int)==59)=true:=by simpa using D
    rw[wm (r:={s with at_:=k}) z (by rw[F];exact D)]at hfin;have R:=aB (fun w=>qH n n w);cases S:Rf.some_ n n with
    |false=>
     rw[S]at R hfin;have i:=aB (show m=(Rf.fail {s with at_:=k} 4,[],false) by rw[hfin];simp);cases e2:((k:Int)==O);all_goals
      clear u o I z hfin F M q t D l;go_wp2_with(go_at_call 105;refine(aA E).mono ?_;rintro e w1 ⟨rfl,G,a⟩;have c:=aB ((aA v).call a);have j:=a.rd.cell;have B:=a.rd.frozen;have p:=a.rd.lt;clear a;unfold aF at j)
      go_quiet(fail)
      go_wp2_with(first
       |(go_at_call 116;refine(aA R _).mono ?_;rintro e w' ⟨rfl,C⟩;obtain rfl:=C.symm)
       |(go_at_call 83;refine(bW ((aA c).drewN _).rd 4).mono ?_;rintro e w2 ⟨rfl,J,x⟩))
      go_ret2;rw[aA i];exact⟨rfl,J,((aA c).drewN _).call x⟩
    |true=>
     rw[S]at R hfin;by_cases T:k=s.at_+1
     .have i:=aB (show m=(Rf.fail {s with at_:=k} 4,[],false) by rw[hfin];simp[T]);have e2:((k:Int)==O)=true:=by rw[aA P,T];simp
      clear u o I z hfin F M q t D l T;go_wp2_with(go_at_call 105;refine(aA E).mono ?_;rintro e w1 ⟨rfl,G,a⟩;have c:=aB ((aA v).call a);have j:=a.rd.cell;have B:=a.rd.frozen;have p:=a.rd.lt;clear a;unfold aF at j)
      go_quiet(fail)
      go_wp2_with(first
       |(go_at_call 116;refine(aA R _).mono ?_;rintro e w' ⟨rfl,C⟩;obtain rfl:=C.symm)
       |(go_at_call 83;refine(bW ((aA c).drewN _).rd 4).mono ?_;rintro e w2 ⟨rfl,J,x⟩))
      go_ret2;rw[aA i];exact⟨rfl,J,((aA c).drewN _).call x⟩
     have i:=aB (show m=({s with at_:=k+1},lW n,true) by rw[hfin];simp[T]);have e2:((k:Int)==O)=false:=by rw[aA P];simp;omega
     have a4:wrap64 ((k:Int)+1)=((k+1:Nat):Int):=by unfold wrap64;omega
     have HW:=aB (fun w=>qJ n q t w);clear u o I z hfin F M q t D l T;go_wp2_with(go_at_call 105;refine(aA E).mono ?_;rintro e w1 ⟨rfl,G,a⟩;have c:=aB ((aA v).call a);have j:=a.rd.cell;have B:=a.rd.frozen;have p:=a.rd.lt;clear a;unfold aF at j)
     go_quiet(fail)
     go_wp2_with(first
      |(go_at_call 116;refine(aA R _).mono ?_;rintro e w' ⟨rfl,C⟩;obtain rfl:=C.symm)
      |(go_at_call 228;refine(aA HW _).mono ?_;rintro e w2 ⟨rfl,X⟩;have a5:=aB X;clear X))
     go_ret2;rw[aA i];exact⟨rfl,G,(((aA c).drewN _).store 5 _ {s with at_:=k+1} (by simp[aF]) rfl rfl rfl).below (aA a5)⟩
   have e1:((y.toNat:Int)==59)=false:=by simpa using D
   rw[wu (r:={s with at_:=k}) z (by rw[F];exact D)]at hfin;rw[F]at hfin;have HD:=aB (fun w=>vX (y.toNat:Int) l.1 l.2 10 (by decide) w);have K:=PO (y.toNat:Int) 10 l.1 l.2 (by decide);generalize Rf.digit (y.toNat:Int) 10=d at *;have ab:wrap64 (n*10)=n*10:=by unfold wrap64;omega
   have a6:wrap64 (n*10+d)=n*10+d:=by unfold wrap64;omega
   cases Z:decide (d<0)with
   |true=>
    have i:=aB (show m=(Rf.fail {s with at_:=k} 4,[],false) by rw[hfin,Z];rfl);clear u o I z hfin F M q t D l K;go_wp2_with(go_at_call 105;refine(aA E).mono ?_;rintro e w1 ⟨rfl,G,a⟩;have c:=aB ((aA v).call a);have j:=a.rd.cell;have B:=a.rd.frozen;have p:=a.rd.lt;clear a;unfold aF at j)
    go_quiet(fail)
    go_wp2_with(first
     |(go_at_call 227;refine(aA HD _).mono ?_;rintro e w' ⟨rfl,C⟩;obtain rfl:=C.symm)
     |(go_at_call 83;refine(bW ((aA c).drewN _).rd 4).mono ?_;rintro e w2 ⟨rfl,J,x⟩))
    go_ret2;rw[aA i];exact⟨rfl,J,((aA c).drewN _).call x⟩
   |false=>
    cases e4:decide (1114111<n*10+d)with
    |true=>
     have i:=aB (show m=(Rf.fail {s with at_:=k} 4,[],false) by rw[hfin,Z,e4];rfl);clear u o I z hfin F M q t D l K;go_wp2_with(go_at_call 105;refine(aA E).mono ?_;rintro e w1 ⟨rfl,G,a⟩;have c:=aB ((aA v).call a);have j:=a.rd.cell;have B:=a.rd.frozen;have p:=a.rd.lt;clear a;unfold aF at j)
     go_quiet(fail)
     go_wp2_with(first
      |(go_at_call 227;refine(aA HD _).mono ?_;rintro e w' ⟨rfl,C⟩;obtain rfl:=C.symm)
      |(go_at_call 83;refine(bW ((aA c).drewN _).rd 4).mono ?_;rintro e w2 ⟨rfl,J,x⟩))
     go_ret2;rw[aA i];exact⟨rfl,J,((aA c).drewN _).call x⟩
    |false=>
     have i:=aB (show m=dG 10 (s.at_+1) f {s with at_:=k+1} (n*10+d) by rw[hfin,Z,e4];rfl);have a4:wrap64 ((k:Int)+1)=((k+1:Nat):Int):=by unfold wrap64;omega
     have HZ:Hid (0≤n*10+d∧n*10+d≤1114111):=⟨by simp at Z;omega,by simp at e4;omega⟩;clear u o I z hfin F M q t D l K;go_wp2_with(go_at_call 105;refine(aA E).mono ?_;rintro e w1 ⟨rfl,G,a⟩;have c:=aB ((aA v).call a);have j:=a.rd.cell;have B:=a.rd.frozen;have p:=a.rd.lt;clear a;unfold aF at j)
     go_quiet(fail)
     go_wp2_with(go_at_call 227;refine(aA HD _).mono ?_;rintro e w' ⟨rfl,C⟩;obtain rfl:=C.symm)
     go_roundg f
     case measure=>omega
     case rel=>exact⟨k+1,n*10+d,G,by rw[a6],(aA HZ).1,(aA HZ).2,aA i,by have:=(aA Q).1;omega,by have:=aA a3;omega,by have:=(aA Q).2.2;omega,((aA c).drewN _).store 5 _ {s with at_:=k+1} (by simp[aF]) rfl rfl rfl⟩
  rw[show Rf.ends {s with at_:=k}=({s with at_:=k,stop:=1},true) by simp[Rf.ends,z]]at E;rw[v_ (r:={s with at_:=k}) z]at hfin;have i:=aB hfin;clear hfin;go_wp2_with(go_at_call 105;refine(aA E).mono ?_;rintro e w1 ⟨rfl,G,a⟩)
  go_ret2;rw[aA i];exact⟨rfl,G,(aA v).call a⟩
theorem Jb(h:aI w b s L)(f:bT s)(g:s.at_<s.s.length)(c:s.s.length≤100000000):Calls Tryz.prog 209 #[.pointer (some ⟨b,0,none⟩)] w (kM w b s L (Rf.number s)):=by
 by_cases d:s.at_+1<s.s.length
 .by_cases a:s.byte (s.at_+1)=120
  .have e:Rf.number s=dG 16 (s.at_+2) (s.s.length+1) {s with at_:=s.at_+2} 0:=by
    unfold Rf.number;rw[if_pos (by simp[d];exact a)]
   rw[e];exact Rs h f g c d a
  have e:Rf.number s=dG 10 (s.at_+1) (s.s.length+1) {s with at_:=s.at_+1} 0:=by
   unfold Rf.number;rw[if_neg (by simp[d];exact a)]
  rw[e];exact I_ h f g c d a
 have e:Rf.number s=dG 10 (s.at_+1) (s.s.length+1) {s with at_:=s.at_+1} 0:=by
  unfold Rf.number;rw[if_neg (by simp[d])]
 rw[e];exact Ja h f g c d
end
end Go.Proofs.YtmgfijllcdadgaaGreatDoor.V
