import Derived.Test.YtmgfijllcdadgaaGreatDoorNW19
set_option linter.unusedVariables false
set_option linter.unusedSimpArgs false
set_option maxHeartbeats 8000000
set_option maxRecDepth 100000
namespace Go.Proofs.YtmgfijllcdadgaaGreatDoor.V
open Go.RowKit
open Mk (Bs Ev aD)
open Rf (R)
open Go.Proofs.Tryz
open Rf (dZ aP jO)
theorem tH{r:R}(h:(Rf.word r).2.2=true):∃k,(Rf.word r).1={r with at_:=r.at_+k}∧r.at_+k<r.s.length∧(Rf.word r).2.1=(r.s.drop r.at_).take k:=by
 unfold Rf.word at h⊢;simp only at h⊢;split at h
 .cases h
 rename_i b;rw[if_neg b];have a:=sW (r:={r with at_:=r.at_+Rf.run Rf.eY (r.s.drop r.at_)}) (by simpa using h);exact⟨_,a.1,a.2,rfl⟩
def qN(r:R)(nm:Bs):R×Bool:=
 if r.byte r.at_ !=63&& !Rf.cB (r.byte r.at_)then(Rf.fail r 3,false)
 else if Rf.jq nm then(Rf.fail r 3,false)
 else if r.on&&Rf.dN nm then(Rf.fail r 8,false)
 else if r.byte r.at_==63 then
  (if(Rf.must {r with at_:=r.at_+1} 62).2 then Rf.tell (Rf.must {r with at_:=r.at_+1} 62).1 ⟨5,nm,[],[],[]⟩else(Rf.must {r with at_:=r.at_+1} 62).1,(Rf.must {r with at_:=r.at_+1} 62).2)
 else dZ nm (r.s.length+1) (aP r) [] 0
theorem Qm(r:R):jO r=if r.at_<r.s.length then(if !Rf.eC (r.byte r.at_)then(Rf.fail r 3,false)else if !(Rf.word r).2.2 then((Rf.word r).1,false)else qN (Rf.word r).1 (Rf.word r).2.1)else({r with stop:=1},false):=rfl
section
variable {w w' :World}{b:Nat}{s:R}{L:aH}
theorem Qn(h:aI w b s L)(hl:bT s)(hev:s.events.length≤4*s.at_+100)(G:s.s.length≤100000000):Calls Tryz.prog 106 #[.pointer (some ⟨b,0,none⟩)] w (iC w b s L (jO s)):=by
 have HM:=aB h;have HL:=aB hl;have C:=aB (gy h hl);obtain⟨t,a⟩:∃t,t=jO s:=⟨_,rfl⟩;rw[←a];rw[Qm]at a;have ai:=h.lt;have h2:=hl.at_;clear h hl;by_cases h3:s.at_<s.s.length
 .rw[if_pos h3]at a;rw[show Rf.ends s=(s,false) by simp[Rf.ends,h3]]at C;obtain⟨y,hb,aj,hy⟩:=bH s s.at_ h3;have ak:(s.at_:Int)<(s.s.length:Int):=by omega
  rw[hb]at a;have F:=aB (fun w=>pz (y.toNat:Int) w);cases h4:Rf.eC (y.toNat:Int)
  .rw[h4]at F a;have v:=aB (show t=(Rf.fail s 3,false)from a);clear a hb hy hev G;go_enter func106,ntmps106
   go_wp2_with(go_at_call 105;refine(aA C).mono ?_;rintro e w1 ⟨rfl,H,c⟩;have f:=aB c;have l:=c.rd.cell;have x:=c.rd.frozen;have q:=c.rd.lt;clear c;unfold aF at l)
   go_quiet((go_at_call 82;refine Calls.quiet_of_same (aA F _)))
   go_wp2_with(go_at_call 83;refine(bW ((aA f).drewN _).rd 3).mono ?_;rintro e w2 ⟨rfl,I,d⟩)
   go_ret;rw[aA v];exact⟨rfl,I,((aA f).drewN _).call d⟩
  rw[h4]at F a;simp only[Bool.not_true,Bool.false_eq_true,if_false]at a;have O:=aB (fun(W:World) (L' :aH) (P:aI W b s L')=>pF P (aA HL));have X:=tH (r:=s);generalize a3:Rf.word s=wd at *;obtain⟨i,nm,o⟩:=wd;cases o with
  |false=>
   have v:=aB (show t=(i,false)from a);clear a hb hy hev G X a3;go_enter func106,ntmps106
   go_wp2_with(go_at_call 105;refine(aA C).mono ?_;rintro e w1 ⟨rfl,H,c⟩;have f:=aB c;have l:=c.rd.cell;have x:=c.rd.frozen;have q:=c.rd.lt;clear c;unfold aF at l)
   go_quiet((go_at_call 82;refine Calls.quiet_of_same (aA F _)))
   go_wp2_with(go_at_call 109;refine(aA O _ _ ((aA f).drewN _).rd).mono ?_;rintro e w2 ⟨rfl,I,d⟩)
   go_ret;rw[aA v];exact⟨rfl,I,((aA f).drewN _).call d⟩
  |true=>
   obtain⟨k,D,hk,Y⟩:=X rfl;simp only at D Y a;have a:t=qN i nm:=a;have J:bT i:=by rw[D];exact⟨(aA HL).len,by simp;omega,(aA HL).t0,(aA HL).t1⟩
   have a4:i.s=s.s:=by rw[D]
   have ag:i.events.length≤4*i.at_+100:=by rw[D];simp;omega
   have a5:i.at_<i.s.length:=by rw[D];exact hk
   have Z:nm.length≤100000000:=by rw[Y,List.length_take,List.length_drop];omega
   have a6:i.s.length≤100000000:=by rw[a4];exact G
   obtain⟨y2,a7,ah,ab⟩:=bH i i.at_ a5;have al:(i.at_:Int)<(i.s.length:Int):=by omega
   have z:=aB (fun w=>qG (y2.toNat:Int) w);have Q:=aB (fun w=>sJ nm Z w);have A:=aB (fun w=>JH nm Z w);have K:=aB J;unfold qN at a;rw[a7]at a;obtain⟨sp,h7⟩:∃sp,Rf.cB (y2.toNat:Int)=sp:=⟨_,rfl⟩;obtain⟨xm,h8⟩:∃xm,Rf.jq nm=xm:=⟨_,rfl⟩;obtain⟨R,h9⟩:∃R,Rf.dN nm=R:=⟨_,rfl⟩;obtain⟨on,M⟩:∃on,i.on=on:=⟨_,rfl⟩;rw[h7]at z a;rw[h8]at Q a;rw[h9]at A a;clear X a3 D Y hk hb hy a7 ab hev G Z h2 a4 h7 h8 h9;by_cases h6:(y2.toNat:Int)=63
   .have e1:((y2.toNat:Int) !=63)=false:=by simpa using h6
    have e2:((y2.toNat:Int)==63)=true:=by simpa using h6
    rw[e1,e2]at a;simp only[Bool.false_and,Bool.false_eq_true,if_false,if_true]at a;clear h6;cases xm with
    |true=>
     have v:=aB (show t=(Rf.fail i 3,false)from a);clear a;go_enter func106,ntmps106
     go_wp2_with(go_at_call 105;refine(aA C).mono ?_;rintro e w1 ⟨rfl,H,c⟩;have f:=aB c;have l:=c.rd.cell;have x:=c.rd.frozen;have q:=c.rd.lt;clear c;unfold aF at l)
     go_quiet((go_at_call 82;refine Calls.quiet_of_same (aA F _)))
     go_wp2_with(go_at_call 109;refine(aA O _ _ ((aA f).drewN _).rd).mono ?_;rintro e w2 ⟨rfl,I,d⟩;have g:=aB (((aA f).drewN _).call d);have hc3:=d.rd.cell;have B:=d.rd.frozen;have u:=d.rd.lt;clear d;unfold aF at hc3)
     go_quiet(fail)
     go_wp2_with(first
      |(go_at_call 149;refine(aA z _).mono ?_;rintro e w' ⟨rfl,p⟩;obtain rfl:=p.symm)
      |(go_at_call 150;refine(aA Q _).mono ?_;rintro e w' ⟨rfl,m,rfl⟩)
      |(go_at_call 151;refine(aA A _).mono ?_;rintro e w' ⟨rfl,p⟩;obtain rfl:=p.symm)
      |(go_at_call 83;refine(bW ((aA g).drewN _).rd 3).mono ?_;rintro e w3 ⟨rfl,E,n⟩))
     go_ret;rw[aA v];exact⟨rfl,E,((aA g).drewN _).call n⟩
    |false=>
     simp only[Bool.false_eq_true,if_false]at a;by_cases j:(i.on&&R)=true
     .rw[if_pos j]at a;have v:=aB a;clear a;obtain⟨rfl,rfl⟩:on=true∧R=true:=by rw[M]at j;simpa using j
      clear j;go_enter func106,ntmps106
      go_wp2_with(go_at_call 105;refine(aA C).mono ?_;rintro e w1 ⟨rfl,H,c⟩;have f:=aB c;have l:=c.rd.cell;have x:=c.rd.frozen;have q:=c.rd.lt;clear c;unfold aF at l)
      go_quiet((go_at_call 82;refine Calls.quiet_of_same (aA F _)))
      go_wp2_with(go_at_call 109;refine(aA O _ _ ((aA f).drewN _).rd).mono ?_;rintro e w2 ⟨rfl,I,d⟩;have g:=aB (((aA f).drewN _).call d);have hc3:=d.rd.cell;have B:=d.rd.frozen;have u:=d.rd.lt;clear d;unfold aF at hc3)
      go_quiet(fail)
      go_wp2_with(first
       |(go_at_call 149;refine(aA z _).mono ?_;rintro e w' ⟨rfl,p⟩;obtain rfl:=p.symm)
       |(go_at_call 150;refine(aA Q _).mono ?_;rintro e w' ⟨rfl,m,rfl⟩)
       |(go_at_call 151;refine(aA A _).mono ?_;rintro e w' ⟨rfl,p⟩;obtain rfl:=p.symm)
       |(go_at_call 83;refine(bW ((aA g).drewN _).rd 8).mono ?_;rintro e w3 ⟨rfl,E,n⟩))
      go_ret;rw[aA v];exact⟨rfl,E,((aA g).drewN _).call n⟩
     rw[if_neg j]at a;have am:wrap64 ((i.at_:Int)+1)=((i.at_+1:Nat):Int):=by
      have:=J.len;unfold wrap64;omega
     have a8:=aB (fun(W:World) (L' :aH) (P:aI W b {i with at_:=i.at_+1} L')=>Py P ⟨(aA K).len,by simp;omega,(aA K).t0,(aA K).t1⟩ 62 (by decide) (by decide));have a0:=fS (r:={i with at_:=i.at_+1}) (by simp;omega) 62;generalize a9:Rf.must {i with at_:=i.at_+1} 62=mu at *;obtain⟨r2,o2⟩:=mu;cases o2 with
     |false=>
      have v:=aB (show t=(r2,false)from a);clear a a0 a9;rw[M]at j;cases on<;>cases R
      any_goals(exact absurd rfl j)
      all_goals
       clear j;go_enter func106,ntmps106
       go_wp2_with(go_at_call 105;refine(aA C).mono ?_;rintro e w1 ⟨rfl,H,c⟩;have f:=aB c;have l:=c.rd.cell;have x:=c.rd.frozen;have q:=c.rd.lt;clear c;unfold aF at l)
       go_quiet((go_at_call 82;refine Calls.quiet_of_same (aA F _)))
       go_wp2_with(go_at_call 109;refine(aA O _ _ ((aA f).drewN _).rd).mono ?_;rintro e w2 ⟨rfl,I,d⟩;have g:=aB (((aA f).drewN _).call d);have hc3:=d.rd.cell;have B:=d.rd.frozen;have u:=d.rd.lt;clear d;unfold aF at hc3)
       go_quiet(fail)
       go_wp2_with(first
        |(go_at_call 149;refine(aA z _).mono ?_;rintro e w' ⟨rfl,p⟩;obtain rfl:=p.symm)
        |(go_at_call 150;refine(aA Q _).mono ?_;rintro e w' ⟨rfl,m,rfl⟩)
        |(go_at_call 151;refine(aA A _).mono ?_;rintro e w' ⟨rfl,p⟩;obtain rfl:=p.symm)
        |(go_at_call 107;refine(aA a8 _ _ (((aA g).drewN _).store 5 _ {i with at_:=i.at_+1} (by simp[aF]) rfl rfl rfl).rd).mono ?_;rintro e w3 ⟨rfl,E,n⟩))
       go_ret;rw[aA v];exact⟨rfl,E,(((aA g).drewN _).store 5 _ {i with at_:=i.at_+1} (by simp[aF]) rfl rfl rfl).call n⟩
     |true=>
      have v:=aB (show t=(Rf.tell r2 ⟨5,nm,[],[],[]⟩,true)from a);have S:r2.events.length≤1000000000:=by
       have ad:r2={i with at_:=i.at_+1+1}:=(a0.2 rfl).1;rw[ad];show i.events.length≤1000000000;omega
      have HT:=aB (fun(W:World) (L' :aH) (P:aI W b r2 L')=>mV P ⟨5,nm,[],[],[]⟩ none 0 0 (jw ⟨rfl,rfl,rfl⟩) (fun k hk=>by cases hk) S);clear a a0 a9 S;rw[M]at j;cases on<;>cases R
      any_goals(exact absurd rfl j)
      all_goals
       clear j;go_enter func106,ntmps106
       go_wp2_with(go_at_call 105;refine(aA C).mono ?_;rintro e w1 ⟨rfl,H,c⟩;have f:=aB c;have l:=c.rd.cell;have x:=c.rd.frozen;have q:=c.rd.lt;clear c;unfold aF at l)
       go_quiet((go_at_call 82;refine Calls.quiet_of_same (aA F _)))
       go_wp2_with(go_at_call 109;refine(aA O _ _ ((aA f).drewN _).rd).mono ?_;rintro e w2 ⟨rfl,I,d⟩;have g:=aB (((aA f).drewN _).call d);have hc3:=d.rd.cell;have B:=d.rd.frozen;have u:=d.rd.lt;clear d;unfold aF at hc3)
       go_quiet(fail)
       go_wp2_with(first
        |(go_at_call 149;refine(aA z _).mono ?_;rintro e w' ⟨rfl,p⟩;obtain rfl:=p.symm)
        |(go_at_call 150;refine(aA Q _).mono ?_;rintro e w' ⟨rfl,m,rfl⟩)
        |(go_at_call 151;refine(aA A _).mono ?_;rintro e w' ⟨rfl,p⟩;obtain rfl:=p.symm)
        |(go_at_call 107;refine(aA a8 _ _ (((aA g).drewN _).store 5 _ {i with at_:=i.at_+1} (by simp[aF]) rfl rfl rfl).rd).mono ?_;rintro e w3 ⟨rfl,E,n⟩;have N:=aB ((((aA g).drewN _).store 5 _ {i with at_:=i.at_+1} (by simp[aF]) rfl rfl rfl).call n);clear n)
        |(go_at_call 152;refine(aA HT _ _ (aA N).rd).mono ?_;rintro e w4 ⟨rfl,L5,a1⟩))
       go_ret;rw[aA v];exact⟨rfl,L5,(aA N).call a1⟩
   have e1:((y2.toNat:Int) !=63)=true:=by simpa using h6
   have e2:((y2.toNat:Int)==63)=false:=by simpa using h6
   rw[e1,e2]at a;clear h6;cases sp with
   |false=>
    have v:=aB (show t=(Rf.fail i 3,false)from a);clear a;go_enter func106,ntmps106
    go_wp2_with(go_at_call 105;refine(aA C).mono ?_;rintro e w1 ⟨rfl,H,c⟩;have f:=aB c;have l:=c.rd.cell;have x:=c.rd.frozen;have q:=c.rd.lt;clear c;unfold aF at l)
    go_quiet((go_at_call 82;refine Calls.quiet_of_same (aA F _)))
    go_wp2_with(go_at_call 109;refine(aA O _ _ ((aA f).drewN _).rd).mono ?_;rintro e w2 ⟨rfl,I,d⟩;have g:=aB (((aA f).drewN _).call d);have hc3:=d.rd.cell;have B:=d.rd.frozen;have u:=d.rd.lt;clear d;unfold aF at hc3)
    go_quiet(fail)
    go_wp2_with(first
     |(go_at_call 149;refine(aA z _).mono ?_;rintro e w' ⟨rfl,p⟩;obtain rfl:=p.symm)
     |(go_at_call 150;refine(aA Q _).mono ?_;rintro e w' ⟨rfl,m,rfl⟩)
     |(go_at_call 151;refine(aA A _).mono ?_;rintro e w' ⟨rfl,p⟩;obtain rfl:=p.symm)
     |(go_at_call 83;refine(bW ((aA g).drewN _).rd 3).mono ?_;rintro e w3 ⟨rfl,E,n⟩))
    go_ret;rw[aA v];exact⟨rfl,E,((aA g).drewN _).call n⟩
   |true=>
    simp only[Bool.not_true,Bool.and_false,Bool.false_eq_true,if_false]at a;cases xm with
    |true=>
     have v:=aB (show t=(Rf.fail i 3,false)from a);clear a;go_enter func106,ntmps106
     go_wp2_with(go_at_call 105;refine(aA C).mono ?_;rintro e w1 ⟨rfl,H,c⟩;have f:=aB c;have l:=c.rd.cell;have x:=c.rd.frozen;have q:=c.rd.lt;clear c;unfold aF at l)
     go_quiet((go_at_call 82;refine Calls.quiet_of_same (aA F _)))
     go_wp2_with(go_at_call 109;refine(aA O _ _ ((aA f).drewN _).rd).mono ?_;rintro e w2 ⟨rfl,I,d⟩;have g:=aB (((aA f).drewN _).call d);have hc3:=d.rd.cell;have B:=d.rd.frozen;have u:=d.rd.lt;clear d;unfold aF at hc3)
     go_quiet(fail)
     go_wp2_with(first
      |(go_at_call 149;refine(aA z _).mono ?_;rintro e w' ⟨rfl,p⟩;obtain rfl:=p.symm)
      |(go_at_call 150;refine(aA Q _).mono ?_;rintro e w' ⟨rfl,m,rfl⟩)
      |(go_at_call 151;refine(aA A _).mono ?_;rintro e w' ⟨rfl,p⟩;obtain rfl:=p.symm)
      |(go_at_call 83;refine(bW ((aA g).drewN _).rd 3).mono ?_;rintro e w3 ⟨rfl,E,n⟩))
     go_ret;rw[aA v];exact⟨rfl,E,((aA g).drewN _).call n⟩
    |false=>
     simp only[Bool.false_eq_true,if_false]at a;by_cases j:(i.on&&R)=true
     .rw[if_pos j]at a;have v:=aB a;clear a;obtain⟨rfl,rfl⟩:on=true∧R=true:=by rw[M]at j;simpa using j
      clear j;go_enter func106,ntmps106
      go_wp2_with(go_at_call 105;refine(aA C).mono ?_;rintro e w1 ⟨rfl,H,c⟩;have f:=aB c;have l:=c.rd.cell;have x:=c.rd.frozen;have q:=c.rd.lt;clear c;unfold aF at l)
      go_quiet((go_at_call 82;refine Calls.quiet_of_same (aA F _)))
      go_wp2_with(go_at_call 109;refine(aA O _ _ ((aA f).drewN _).rd).mono ?_;rintro e w2 ⟨rfl,I,d⟩;have g:=aB (((aA f).drewN _).call d);have hc3:=d.rd.cell;have B:=d.rd.frozen;have u:=d.rd.lt;clear d;unfold aF at hc3)
      go_quiet(fail)
      go_wp2_with(first
       |(go_at_call 149;refine(aA z _).mono ?_;rintro e w' ⟨rfl,p⟩;obtain rfl:=p.symm)
       |(go_at_call 150;refine(aA Q _).mono ?_;rintro e w' ⟨rfl,m,rfl⟩)
       |(go_at_call 151;refine(aA A _).mono ?_;rintro e w' ⟨rfl,p⟩;obtain rfl:=p.symm)
       |(go_at_call 83;refine(bW ((aA g).drewN _).rd 8).mono ?_;rintro e w3 ⟨rfl,E,n⟩))
      go_ret;rw[aA v];exact⟨rfl,E,((aA g).drewN _).call n⟩
     rw[if_neg j]at a;have a2:=gb J.at_;have ae:=aB (fun(W:World) (L' :aH) (P:aI W b i L')=>mU P (aA K));have aa:(aP i).s=i.s:=rfl;have T:(aP i).events.length≤4* (aP i).at_+100:=by
      have:=a2.ev;omega
     have af:=aB (fun(W:World) (L' :aH) (P:aI W b (aP i) L')=>JC nm P (a2.ok (aA K)) T (by rw[aa];exact a6));have v:=aB (show t=dZ nm ((aP i).s.length+1) (aP i) [] 0 from a);clear a a2 T aa;rw[M]at j;cases on<;>cases R
     any_goals(exact absurd rfl j)
     all_goals
      clear j;go_enter func106,ntmps106
      go_wp2_with(go_at_call 105;refine(aA C).mono ?_;rintro e w1 ⟨rfl,H,c⟩;have f:=aB c;have l:=c.rd.cell;have x:=c.rd.frozen;have q:=c.rd.lt;clear c;unfold aF at l)
      go_quiet((go_at_call 82;refine Calls.quiet_of_same (aA F _)))
      go_wp2_with(go_at_call 109;refine(aA O _ _ ((aA f).drewN _).rd).mono ?_;rintro e w2 ⟨rfl,I,d⟩;have g:=aB (((aA f).drewN _).call d);have hc3:=d.rd.cell;have B:=d.rd.frozen;have u:=d.rd.lt;clear d;unfold aF at hc3)
      go_quiet(fail)
      go_wp2_with(first
       |(go_at_call 149;refine(aA z _).mono ?_;rintro e w' ⟨rfl,p⟩;obtain rfl:=p.symm)
       |(go_at_call 150;refine(aA Q _).mono ?_;rintro e w' ⟨rfl,m,rfl⟩)
       |(go_at_call 151;refine(aA A _).mono ?_;rintro e w' ⟨rfl,p⟩;obtain rfl:=p.symm)
       |(go_at_call 104;refine(aA ae _ _ ((aA g).drewN _).rd).mono ?_;rintro e w3 ⟨rfl,E,n⟩;have N:=aB (((aA g).drewN _).call n);clear n)
       |(go_at_call 153;refine(aA af _ _ (aA N).rd).mono ?_;rintro e w4 ⟨rfl,L5,a1⟩))
      go_ret;rw[aA v];exact⟨rfl,L5,(aA N).call a1⟩
 rw[if_neg h3]at a;rw[show Rf.ends s=({s with stop:=1},true) by simp[Rf.ends,h3]]at C;have v:=aB a;clear a hev G;go_enter func106,ntmps106
 go_wp2_with(go_at_call 105;refine(aA C).mono ?_;rintro e w1 ⟨rfl,H,c⟩)
 go_ret;rw[aA v];exact⟨rfl,H,c⟩
end
end Go.Proofs.YtmgfijllcdadgaaGreatDoor.V
