/- Way4, Way5, Way6, Way7 -/
import Derived.Test.YtmgfijllcdadgabGreatDoorPCSplit
set_option linter.unusedVariables false
set_option linter.unusedSimpArgs false
namespace Go.Proofs.YtmgfijllcdadgabGreatDoor
open Mk (St Bs Ev Att)
theorem movePlace_core (s:St) (b:Int):∃ l c,Mk.movePlace s b={ s with line:=l,column:=c }:=by
  unfold Mk.movePlace
  split
  · exact ⟨_,_,rfl⟩
  · split
    · exact ⟨s.line,_,rfl⟩
    · exact ⟨s.line,s.column,rfl⟩
theorem go_step {s s1:St} {x:UInt8} (h:s.ended=0) (h10:x ≠ 10) (h13:x ≠ 13) (hr:Mk.readByte { s with at_:=s.at_ + 1,ret:=false } x.toNat=(s1,0)) :
    ∃ l c,Mk.feedByte s x={ s1 with line:=l,column:=c,ended:=0 }:=by
  obtain ⟨l,c,e⟩:=movePlace_core s1 x.toNat
  refine ⟨l,c,?_⟩
  have n10:¬ ((x.toNat:Int)=10):=fun g=>h10 (UInt8.toNat_inj.1 (by show x.toNat=10;omega))
  have n13:¬ ((x.toNat:Int)=13):=fun g=>h13 (UInt8.toNat_inj.1 (by show x.toNat=13;omega))
  have e2:Mk.read { s with at_:=s.at_ + 1 } x.toNat=(Mk.movePlace s1 x.toNat,0):=by
    unfold Mk.read
    rw [if_neg (fun g=>n10 g.1),if_neg n13]
    unfold Mk.readOn
    dsimp only
    rw [hr]
    simp
  unfold Mk.feedByte
  rw [if_pos h,e2,e]
def Nx (s:St) (x:UInt8) (l:Bs):Prop:=(Mk.feedByte s x).ended=0∧Mk.rest (Mk.feedByte s x)=l∧(Mk.feedByte s x).on=s.on
theorem nx_of {s s1:St} {x:UInt8} {l:Bs} (h:s.ended=0) (h10:x ≠ 10) (h13:x ≠ 13) (hr:Mk.readByte { s with at_:=s.at_ + 1,ret:=false } x.toNat=(s1,0)) (h1:Mk.rest s1=l) (h2:s1.on=s.on):Nx s x l:=by
  obtain ⟨a,c,e⟩:=go_step h h10 h13 hr
  unfold Nx
  rw [e]
  exact ⟨rfl,h1,h2⟩
theorem rest_tok (s:St) (h8:s.state ≠ 8) (h14:s.state ≠ 14) (x t:Bs) (n:Int):Mk.rest { s with text:=x,token:=t,count:=n }=Mk.rest s:=by
  have e1:Mk.startRest { s with text:=x,token:=t,count:=n }=Mk.startRest s:=by unfold Mk.startRest;simp [h14]
  have e2:Mk.instrRest { s with text:=x,token:=t,count:=n }=Mk.instrRest s:=by unfold Mk.instrRest;simp [h8]
  have e3:Mk.markRest { s with text:=x,token:=t,count:=n }=Mk.markRest s:=by unfold Mk.markRest;rw [e1,e2];rfl
  unfold Mk.rest
  rw [e3]
  rfl
theorem rest_put (s:St) (h8:s.state ≠ 8) (h14:s.state ≠ 14) (c:Int):Mk.rest (Mk.put s c)=Mk.rest s:=by
  obtain ⟨x,t,n,h1,_⟩:=put_core s c
  rw [h1];exact rest_tok s h8 h14 x t n
theorem put_on (s:St) (c:Int):(Mk.put s c).on=s.on:=by
  obtain ⟨x,t,n,h1,_⟩:=put_core s c
  rw [h1]
def later (s:St):Bs:=Mk.markRest s ++ Mk.endTags (Mk.leftOpen s) ++ (if s.opn=[]∧s.over=false∧Mk.isStartTag s.state=false then [60,97,47,62] else [])
theorem rest_later (s:St):Mk.rest s=Mk.partRest s.pc s.pl ++ (Mk.refRest s.rp s.rn s.rc ++ later s):=by unfold Mk.rest later;simp [List.append_assoc]
theorem closed_rest {p:Int} {n:Bs} {c:Int} (h:Mk.isOpen p=false):Mk.refRest p n c=[]:=by
  unfold Mk.isOpen at h
  have:p=0∨p=7:=by
    by_cases h0:p=0
    · exact .inl h0
    · exact .inr (by simpa [h0] using h)
  rcases this with rfl | rfl <;> rfl
theorem part_next {c l:Int} (h:PtW c l):∃ x r c', Mk.partRest c l=x :: r∧Mk.nextPart c l x.toNat=some (c', l - 1)∧Mk.partRest c' (l - 1)=r∧x ≠ 10∧x ≠ 13:=by
  rcases h with ⟨rfl,h⟩ | ⟨rfl,h⟩ | ⟨rfl,h⟩
  · refine ⟨128,[],c * 64,rfl,?_,rfl,by decide,by decide⟩
    have:Mk.canEnd (c * 64) 0=true:=by
      unfold Mk.canEnd Mk.isChar
      rw [if_neg (by decide),if_neg (by decide)]
      split
      · omega
      · split
        · simp;omega
        · simp;omega
    unfold Mk.nextPart
    rw [if_neg (by decide)]
    have e:c * 64 + ((128:UInt8).toNat:Int) - 128=c * 64:=by show c * 64 + 128 - 128=_;omega
    rw [e]
    rw [if_pos (show Mk.canEnd (c * 64) (1 - 1)=true from this)]
  · by_cases h0:c=0
    · subst h0
      exact ⟨160,[128],32,rfl,by decide,rfl,by decide,by decide⟩
    · refine ⟨128,[128],c * 64,by simp [Mk.partRest,h0],?_,rfl,by decide,by decide⟩
      have:Mk.canEnd (c * 64) 1=true:=by
        unfold Mk.canEnd
        simp
        omega
      unfold Mk.nextPart
      rw [if_neg (by decide)]
      have e:c * 64 + ((128:UInt8).toNat:Int) - 128=c * 64:=by show c * 64 + 128 - 128=_;omega
      rw [e]
      rw [if_pos (show Mk.canEnd (c * 64) (2 - 1)=true from this)]
  · by_cases h0:c=0
    · subst h0
      exact ⟨144,[128,128],16,rfl,by decide,rfl,by decide,by decide⟩
    · refine ⟨128,[128,128],c * 64,by simp [Mk.partRest,h0],?_,?_,by decide,by decide⟩
      · have:Mk.canEnd (c * 64) 2=true:=by
          unfold Mk.canEnd
          simp
          omega
        unfold Mk.nextPart
        rw [if_neg (by decide)]
        have e:c * 64 + ((128:UInt8).toNat:Int) - 128=c * 64:=by show c * 64 + 128 - 128=_;omega
        rw [e]
        rw [if_pos (show Mk.canEnd (c * 64) (3 - 1)=true from this)]
      · have:¬ (c * 64=0):=by omega
        simp [Mk.partRest,this]
theorem step_part {s:St} (h:W s) (he:s.ended=0) (hl:0<s.pl):∃ x l,Mk.rest s=x :: l∧Nx s x l:=by
  obtain ⟨g1,g2,g3,g4⟩:=h.pl hl
  obtain ⟨x,r,c', e1,e2,e3,n10,n13⟩:=part_next g3
  refine ⟨x,r ++ (Mk.refRest s.rp s.rn s.rc ++ later s),by rw [rest_later,e1];rfl,?_⟩
  have hr:Mk.readByte { s with at_:=s.at_ + 1,ret:=false } x.toNat=(Mk.goOn { s with at_:=s.at_ + 1,ret:=false } (c', s.pl - 1),0):=by
    unfold Mk.readByte
    rw [if_pos hl]
    unfold Mk.readPart
    dsimp only
    rw [e2]
  have h8:s.state ≠ 8:=by omega
  have h14:s.state ≠ 14:=by omega
  have key:Mk.rest { s with at_:=s.at_ + 1,ret:=false,pc:=c', pl:=s.pl - 1 }=r ++ (Mk.refRest s.rp s.rn s.rc ++ later s):=by
    rw [rest_later]
    dsimp only
    rw [e3]
    rfl
  refine nx_of he n10 n13 hr ?_ ?_
  · unfold Mk.goOn
    split
    · exact (rest_put _ (by exact h8) (by exact h14) _).trans key
    · exact key
  · unfold Mk.goOn
    split
    · rw [put_on]
    · rfl
def nameCheck (n:Bs):Bool:=
  match Mk.nameRest n Mk.refNames with
  | []=>false
  | y :: t=>y != 35 && y != 10 && y != 13 && match Mk.letter n y.toNat with
    | none=>false
    | some r=>if Mk.isOpen r.place then r.place == 2 && Mk.nameRest r.name Mk.refNames == t else t == []
theorem nameCheck_all:∀ n ∈ [] :: refBegun,nameCheck n=true:=by decide
theorem number_none {c:Int} (h0:0≤c) (h1:c≤1114111) (base:Int) (hb:base=10∨base=16) (e1:Mk.isChar c=false) (e2:Mk.isChar (c * base)=false) (e3:Mk.isChar (c * base * base)=false):c=0:=by
  unfold Mk.isChar at e1 e2 e3
  rcases hb with rfl | rfl
  · split at e1
    · split at e2
      · split at e3
        · simp at e1 e2 e3;omega
        · split at e3 <;> simp at e1 e2 e3 <;> omega
      · split at e2 <;> simp at e1 e2 <;> omega
    · split at e1
      · split at e2
        · omega
        · split at e2 <;> simp at e1 e2 <;> omega
      · simp at e1;omega
  · split at e1
    · split at e2
      · split at e3
        · simp at e1 e2 e3;omega
        · split at e3 <;> simp at e1 e2 e3 <;> omega
      · split at e2 <;> simp at e1 e2 <;> omega
    · split at e1
      · split at e2
        · omega
        · split at e2 <;> simp at e1 e2 <;> omega
      · simp at e1;omega
theorem isChar_le {c:Int} (h:Mk.isChar c=true):0≤c∧c≤1114111:=by
  unfold Mk.isChar at h
  split at h
  · simp at h;omega
  · split at h <;> simp at h <;> omega
theorem number_digit {c v:Int} {base pl:Int} {y:UInt8} (hd:Mk.digit y.toNat base=some v) (hle:c * base + v≤1114111):Mk.refDigit c y.toNat base pl=some ⟨pl,[],c * base + v⟩:=by
  unfold Mk.refDigit
  rw [hd]
  dsimp only
  rw [if_neg (by omega)]
theorem number_next {p c:Int} {n:Bs} (h0:0≤c) (h1:c≤1114111) (base pl:Int) (hb:base=10∨base=16)
    (hn:∀ y:UInt8,y ≠ 59→y ≠ 120→Mk.refNext ⟨p,n,c⟩ y.toNat=Mk.refDigit c y.toNat base pl) (hend:Mk.isChar c=true→Mk.refNext ⟨p,n,c⟩ ((59:UInt8).toNat:Int)=some ⟨7,[],c⟩) (hp:Mk.isOpen pl=true) (hq:∀ c', Mk.refRest pl [] c' = Mk.numberRest c' base) :
    ∃ y t r,Mk.numberRest c base=y :: t∧y ≠ 10∧y ≠ 13∧Mk.refNext ⟨p,n,c⟩ y.toNat=some r∧(Mk.isOpen r.place=true→Mk.refRest r.place r.name r.code=t)∧(Mk.isOpen r.place=false→t=[]):=by
  have d0:Mk.digit ((48:UInt8).toNat:Int) base=some 0:=by rcases hb with rfl | rfl <;> decide
  have d9:Mk.digit ((57:UInt8).toNat:Int) base=some 9:=by rcases hb with rfl | rfl <;> decide
  cases e1:Mk.isChar c
  · cases e2:Mk.isChar (c * base)
    · cases e3:Mk.isChar (c * base * base)
      · have hc:=number_none h0 h1 base hb e1 e2 e3
        subst hc
        refine ⟨57,[59],⟨pl,[],9⟩,by unfold Mk.numberRest;rw [e1,e2,e3];rfl,by decide,by decide,?_,fun _ => ?_,fun g=>absurd (hp.symm.trans g) (by decide)⟩
        · rw [hn 57 (by decide) (by decide)]
          have:=number_digit (c:=0) (pl:=pl) d9 (by omega)
          rw [this]
          simp
        · rw [hq];rcases hb with rfl | rfl <;> rfl
      · have:=isChar_le e3
        have hle:c * base≤1114111:=by rcases hb with rfl | rfl <;> omega
        refine ⟨48,[48,59],⟨pl,[],c * base⟩,by unfold Mk.numberRest;rw [e1,e2,e3];rfl,by decide,by decide,?_,fun _ => ?_,fun g=>absurd (hp.symm.trans g) (by decide)⟩
        · rw [hn 48 (by decide) (by decide)]
          have:=number_digit (c:=c) (pl:=pl) d0 (by omega)
          rw [this,Int.add_zero]
        · rw [hq];unfold Mk.numberRest;rw [e2,e3];rfl
    · have:=isChar_le e2
      refine ⟨48,[59],⟨pl,[],c * base⟩,by unfold Mk.numberRest;rw [e1,e2];rfl,by decide,by decide,?_,fun _ => ?_,fun g=>absurd (hp.symm.trans g) (by decide)⟩
      · rw [hn 48 (by decide) (by decide)]
        have:=number_digit (c:=c) (pl:=pl) d0 (by omega)
        rw [this,Int.add_zero]
      · rw [hq];unfold Mk.numberRest;rw [e2];rfl
  · exact ⟨59,[],⟨7,[],c⟩,by unfold Mk.numberRest;rw [e1];rfl,by decide,by decide,hend e1,fun g=>absurd (show Mk.isOpen 7=true from g) (by decide),fun _=>rfl⟩
theorem toNat_ne {y z:UInt8} (h:y ≠ z):((y.toNat:Int) == (z.toNat:Int))=false:=by
  have:¬ ((y.toNat:Int)=(z.toNat:Int)):=fun g=>h (UInt8.toNat_inj.1 (by omega))
  simpa using this
theorem ref_next {p c:Int} {n:Bs} (h:RfW p n c):∃ y t r,Mk.refRest p n c=y :: t∧y ≠ 10∧y ≠ 13∧Mk.refNext ⟨p,n,c⟩ y.toNat=some r∧(Mk.isOpen r.place=true→Mk.refRest r.place r.name r.code=t)∧(Mk.isOpen r.place=false→t=[]):=by
  have names:∀ (m:Bs),m ∈ [] :: refBegun→(p=1∨p=2)→m=n→∃ y t r,Mk.refRest p n c=y :: t∧y ≠ 10∧y ≠ 13∧Mk.refNext ⟨p,n,c⟩ y.toNat=some r∧(Mk.isOpen r.place=true→Mk.refRest r.place r.name r.code=t)∧(Mk.isOpen r.place=false→t=[]):=by
    intro m hm hp e
    have hc:=nameCheck_all m hm
    subst e
    unfold nameCheck at hc
    split at hc
    · cases hc
    · rename_i y t hy
      cases hl:Mk.letter m y.toNat with
      | none=>rw [hl] at hc;simp at hc
      | some r =>
        rw [hl] at hc
        simp at hc
        refine ⟨y,t,r,?_,hc.1.1.2,hc.1.2,?_,fun g => ?_,fun g => ?_⟩
        · unfold Mk.refRest;rw [if_pos hp,hy]
        · have h35:((y.toNat:Int) == 35)=false:=toNat_ne (z:=35) hc.1.1.1
          unfold Mk.refNext
          dsimp only
          rcases hp with rfl | rfl
          · rw [if_pos (by decide),h35];exact hl
          · rw [if_neg (by decide),if_pos (by decide)];exact hl
        · have h2:=hc.2
          rw [if_pos g] at h2
          unfold Mk.refRest
          rw [if_pos (.inr h2.1)]
          exact h2.2
        · have h2:=hc.2
          rw [if_neg (by rw [g];decide)] at h2
          exact h2
  rcases h with ⟨rfl,rfl⟩ | ⟨rfl,hn⟩ | ⟨rfl | rfl,rfl⟩ | ⟨rfl | rfl,h0,h1⟩
  · exact names [] List.mem_cons_self (.inl rfl) rfl
  · exact names n (List.mem_cons_of_mem _ hn) (.inr rfl) rfl
  · refine number_next (p:=3) (c:=0) (by decide) (by decide) 10 5 (.inl rfl) (fun y h59 h120 => ?_) (fun g=>absurd g (by decide)) rfl (fun _=>rfl)
    unfold Mk.refNext
    simp [toNat_ne (z:=120) h120]
    intro g
    exact absurd g (by have:=toNat_ne (z:=120) h120;simpa using this)
  · refine number_next (p:=4) (c:=0) (by decide) (by decide) 16 6 (.inr rfl) (fun y h59 h120 => ?_) (fun g=>absurd g (by decide)) rfl (fun _=>rfl)
    unfold Mk.refNext
    simp
  · refine number_next (p:=5) h0 h1 10 5 (.inl rfl) (fun y h59 h120 => ?_) (fun g => ?_) rfl (fun _=>rfl)
    · unfold Mk.refNext Mk.digitOrEnd
      have:=toNat_ne (z:=59) h59
      simp
      intro g
      exact absurd g (by simpa using this)
    · unfold Mk.refNext Mk.digitOrEnd
      simp [g]
  · refine number_next (p:=6) h0 h1 16 6 (.inr rfl) (fun y h59 h120 => ?_) (fun g => ?_) rfl (fun _=>rfl)
    · unfold Mk.refNext Mk.digitOrEnd
      have:=toNat_ne (z:=59) h59
      simp
      intro g
      exact absurd g (by simpa using this)
    · unfold Mk.refNext Mk.digitOrEnd
      simp [g]
theorem step_ref {s:St} (h:W s) (he:s.ended=0) (hl:s.pl=0) (ho:Mk.isOpen s.rp=true):∃ x l,Mk.rest s=x :: l∧Nx s x l:=by
  obtain ⟨g1,g2⟩:=h.rf ho
  obtain ⟨y,t,r,e1,n10,n13,e2,e3,e4⟩:=ref_next g2
  have hp:Mk.partRest s.pc s.pl=[]:=by rw [hl];rfl
  have h8:s.state ≠ 8:=by omega
  have h14:s.state ≠ 14:=by omega
  refine ⟨y,t ++ later s,by rw [rest_later,hp,e1];rfl,?_⟩
  have hr:Mk.readByte { s with at_:=s.at_ + 1,ret:=false } y.toNat=((if Mk.isOpen r.place then Mk.setRef { s with at_:=s.at_ + 1,ret:=false } r else Mk.put (Mk.setRef { s with at_:=s.at_ + 1,ret:=false } r) r.code),0):=by
    unfold Mk.readByte
    rw [if_neg (by show ¬ 0<s.pl;omega),if_pos ho]
    unfold Mk.readReference
    dsimp only
    rw [e2]
    dsimp only
    split <;> rfl
  have key:Mk.rest (Mk.setRef { s with at_:=s.at_ + 1,ret:=false } r)=Mk.refRest r.place r.name r.code ++ later s:=by
    rw [rest_later]
    show Mk.partRest s.pc s.pl ++ _=_
    rw [hp]
    rfl
  refine nx_of he n10 n13 hr ?_ ?_
  · split
    · rename_i g;rw [key,e3 g]
    · rename_i g
      exact (rest_put _ (by exact h8) (by exact h14) _).trans (by rw [key,e4 (by simpa using g),closed_rest (by simpa using g)])
  · split
    · rfl
    · rw [put_on];rfl
theorem later_ended (s:St) (hl:s.pl=0) (hr:Mk.isOpen s.rp=false) (h:s.state=0∨s.state=1):Mk.rest s=Mk.endTags s.opn.reverse ++ (if s.opn=[]∧s.over=false then [60,97,47,62] else []):=by
  have h1:Mk.isEndTag s.state=false:=by rcases h with h | h <;> rw [h] <;> rfl
  have h2:Mk.isStartTag s.state=false:=by rcases h with h | h <;> rw [h] <;> rfl
  have h3:Mk.markRest s=[]:=by unfold Mk.markRest;rw [if_pos h]
  rw [rest_later,closed_rest hr,hl]
  unfold later Mk.leftOpen
  rw [h1,h2,h3]
  simp [Mk.partRest]
theorem resume_state (n:Nat):(if n=0 then (0:Int) else 1)=0∨(if n=0 then (0:Int) else 1)=1:=by split <;> simp
theorem later_aside {s:St} (h1:Mk.isEndTag s.state=false) (h2:Mk.isStartTag s.state=false):later s=Mk.markRest s ++ (Mk.endTags s.opn.reverse ++ (if s.opn=[]∧s.over=false then [60,97,47,62] else [])):=by
  unfold later Mk.leftOpen;rw [h1,h2];simp
theorem rest_quiet {s:St} (h:Wq s):Mk.rest s=later s:=by rw [rest_later,closed_rest h.r,h.q];rfl
theorem rest_q {s:St} (hl:s.pl=0) (hr:Mk.isOpen s.rp=false):Mk.rest s=later s:=by rw [rest_later,closed_rest hr,hl];rfl
section
variable {s:St}
theorem read_mark (h:Wq s) (h1:s.state ≠ 0∧s.state ≠ 1∧s.state ≠ 2∧s.state ≠ 7∧s.state ≠ 11∧s.state ≠ 17) (b:Int):Mk.readByte { s with at_:=s.at_ + 1,ret:=false } b=Mk.readMark { s with at_:=s.at_ + 1,ret:=false } b:=by
  unfold Mk.readByte
  simp [h.q,h.r,h1]
theorem step_3 (h:Wq s) (he:s.ended=0) (hst:s.state=3):∃ x l,Mk.rest s=x :: l∧Nx s x l:=by
  have e0:Mk.rest s=33 :: ([45,45,45,45,62] ++ (Mk.endTags s.opn.reverse ++ (if s.opn=[]∧s.over=false then [60,97,47,62] else []))):=by
    rw [rest_quiet h,later_aside (by rw [hst];rfl) (by rw [hst];rfl)];simp [Mk.markRest,hst]
  refine ⟨33,_,e0,nx_of (s1:={ s with at_:=s.at_ + 1,ret:=false,state:=4 }) he (by decide) (by decide) ?_ ?_ rfl⟩
  · rw [read_mark h (by omega)];simp [Mk.readMark,Mk.readLess,hst]
  · rw [rest_q (by exact h.q) (by exact h.r),later_aside rfl rfl];simp [Mk.markRest]
theorem step_4 (h:Wq s) (he:s.ended=0) (hst:s.state=4):∃ x l,Mk.rest s=x :: l∧Nx s x l:=by
  have e0:Mk.rest s=45 :: ([45,45,45,62] ++ (Mk.endTags s.opn.reverse ++ (if s.opn=[]∧s.over=false then [60,97,47,62] else []))):=by
    rw [rest_quiet h,later_aside (by rw [hst];rfl) (by rw [hst];rfl)];simp [Mk.markRest,hst]
  refine ⟨45,_,e0,nx_of (s1:={ s with at_:=s.at_ + 1,ret:=false,state:=5 }) he (by decide) (by decide) ?_ ?_ rfl⟩
  · rw [read_mark h (by omega)];simp [Mk.readMark,Mk.readBang,hst]
  · rw [rest_q (by exact h.q) (by exact h.r),later_aside rfl rfl];simp [Mk.markRest]
theorem step_5 (h:Wq s) (he:s.ended=0) (hst:s.state=5):∃ x l,Mk.rest s=x :: l∧Nx s x l:=by
  have hh:s.held=[]:=h.hs.none (by omega) (by omega) (by omega)
  have e0:Mk.rest s=45 :: ([45,45,62] ++ (Mk.endTags s.opn.reverse ++ (if s.opn=[]∧s.over=false then [60,97,47,62] else []))):=by
    rw [rest_quiet h,later_aside (by rw [hst];rfl) (by rw [hst];rfl)];simp [Mk.markRest,hst]
  refine ⟨45,_,e0,nx_of (s1:={ s with at_:=s.at_ + 1,ret:=false,state:=7 }) he (by decide) (by decide) ?_ ?_ rfl⟩
  · rw [read_mark h (by omega)];simp [Mk.readMark,Mk.readDash,hst]
  · rw [rest_q (by exact h.q) (by exact h.r),later_aside rfl rfl];simp [Mk.markRest,hh,Mk.behind]
theorem endComment_on (z:St):(Mk.endComment z).on=z.on:=by unfold Mk.endComment Mk.resume;rw [add_core];rfl
theorem endInstruction_on (z:St):(Mk.endInstruction z).on=z.on:=by unfold Mk.endInstruction Mk.resume;rw [add_core];rfl
theorem end_rest (z:St) (e:Ev) (hl:z.pl=0) (hr:Mk.isOpen z.rp=false) (n:Bs):Mk.rest (Mk.resume { Mk.add z e with name:=n })=Mk.endTags z.opn.reverse ++ (if z.opn=[]∧z.over=false then [60,97,47,62] else []):=by
  rw [add_core]
  unfold Mk.resume
  exact later_ended _ hl hr (resume_state _)
theorem step_7 (h:Wq s) (he:s.ended=0) (hst:s.state=7):∃ x l,Mk.rest s=x :: l∧Nx s x l:=by
  have e0:Mk.rest s=Mk.behind [45,45,62] s.held.length ++ (Mk.endTags s.opn.reverse ++ (if s.opn=[]∧s.over=false then [60,97,47,62] else [])):=by
    rw [rest_quiet h,later_aside (by rw [hst];rfl) (by rw [hst];rfl)];simp [Mk.markRest,hst]
  have er:∀ b,Mk.readByte { s with at_:=s.at_ + 1,ret:=false } b=Mk.readComment { s with at_:=s.at_ + 1,ret:=false } b:=by
    intro b;unfold Mk.readByte;simp [h.q,h.r,hst]
  rcases h.hs with e | ⟨_,e | e⟩ | ⟨e,_⟩ | ⟨e,_⟩
  · refine ⟨45,[45,62] ++ _,by rw [e0,e];rfl,nx_of (s1:={ s with at_:=s.at_ + 1,ret:=false,held:=[45] }) he (by decide) (by decide) ?_ ?_ rfl⟩
    · rw [er];simp [Mk.readComment,e]
    · rw [rest_q (by exact h.q) (by exact h.r),later_aside (by show Mk.isEndTag s.state=false;rw [hst];rfl) (by show Mk.isStartTag s.state=false;rw [hst];rfl)];simp [Mk.markRest,hst,Mk.behind]
  · refine ⟨45,[62] ++ _,by rw [e0,e];rfl,nx_of (s1:={ s with at_:=s.at_ + 1,ret:=false,held:=[45,45] }) he (by decide) (by decide) ?_ ?_ rfl⟩
    · rw [er];simp [Mk.readComment,e]
    · rw [rest_q (by exact h.q) (by exact h.r),later_aside (by show Mk.isEndTag s.state=false;rw [hst];rfl) (by show Mk.isStartTag s.state=false;rw [hst];rfl)];simp [Mk.markRest,hst,Mk.behind]
  · refine ⟨62,_,by rw [e0,e];rfl,nx_of (s1:=Mk.endComment { s with at_:=s.at_ + 1,ret:=false }) he (by decide) (by decide) ?_ ?_ ?_⟩
    · rw [er];simp [Mk.readComment,e]
    · exact end_rest (Mk.dropToken { s with at_:=s.at_ + 1,ret:=false,held:=[] }) _ h.q h.r _
    · exact endComment_on _
  · omega
  · omega
theorem step_2 (h:Wq s) (he:s.ended=0) (hst:s.state=2):∃ x l,Mk.rest s=x :: l∧Nx s x l:=by
  have e0:Mk.rest s=Mk.behind [93,93,62] s.held.length ++ (Mk.endTags s.opn.reverse ++ (if s.opn=[]∧s.over=false then [60,97,47,62] else [])):=by
    rw [rest_quiet h,later_aside (by rw [hst];rfl) (by rw [hst];rfl)];simp [Mk.markRest,hst]
  have er:∀ b,Mk.readByte { s with at_:=s.at_ + 1,ret:=false } b=Mk.readSection { s with at_:=s.at_ + 1,ret:=false } b:=by
    intro b;unfold Mk.readByte;simp [h.q,h.r,hst]
  rcases h.hs with e | ⟨e,_⟩ | ⟨_,e | e⟩ | ⟨e,_⟩
  · refine ⟨93,[93,62] ++ _,by rw [e0,e];rfl,nx_of (s1:={ s with at_:=s.at_ + 1,ret:=false,held:=[93] }) he (by decide) (by decide) ?_ ?_ rfl⟩
    · rw [er];simp [Mk.readSection,e]
    · rw [rest_q (by exact h.q) (by exact h.r),later_aside (by show Mk.isEndTag s.state=false;rw [hst];rfl) (by show Mk.isStartTag s.state=false;rw [hst];rfl)];simp [Mk.markRest,hst,Mk.behind]
  · omega
  · refine ⟨93,[62] ++ _,by rw [e0,e];rfl,nx_of (s1:={ s with at_:=s.at_ + 1,ret:=false,held:=[93,93] }) he (by decide) (by decide) ?_ ?_ rfl⟩
    · rw [er];simp [Mk.readSection,e]
    · rw [rest_q (by exact h.q) (by exact h.r),later_aside (by show Mk.isEndTag s.state=false;rw [hst];rfl) (by show Mk.isStartTag s.state=false;rw [hst];rfl)];simp [Mk.markRest,hst,Mk.behind]
  · refine ⟨62,_,by rw [e0,e];rfl,nx_of (s1:={ s with at_:=s.at_ + 1,ret:=false,held:=[],state:=1 }) he (by decide) (by decide) ?_ ?_ rfl⟩
    · rw [er];simp [Mk.readSection,e]
    · exact later_ended _ h.q h.r (.inr rfl)
  · omega
theorem step_6 (h:Wq s) (he:s.ended=0) (hst:s.state=6):∃ x l,Mk.rest s=x :: l∧Nx s x l:=by
  have hh:s.held=[]:=h.hs.none (by omega) (by omega) (by omega)
  have e0:Mk.rest s=Mk.behind Mk.cdata s.matched ++ ([93,93,62] ++ (Mk.endTags s.opn.reverse ++ (if s.opn=[]∧s.over=false then [60,97,47,62] else []))):=by
    rw [rest_quiet h,later_aside (by rw [hst];rfl) (by rw [hst];rfl)];simp [Mk.markRest,hst]
  have er:∀ b,Mk.readByte { s with at_:=s.at_ + 1,ret:=false } b=Mk.readSectionMark { s with at_:=s.at_ + 1,ret:=false } b:=by
    intro b;rw [read_mark h (by omega)];simp [Mk.readMark,hst]
  have hm:=h.m6 hst
  have go:∀ (m:Int) (x:UInt8) (r:Bs),s.matched=m→m<5→(Mk.behind Mk.cdata m=x :: r)→(x ≠ 10)→(x ≠ 13)→Mk.sectionMark.getD m.toNat 0=x.toNat→Mk.behind Mk.cdata (m + 1)=r→∃ x l,Mk.rest s=x :: l∧Nx s x l:=by
    intro m x r e h5 e1 n10 n13 e2 e3
    refine ⟨x,r ++ _,by rw [e0,e,e1];rfl,nx_of (s1:={ s with at_:=s.at_ + 1,ret:=false,matched:=m + 1 }) he n10 n13 ?_ ?_ rfl⟩
    · rw [er]
      unfold Mk.readSectionMark
      dsimp only
      rw [e,if_neg (by rw [e2];omega),if_neg (by omega)]
    · rw [rest_q (by exact h.q) (by exact h.r),later_aside (by show Mk.isEndTag s.state=false;rw [hst];rfl) (by show Mk.isStartTag s.state=false;rw [hst];rfl)];simp [Mk.markRest,hst,e3]
  have h6:s.matched=0∨s.matched=1∨s.matched=2∨s.matched=3∨s.matched=4∨s.matched=5:=by omega
  rcases h6 with e | e | e | e | e | e
  · exact go 0 67 [68,65,84,65,91] e (by decide) rfl (by decide) (by decide) rfl rfl
  · exact go 1 68 [65,84,65,91] e (by decide) rfl (by decide) (by decide) rfl rfl
  · exact go 2 65 [84,65,91] e (by decide) rfl (by decide) (by decide) rfl rfl
  · exact go 3 84 [65,91] e (by decide) rfl (by decide) (by decide) rfl rfl
  · exact go 4 65 [91] e (by decide) rfl (by decide) (by decide) rfl rfl
  · refine ⟨91,[93,93,62] ++ _,by rw [e0,e];rfl,nx_of (s1:={ s with at_:=s.at_ + 1,ret:=false,matched:=6,state:=2 }) he (by decide) (by decide) ?_ ?_ rfl⟩
    · rw [er];simp [Mk.readSectionMark,e,Mk.sectionMark]
    · rw [rest_q (by exact h.q) (by exact h.r),later_aside rfl rfl];simp [Mk.markRest,hh,Mk.behind]
theorem step_9 (h:Wq s) (he:s.ended=0) (hst:s.state=9):∃ x l,Mk.rest s=x :: l∧Nx s x l:=by
  have e0:Mk.rest s=62 :: ((Mk.endTags s.opn.reverse ++ (if s.opn=[]∧s.over=false then [60,97,47,62] else []))):=by
    rw [rest_quiet h,later_aside (by rw [hst];rfl) (by rw [hst];rfl)];simp [Mk.markRest,Mk.instrRest,Mk.isStartTag,hst]
  refine ⟨62,_,e0,nx_of (s1:=Mk.endInstruction { s with at_:=s.at_ + 1,ret:=false }) he (by decide) (by decide) ?_ ?_ ?_⟩
  · rw [read_mark h (by omega)];simp [Mk.readMark,Mk.readBareInstruction,hst]
  · exact end_rest (Mk.dropToken { s with at_:=s.at_ + 1,ret:=false,held:=[] }) _ h.q h.r _
  · exact endInstruction_on _
theorem step_10 (h:Wq s) (he:s.ended=0) (hst:s.state=10):∃ x l,Mk.rest s=x :: l∧Nx s x l:=by
  have hh:s.held=[]:=h.hs.none (by omega) (by omega) (by omega)
  have e0:Mk.rest s=63 :: ([62] ++ (Mk.endTags s.opn.reverse ++ (if s.opn=[]∧s.over=false then [60,97,47,62] else []))):=by
    rw [rest_quiet h,later_aside (by rw [hst];rfl) (by rw [hst];rfl)];simp [Mk.markRest,Mk.instrRest,Mk.isStartTag,hst,hh,Mk.behind]
  refine ⟨63,_,e0,nx_of (s1:={ s with at_:=s.at_ + 1,ret:=false,state:=11,held:=[63] }) he (by decide) (by decide) ?_ ?_ rfl⟩
  · rw [read_mark h (by omega)];simp [Mk.readMark,Mk.readInstructionSpace,Mk.readInstruction,Mk.isSpace,hst,hh]
  · rw [rest_q (by exact h.q) (by exact h.r),later_aside rfl rfl];simp [Mk.markRest,Mk.instrRest,Mk.isStartTag,hh,Mk.behind]
theorem step_11 (h:Wq s) (he:s.ended=0) (hst:s.state=11):∃ x l,Mk.rest s=x :: l∧Nx s x l:=by
  have e0:Mk.rest s=Mk.behind [63,62] s.held.length ++ (Mk.endTags s.opn.reverse ++ (if s.opn=[]∧s.over=false then [60,97,47,62] else [])):=by
    rw [rest_quiet h,later_aside (by rw [hst];rfl) (by rw [hst];rfl)];simp [Mk.markRest,Mk.instrRest,Mk.isStartTag,hst]
  have er:∀ b,Mk.readByte { s with at_:=s.at_ + 1,ret:=false } b=Mk.readInstruction { s with at_:=s.at_ + 1,ret:=false } b:=by
    intro b;unfold Mk.readByte;simp [h.q,h.r,hst]
  rcases h.hs with e | ⟨e,_⟩ | ⟨e,_⟩ | ⟨_,e⟩
  · refine ⟨63,[62] ++ _,by rw [e0,e];rfl,nx_of (s1:={ s with at_:=s.at_ + 1,ret:=false,held:=[63] }) he (by decide) (by decide) ?_ ?_ rfl⟩
    · rw [er];simp [Mk.readInstruction,e]
    · rw [rest_q (by exact h.q) (by exact h.r),later_aside (by show Mk.isEndTag s.state=false;rw [hst];rfl) (by show Mk.isStartTag s.state=false;rw [hst];rfl)];simp [Mk.markRest,Mk.instrRest,Mk.isStartTag,hst,Mk.behind]
  · omega
  · omega
  · refine ⟨62,_,by rw [e0,e];rfl,nx_of (s1:=Mk.endInstruction { s with at_:=s.at_ + 1,ret:=false }) he (by decide) (by decide) ?_ ?_ ?_⟩
    · rw [er];simp [Mk.readInstruction,e]
    · exact end_rest (Mk.dropToken { s with at_:=s.at_ + 1,ret:=false,held:=[] }) _ h.q h.r _
    · exact endInstruction_on _
theorem mark_8 (z:St) (b:Int) (hz:z.state=8):Mk.readMark z b=Mk.readInstructionName z b:=by unfold Mk.readMark;simp [hz]
theorem isXML_len {l:Bs} (h:Mk.isXML l=true):l.length=3:=by
  unfold Mk.isXML at h
  split at h
  · rfl
  · cases h
theorem step_8 (h:Wq s) (hon:s.on=false) (he:s.ended=0) (hst:s.state=8):∃ x l,Mk.rest s=x :: l∧Nx s x l:=by
  have hh:s.held=[]:=h.hs.none (by omega) (by omega) (by omega)
  have hc:=h.c8 (.inl hst)
  have hb:=h.bd
  have hin:Mk.inText { s with at_:=s.at_ + 1,ret:=false }=false:=by unfold Mk.inText;simp [hst]
  by_cases hx:s.count=0∨Mk.isXML s.token=true
  · have e0:Mk.rest s=97 :: ([63,62] ++ (Mk.endTags s.opn.reverse ++ (if s.opn=[]∧s.over=false then [60,97,47,62] else []))):=by
      rw [rest_quiet h,later_aside (by rw [hst];rfl) (by rw [hst];rfl)];simp [Mk.markRest,Mk.instrRest,Mk.isStartTag,hst,hx]
    have hcount:s.count=0∨s.count=3:=by
      rcases hx with hx | hx
      · exact .inl hx
      · right;have:=isXML_len hx;omega
    have hfit:Mk.fits { s with at_:=s.at_ + 1,ret:=false } 1=true:=by
      unfold Mk.fits;rw [hin];simp;omega
    refine ⟨97,_,e0,nx_of (s1:={ s with at_:=s.at_ + 1,ret:=false,token:=s.token ++ [97],count:=s.count + 1 }) he (by decide) (by decide) ?_ ?_ rfl⟩
    · rw [read_mark h (by omega)]
      have:Mk.readInstructionName { s with at_:=s.at_ + 1,ret:=false } ((97:UInt8).toNat:Int)=({ s with at_:=s.at_ + 1,ret:=false,token:=s.token ++ [97],count:=s.count + 1 },0):=by
        unfold Mk.readInstructionName Mk.lengthenName
        rw [if_neg (by simp [Mk.beginsName,Mk.isLetter]),if_pos (by decide),if_pos hfit,put_out hin]
        rfl
      exact (mark_8 _ _ (by exact hst)).trans this
    · have hnx:Mk.isXML (s.token ++ [97])=false:=by
        rcases hx with hx | hx
        · have:s.token=[]:=by rw [hx] at hc;exact List.length_eq_zero_iff.1 (by omega)
          rw [this];rfl
        · have:=isXML_len hx
          cases hq:Mk.isXML (s.token ++ [97])
          · rfl
          · have:=isXML_len hq
            simp at this;omega
      have hnc:¬ (s.count + 1=0):=by omega
      rw [rest_q (by exact h.q) (by exact h.r),later_aside (by show Mk.isEndTag s.state=false;rw [hst];rfl) (by show Mk.isStartTag s.state=false;rw [hst];rfl)];simp [Mk.markRest,Mk.instrRest,Mk.isStartTag,hst,Mk.behind,hh,hnx,hnc]
  · have e0:Mk.rest s=63 :: ([62] ++ (Mk.endTags s.opn.reverse ++ (if s.opn=[]∧s.over=false then [60,97,47,62] else []))):=by
      rw [rest_quiet h,later_aside (by rw [hst];rfl) (by rw [hst];rfl)];simp [Mk.markRest,Mk.instrRest,Mk.isStartTag,hst,hx,hh,Mk.behind]
    have hx1:¬ s.count=0:=fun g=>hx (.inl g)
    have hx2:Mk.isXML s.token=false:=by
      cases hq:Mk.isXML s.token
      · rfl
      · exact absurd (.inr hq) hx
    refine ⟨63,_,e0,nx_of (s1:={ s with at_:=s.at_ + 1,ret:=false,token:=[],count:=0,name:=s.token,state:=9 }) he (by decide) (by decide) ?_ ?_ rfl⟩
    · rw [read_mark h (by omega)]
      have:Mk.readInstructionName { s with at_:=s.at_ + 1,ret:=false } ((63:UInt8).toNat:Int)=({ s with at_:=s.at_ + 1,ret:=false,token:=[],count:=0,name:=s.token,state:=9 },0):=by
        unfold Mk.readInstructionName
        rw [if_neg (by simp [hx1]),if_neg (by decide),if_neg (by rw [show ({ s with at_:=s.at_ + 1,ret:=false }:St).token=s.token from rfl,hx2];decide),if_neg (by rw [show ({ s with at_:=s.at_ + 1,ret:=false }:St).on=s.on from rfl,hon];simp)]
        rfl
      exact (mark_8 _ _ (by exact hst)).trans this
    · rw [rest_q (by exact h.q) (by exact h.r),later_aside rfl rfl];simp [Mk.markRest,Mk.instrRest,Mk.isStartTag]
end
theorem len_sub {α:Type} [DecidableEq α]:∀ (l m:List α),l.Nodup→(∀ x ∈ l,x ∈ m)→l.length≤m.length
  | [],m,_,_=>Nat.zero_le _
  | x :: l,m,hn,hs=>by
    have h1:=List.nodup_cons.1 hn
    have hx:=hs x List.mem_cons_self
    have h2:=len_sub l (m.erase x) h1.2 fun y hy=>(List.mem_erase_of_ne (fun (e:y=x)=>h1.1 (e ▸ hy))).2 (hs y (List.mem_cons_of_mem _ hy))
    have h3:=List.length_erase_of_mem hx
    have h4:=List.length_pos_of_mem hx
    simp only [List.length_cons]
    omega
def letters:List UInt8:=((List.range 58).map fun (i:Nat)=>Mk.u8 (65 + (i:Int))).filter fun x=>Mk.inName x.toNat
theorem letters_len:letters.length=53:=by decide
theorem letters_nodup:letters.Nodup:=by decide
theorem free_none (s:St):∀ (n:Nat) (b:Int),Mk.freeFrom s n b=[]→∀ i:Nat,i<n→Mk.inName (b + i)=true→Mk.hasAttr s (s.token ++ [Mk.u8 (b + i)])=true
  | 0,b,_,i,hi,_=>absurd hi (Nat.not_lt_zero _)
  | n + 1,b,h,i,hi,hin=>by
    unfold Mk.freeFrom at h
    split at h
    · cases h
    · rename_i g
      cases i with
      | zero =>
        simp only [Int.natCast_zero,Int.add_zero] at hin ⊢
        cases q:Mk.hasAttr s (s.token ++ [Mk.u8 b])
        · exact absurd (by rw [hin,q];rfl) g
        · rfl
      | succ j =>
        have:=free_none s n (b + 1) h j (by omega)
        have e:b + 1 + (j:Int)=b + ((j + 1:Nat):Int):=by omega
        rw [e] at this
        exact this hin
theorem free_some (s:St):∀ (n:Nat) (b:Int),Mk.freeFrom s n b ≠ []→∃ c,b≤c∧c<b + n∧Mk.freeFrom s n b=[Mk.u8 c]∧Mk.inName c=true∧Mk.hasAttr s (s.token ++ [Mk.u8 c])=false
  | 0,b,h=>absurd rfl h
  | n + 1,b,h=>by
    unfold Mk.freeFrom at h ⊢
    split
    · rename_i g
      simp at g
      exact ⟨b,by omega,by omega,rfl,g.1,g.2⟩
    · rename_i g
      rw [if_neg g] at h
      obtain ⟨c,h1,h2,h3⟩:=free_some s n (b + 1) h
      exact ⟨c,by omega,by omega,h3⟩
theorem free_there {s:St} (h:s.attrs.length<53):Mk.freeFrom s 58 65 ≠ []:=by
  intro e
  have h1:=free_none s 58 65 e
  have h2:∀ x ∈ letters.map (fun x=>s.token ++ [x]),x ∈ s.attrs.map (·.name):=by
    intro y hy
    obtain ⟨x,hx,rfl⟩:=List.mem_map.1 hy
    unfold letters at hx
    obtain ⟨hx1,hx2⟩:=List.mem_filter.1 hx
    obtain ⟨i,hi,rfl⟩:=List.mem_map.1 hx1
    have hi:=List.mem_range.1 hi
    rw [u8_nat (by omega) (by omega)] at hx2
    have:=h1 i hi hx2
    unfold Mk.hasAttr at this
    obtain ⟨a,ha,hb⟩:=List.any_eq_true.1 this
    exact List.mem_map.2 ⟨a,ha,by simpa using hb⟩
  have h3:(letters.map (fun x=>s.token ++ [x])).Nodup:=by
    unfold List.Nodup
    rw [List.pairwise_map]
    exact List.Pairwise.imp (fun hne e=>hne (by simpa using e)) letters_nodup
  have h4:=len_sub _ _ h3 h2
  simp only [List.length_map,letters_len] at h4
  omega
section
variable {s:St}
theorem later_start (h2:Mk.isStartTag s.state=true):later s=Mk.startRest s ++ Mk.endTags s.opn.reverse:=by
  have h3:12≤s.state∧s.state≤19:=by unfold Mk.isStartTag at h2;simpa using h2
  have h1:Mk.isEndTag s.state=false:=by unfold Mk.isEndTag;simp;omega
  unfold later Mk.leftOpen Mk.markRest
  rw [h1,h2]
  rw [if_neg (by omega),if_neg (by omega),if_neg (by omega),if_neg (by omega),if_neg (by omega),if_neg (by omega),if_neg (by omega),if_neg (by omega),if_neg (by omega)]
  simp
theorem mark_tag (z:St) (b:Int) (hz:12≤z.state∧z.state≤19):Mk.readMark z b=Mk.readStartTag z b:=by
  unfold Mk.readMark
  have h3:¬ z.state=3:=by omega
  have h4:¬ z.state=4:=by omega
  have h5:¬ z.state=5:=by omega
  have h6:¬ z.state=6:=by omega
  have h8:¬ z.state=8:=by omega
  have h9:¬ z.state=9:=by omega
  have h10:¬ z.state=10:=by omega
  have h20:¬ z.state=20:=by omega
  have h21:¬ z.state=21:=by omega
  simp [h3,h4,h5,h6,h8,h9,h10,h20,h21]
theorem gap_47 (z:St) (hon:z.on=false):Mk.readStartGap z 47=({ z with state:=19 },0):=by
  unfold Mk.readStartGap Mk.endAttributes Mk.endStart
  simp [Mk.isSpace,hon]
theorem step_gap (h:Wq s) (hon:s.on=false) (he:s.ended=0) (hst:s.state=12∨s.state=13∨s.state=18):∃ x l,Mk.rest s=x :: l∧Nx s x l:=by
  have e0:Mk.rest s=47 :: ([62] ++ Mk.endTags s.opn.reverse):=by
    rw [rest_quiet h,later_start (by unfold Mk.isStartTag;simp;omega)]
    unfold Mk.startRest
    rw [if_neg (by omega),if_neg (by omega),if_neg (by omega),if_neg (by omega),if_neg (by omega)];rfl
  have fin:∀ (z:St),z.pl=0→Mk.isOpen z.rp=false→z.opn=s.opn→z.state=19→Mk.rest z=[62] ++ Mk.endTags s.opn.reverse:=by
    intro z hl hr ho hz
    rw [rest_q hl hr,later_start (by rw [hz];rfl),ho]
    unfold Mk.startRest
    rw [if_neg (by omega),if_neg (by omega),if_neg (by omega),if_neg (by omega),if_pos hz]
  have em:=read_mark h (by omega) ((47:UInt8).toNat:Int)
  have em2:=mark_tag { s with at_:=s.at_ + 1,ret:=false } ((47:UInt8).toNat:Int) ⟨by show 12≤s.state;omega,by show s.state≤19;omega⟩
  rcases hst with hst | hst | hst
  · refine ⟨47,_,e0,nx_of (s1:={ s with at_:=s.at_ + 1,ret:=false,token:=[],count:=0,name:=s.token,state:=19 }) he (by decide) (by decide) ?_ (fin _ h.q h.r rfl rfl) rfl⟩
    rw [em,em2]
    unfold Mk.readStartTag
    rw [if_pos (by show (s.state == 12)=true;rw [hst];rfl)]
    unfold Mk.readStartName
    rw [if_neg (by decide)]
    exact gap_47 _ hon
  · refine ⟨47,_,e0,nx_of (s1:={ s with at_:=s.at_ + 1,ret:=false,state:=19 }) he (by decide) (by decide) ?_ (fin _ h.q h.r rfl rfl) rfl⟩
    rw [em,em2]
    unfold Mk.readStartTag
    rw [if_neg (by show ¬ (s.state == 12)=true;rw [hst];decide),if_pos (by show (s.state == 13)=true;rw [hst];rfl)]
    unfold Mk.readStartSpace
    rw [if_pos (by decide)]
    exact gap_47 _ hon
  · refine ⟨47,_,e0,nx_of (s1:={ s with at_:=s.at_ + 1,ret:=false,state:=19 }) he (by decide) (by decide) ?_ (fin _ h.q h.r rfl rfl) rfl⟩
    rw [em,em2]
    unfold Mk.readStartTag
    rw [if_neg (by show ¬ (s.state == 12)=true;rw [hst];decide),if_neg (by show ¬ (s.state == 13)=true;rw [hst];decide),if_neg (by show ¬ (s.state == 14)=true;rw [hst];decide),if_neg (by show ¬ (s.state == 15)=true;rw [hst];decide),if_neg (by show ¬ (s.state == 16)=true;rw [hst];decide),if_pos (by show (s.state == 18)=true;rw [hst];rfl)]
    exact gap_47 _ hon
theorem tellEnd_rest (z:St) (n m:Bs) (hl:z.pl=0) (hr:Mk.isOpen z.rp=false):Mk.rest { Mk.tellEnd z n with name:=m }=Mk.endTags z.opn.reverse∧(Mk.tellEnd z n).on=z.on:=by
  rw [tellEnd_core]
  refine ⟨?_,rfl⟩
  refine (later_ended _ (by exact hl) (by exact hr) (resume_state z.opn.length)).trans ?_
  dsimp only
  by_cases ho:z.opn=[]
  · simp [ho]
  · simp [ho]
theorem step_19 (h:Wq s) (he:s.ended=0) (hst:s.state=19):∃ x l,Mk.rest s=x :: l∧Nx s x l:=by
  have e0:Mk.rest s=62 :: (Mk.endTags s.opn.reverse):=by
    rw [rest_quiet h,later_start (by rw [hst];rfl)]
    unfold Mk.startRest
    rw [if_neg (by omega),if_neg (by omega),if_neg (by omega),if_neg (by omega),if_pos hst];rfl
  have em:=read_mark h (by omega) ((62:UInt8).toNat:Int)
  have em2:=mark_tag { s with at_:=s.at_ + 1,ret:=false } ((62:UInt8).toNat:Int) ⟨by show 12≤s.state;omega,by show s.state≤19;omega⟩
  have et:=tellStart_core { s with at_:=s.at_ + 1,ret:=false }
  have key:=tellEnd_rest (Mk.tellStart { s with at_:=s.at_ + 1,ret:=false }) s.name [] (by rw [et];exact h.q) (by rw [et];exact h.r)
  refine ⟨62,_,e0,nx_of (s1:={ Mk.tellEnd (Mk.tellStart { s with at_:=s.at_ + 1,ret:=false }) s.name with name:=[] }) he (by decide) (by decide) ?_ ?_ ?_⟩
  · rw [em,em2]
    unfold Mk.readStartTag
    rw [if_neg (by show ¬ (s.state == 12)=true;rw [hst];decide),if_neg (by show ¬ (s.state == 13)=true;rw [hst];decide),if_neg (by show ¬ (s.state == 14)=true;rw [hst];decide),if_neg (by show ¬ (s.state == 15)=true;rw [hst];decide),if_neg (by show ¬ (s.state == 16)=true;rw [hst];decide),if_neg (by show ¬ (s.state == 18)=true;rw [hst];decide)]
    unfold Mk.readSlash
    rw [if_neg (by decide)]
  · rw [key.1,et]
  · exact key.2.trans (by rw [et])
theorem step_17 (h:Wq s) (he:s.ended=0) (hst:s.state=17):∃ x l,Mk.rest s=x :: l∧Nx s x l:=by
  have hq:=h.q17 hst
  have e0:Mk.rest s=Mk.u8 s.quote :: ([47,62] ++ Mk.endTags s.opn.reverse):=by
    rw [rest_quiet h,later_start (by rw [hst];rfl)]
    unfold Mk.startRest
    rw [if_neg (by omega),if_neg (by omega),if_neg (by omega),if_pos hst];rfl
  have hn:((Mk.u8 s.quote).toNat:Int)=s.quote:=u8_nat (by omega) (by omega)
  have hb:Mk.u8 s.quote ≠ 10∧Mk.u8 s.quote ≠ 13:=by rcases hq with e | e <;> rw [e] <;> decide
  refine ⟨Mk.u8 s.quote,_,e0,nx_of (s1:=Mk.endValue { s with at_:=s.at_ + 1,ret:=false }) he hb.1 hb.2 ?_ ?_ rfl⟩
  · rw [hn]
    unfold Mk.readByte
    simp [h.q,h.r,hst,Mk.readValue]
  · have f1:Mk.isStartTag (Mk.endValue { s with at_:=s.at_ + 1,ret:=false }).state=true:=rfl
    rw [rest_q (by exact h.q) (by exact h.r),later_start f1]
    rfl
theorem step_16 (h:Wq s) (he:s.ended=0) (hst:s.state=16):∃ x l,Mk.rest s=x :: l∧Nx s x l:=by
  have e0:Mk.rest s=39 :: ([39,47,62] ++ Mk.endTags s.opn.reverse):=by
    rw [rest_quiet h,later_start (by rw [hst];rfl)]
    unfold Mk.startRest
    rw [if_neg (by omega),if_neg (by omega),if_pos hst];rfl
  have em:=read_mark h (by omega) ((39:UInt8).toNat:Int)
  have em2:=mark_tag { s with at_:=s.at_ + 1,ret:=false } ((39:UInt8).toNat:Int) ⟨by show 12≤s.state;omega,by show s.state≤19;omega⟩
  refine ⟨39,_,e0,nx_of (s1:={ s with at_:=s.at_ + 1,ret:=false,quote:=39,state:=17 }) he (by decide) (by decide) ?_ ?_ rfl⟩
  · rw [em,em2]
    simp [Mk.readStartTag,Mk.readEquals,Mk.isSpace,hst]
  · rw [rest_q (by exact h.q) (by exact h.r),later_start rfl]
    rfl
theorem space_61 (z:St):Mk.readAttrSpace z 61=({ z with state:=16 },0):=by
  unfold Mk.readAttrSpace;simp [Mk.isSpace]
theorem step_15 (h:Wq s) (he:s.ended=0) (hst:s.state=15):∃ x l,Mk.rest s=x :: l∧Nx s x l:=by
  have e0:Mk.rest s=61 :: ([39,39,47,62] ++ Mk.endTags s.opn.reverse):=by
    rw [rest_quiet h,later_start (by rw [hst];rfl)]
    unfold Mk.startRest
    rw [if_neg (by omega),if_pos hst];rfl
  have em:=read_mark h (by omega) ((61:UInt8).toNat:Int)
  have em2:=mark_tag { s with at_:=s.at_ + 1,ret:=false } ((61:UInt8).toNat:Int) ⟨by show 12≤s.state;omega,by show s.state≤19;omega⟩
  refine ⟨61,_,e0,nx_of (s1:={ s with at_:=s.at_ + 1,ret:=false,state:=16 }) he (by decide) (by decide) ?_ ?_ rfl⟩
  · rw [em,em2]
    unfold Mk.readStartTag
    rw [if_neg (by show ¬ (s.state == 12)=true;rw [hst];decide),if_neg (by show ¬ (s.state == 13)=true;rw [hst];decide),if_neg (by show ¬ (s.state == 14)=true;rw [hst];decide),if_pos (by show (s.state == 15)=true;rw [hst];rfl)]
    exact space_61 _
  · rw [rest_q (by exact h.q) (by exact h.r),later_start rfl]
    rfl
theorem step_14 (h:Wq s) (he:s.ended=0) (hst:s.state=14):∃ x l,Mk.rest s=x :: l∧Nx s x l:=by
  have h14:=h.a14 hst
  have hbd:=h.bd
  have hin:Mk.inText { s with at_:=s.at_ + 1,ret:=false }=false:=by unfold Mk.inText;simp [hst]
  have e00:Mk.rest s=Mk.attrRest s ++ ([61,39,39,47,62] ++ Mk.endTags s.opn.reverse):=by
    rw [rest_quiet h,later_start (by rw [hst];rfl)]
    unfold Mk.startRest
    rw [if_pos hst];simp
  have em:=read_mark h (by omega)
  have em2:∀ b,Mk.readMark { s with at_:=s.at_ + 1,ret:=false } b=Mk.readAttrName { s with at_:=s.at_ + 1,ret:=false } b:=by
    intro b
    rw [mark_tag { s with at_:=s.at_ + 1,ret:=false } b ⟨by show 12≤s.state;omega,by show s.state≤19;omega⟩]
    unfold Mk.readStartTag
    rw [if_neg (by show ¬ (s.state == 12)=true;rw [hst];decide),if_neg (by show ¬ (s.state == 13)=true;rw [hst];decide),if_pos (by show (s.state == 14)=true;rw [hst];rfl)]
  cases hA:Mk.hasAttr s s.token
  · have e0:Mk.rest s=61 :: ([39,39,47,62] ++ Mk.endTags s.opn.reverse):=by
      rw [e00];unfold Mk.attrRest;rw [hA];rfl
    refine ⟨61,_,e0,nx_of (s1:={ s with at_:=s.at_ + 1,ret:=false,token:=[],count:=0,attr:=s.token,state:=16 }) he (by decide) (by decide) ?_ ?_ rfl⟩
    · rw [em,em2]
      unfold Mk.readAttrName
      rw [if_neg (by decide),if_neg (by decide),if_neg (by rw [show Mk.hasAttr { s with at_:=s.at_ + 1,ret:=false } ({ s with at_:=s.at_ + 1,ret:=false }:St).token=Mk.hasAttr s s.token from rfl,hA];decide)]
      exact space_61 _
    · rw [rest_q (by exact h.q) (by exact h.r),later_start rfl]
      rfl
  · obtain ⟨c,hc1,hc2,hc3,hc4,hc5⟩:=free_some s 58 65 (free_there (by omega))
    have e0:Mk.rest s=Mk.u8 c :: ([61,39,39,47,62] ++ Mk.endTags s.opn.reverse):=by
      rw [e00];unfold Mk.attrRest;rw [if_pos hA,hc3];rfl
    have hcn:((Mk.u8 c).toNat:Int)=c:=u8_nat (by omega) (by omega)
    have hfit:Mk.fits { s with at_:=s.at_ + 1,ret:=false } 1=true:=by
      have:=h14.1 hA
      unfold Mk.fits;rw [hin];simpa using this
    have n10:Mk.u8 c ≠ 10:=fun e=>by rw [e] at hcn;have:(10:Int)=c:=hcn;omega
    have n13:Mk.u8 c ≠ 13:=fun e=>by rw [e] at hcn;have:(13:Int)=c:=hcn;omega
    refine ⟨Mk.u8 c,_,e0,nx_of (s1:={ s with at_:=s.at_ + 1,ret:=false,token:=s.token ++ [Mk.u8 c],count:=s.count + 1 }) he n10 n13 ?_ ?_ rfl⟩
    · rw [em,em2,hcn]
      unfold Mk.readAttrName
      rw [if_pos hc4]
      unfold Mk.lengthenAttrName
      rw [if_pos hfit,put_out hin,encode_one c (by omega)]
      rw [if_neg (by
        show ¬ (!Mk.fits _ 1 && Mk.hasAttr s (s.token ++ [Mk.u8 c]))=true
        rw [hc5];simp)]
    · rw [rest_q (by exact h.q) (by exact h.r),later_start (by show Mk.isStartTag s.state=true;rw [hst];rfl)]
      unfold Mk.startRest
      rw [if_pos hst]
      unfold Mk.attrRest
      rw [if_neg (by show ¬ Mk.hasAttr s (s.token ++ [Mk.u8 c])=true;rw [hc5];decide)]
      rfl
theorem later_end (hst:s.state=20∨s.state=21) (ho:s.opn ≠ []):later s=Mk.markRest s ++ Mk.endTags s.opn.dropLast.reverse:=by
  have h1:Mk.isEndTag s.state=true:=by unfold Mk.isEndTag;simp;exact hst
  unfold later Mk.leftOpen
  rw [h1]
  simp [ho]
theorem endInnermost_rest (z:St) (hl:z.pl=0) (hr:Mk.isOpen z.rp=false):Mk.rest (Mk.endInnermost z)=Mk.endTags z.opn.dropLast.reverse∧(Mk.endInnermost z).on=z.on:=by
  have:=tellEnd_rest { z with opn:=z.opn.dropLast } (Mk.innermost z) (Mk.tellEnd { z with opn:=z.opn.dropLast } (Mk.innermost z)).name hl hr
  exact this
theorem step_20 (h:Wq s) (he:s.ended=0) (hst:s.state=20):∃ x l,Mk.rest s=x :: l∧Nx s x l:=by
  have ho:=h.o1 (by omega)
  have hm:=h.m20 hst
  have e00:Mk.rest s=Mk.behind (Mk.innermost s) s.matched ++ ([62] ++ Mk.endTags s.opn.dropLast.reverse):=by
    rw [rest_quiet h,later_end (.inl hst) ho];simp [Mk.markRest,hst]
  have em:=read_mark h (by omega)
  have em2:∀ b,Mk.readMark { s with at_:=s.at_ + 1,ret:=false } b=Mk.readEndName { s with at_:=s.at_ + 1,ret:=false } b:=by
    intro b;unfold Mk.readMark;simp [hst]
  by_cases hlt:s.matched<(Mk.innermost s).length
  · have hk:s.matched.toNat<(Mk.innermost s).length:=by omega
    have e1:Mk.behind (Mk.innermost s) s.matched=(Mk.innermost s)[s.matched.toNat] :: Mk.behind (Mk.innermost s) (s.matched + 1):=by
      unfold Mk.behind
      rw [if_neg (by omega),if_neg (by omega),show (s.matched + 1).toNat=s.matched.toNat + 1 by omega]
      exact List.drop_eq_getElem_cons hk
    have hmem:(Mk.innermost s)[s.matched.toNat] ∈ Mk.innermost s:=List.getElem_mem hk
    have hin:Mk.innermost s ∈ s.opn:=by
      unfold Mk.innermost
      rw [List.getLastD_eq_getLast?,List.getLast?_eq_some_getLast ho]
      exact List.getLast_mem ho
    have hb:=(h.on1 _ hin).1 _ hmem
    have n10:(Mk.innermost s)[s.matched.toNat] ≠ 10:=fun e=>by rw [e] at hb;exact absurd hb (by decide)
    have n13:(Mk.innermost s)[s.matched.toNat] ≠ 13:=fun e=>by rw [e] at hb;exact absurd hb (by decide)
    refine ⟨_,Mk.behind (Mk.innermost s) (s.matched + 1) ++ ([62] ++ Mk.endTags s.opn.dropLast.reverse),by rw [e00,e1];rfl,nx_of (s1:={ s with at_:=s.at_ + 1,ret:=false,matched:=s.matched + 1 }) he n10 n13 ?_ ?_ rfl⟩
    · rw [em,em2]
      unfold Mk.readEndName
      rw [if_pos (by exact hlt),if_neg (by
        show ¬ (((Mk.innermost s).getD s.matched.toNat 0).toNat:Int) ≠ _
        rw [List.getD_eq_getElem?_getD,List.getElem?_eq_getElem hk]
        simp)]
    · rw [rest_q (by exact h.q) (by exact h.r),later_end (by exact .inl hst) (by exact ho)];simp [Mk.markRest,hst];rfl
  · have e1:Mk.behind (Mk.innermost s) s.matched=[]:=by
      unfold Mk.behind
      rw [if_neg (by omega)]
      exact List.drop_eq_nil_of_le (by omega)
    have key:=endInnermost_rest { s with at_:=s.at_ + 1,ret:=false } h.q h.r
    refine ⟨62,Mk.endTags s.opn.dropLast.reverse,by rw [e00,e1];rfl,nx_of (s1:=Mk.endInnermost { s with at_:=s.at_ + 1,ret:=false }) he (by decide) (by decide) ?_ key.1 key.2⟩
    rw [em,em2]
    unfold Mk.readEndName
    rw [if_neg (by exact hlt),if_neg (by decide)]
    unfold Mk.readEndSpace
    rw [if_neg (by decide),if_pos (by decide)]
theorem step_21 (h:Wq s) (he:s.ended=0) (hst:s.state=21):∃ x l,Mk.rest s=x :: l∧Nx s x l:=by
  have ho:=h.o1 (by omega)
  have e0:Mk.rest s=62 :: Mk.endTags s.opn.dropLast.reverse:=by
    rw [rest_quiet h,later_end (.inr hst) ho];simp [Mk.markRest,hst]
  have em:=read_mark h (by omega)
  have em2:∀ b,Mk.readMark { s with at_:=s.at_ + 1,ret:=false } b=Mk.readEndSpace { s with at_:=s.at_ + 1,ret:=false } b:=by
    intro b;unfold Mk.readMark;simp [hst]
  have key:=endInnermost_rest { s with at_:=s.at_ + 1,ret:=false } h.q h.r
  refine ⟨62,_,e0,nx_of (s1:=Mk.endInnermost { s with at_:=s.at_ + 1,ret:=false }) he (by decide) (by decide) ?_ key.1 key.2⟩
  rw [em,em2]
  unfold Mk.readEndSpace
  rw [if_neg (by decide),if_pos (by decide)]
theorem step_any (h:W s) (hon:s.on=false) (he:s.ended=0):(Mk.rest s=[]∧Mk.isDocument s=true)∨∃ xs l,xs ≠ []∧Mk.rest s=xs ++ l∧(Mk.feedAll s xs).ended=0∧Mk.rest (Mk.feedAll s xs)=l∧(Mk.feedAll s xs).on=false:=by
  have one:(∃ x l,Mk.rest s=x :: l∧Nx s x l)→∃ xs l,xs ≠ []∧Mk.rest s=xs ++ l∧(Mk.feedAll s xs).ended=0∧Mk.rest (Mk.feedAll s xs)=l∧(Mk.feedAll s xs).on=false:=by
    rintro ⟨x,l,e,h1,h2,h3⟩
    exact ⟨[x],l,by simp,e,h1,h2,h3.trans hon⟩
  by_cases hp:0<s.pl
  · exact .inr (one (step_part h he hp))
  · have hp:s.pl=0:=by have:=h.p0;omega
    cases hr:Mk.isOpen s.rp
    · have hq:Wq s:=⟨h,hp,hr⟩
      have hst:=h.st
      have h22:s.state=0∨s.state=1∨s.state=2∨s.state=3∨s.state=4∨s.state=5∨s.state=6∨s.state=7∨s.state=8∨s.state=9∨s.state=10∨s.state=11∨(s.state=12∨s.state=13∨s.state=18)∨s.state=14∨s.state=15∨s.state=16∨s.state=17∨s.state=19∨s.state=20∨s.state=21:=by omega
      rcases h22 with e | e | e | e | e | e | e | e | e | e | e | e | e | e | e | e | e | e | e | e
      · have ho:=h.o0 e
        have hl:=later_ended s hp hr (.inl e)
        rw [ho] at hl
        cases hv:s.over
        · right
          rw [hv] at hl
          have hl:Mk.rest s=[60,97] ++ [47,62]:=hl
          have hin:Mk.inText { s with at_:=s.at_ + 1,ret:=false,state:=12 }=false:=rfl
          obtain ⟨a1,c1,e1⟩:=go_step (x:=60) (s1:={ s with at_:=s.at_ + 1,ret:=false,state:=3 }) he (by decide) (by decide) (by unfold Mk.readByte Mk.readOutside;simp [hp,hr,e,Mk.isSpace])
          obtain ⟨a2,c2,e2⟩:=go_step (s:=Mk.feedByte s 60) (x:=97) (s1:={ s with at_:=s.at_ + 1 + 1,ret:=false,line:=a1,column:=c1,ended:=0,state:=12,token:=s.token ++ [97],count:=s.count + 1 }) (by rw [e1]) (by decide) (by decide) (by
            rw [e1]
            have hd:=h.bd
            unfold Mk.readByte Mk.readMark Mk.readLess Mk.beginStart
            simp [hp,hr,ho,hv,Mk.beginsName,Mk.isLetter]
            rw [if_neg (by omega)]
            simp [Mk.put,Mk.inText]
            rfl)
          refine ⟨[60,97],[47,62],by simp,hl,?_,?_,?_⟩
          · show (Mk.feedByte (Mk.feedByte s 60) 97).ended=0
            rw [e2]
          · show Mk.rest (Mk.feedByte (Mk.feedByte s 60) 97)=_
            rw [e2,rest_q (by exact hp) (by exact hr),later_start rfl]
            show _ ++ Mk.endTags s.opn.reverse=_
            rw [ho];rfl
          · show (Mk.feedByte (Mk.feedByte s 60) 97).on=false
            rw [e2];exact hon
        · left
          rw [hv] at hl
          refine ⟨hl,?_⟩
          unfold Mk.isDocument
          rw [hv,e];rfl
      · right
        have ho:=h.o1 (.inl e)
        have hl:=later_ended s hp hr (.inr e)
        have hdec:s.opn.reverse=Mk.innermost s :: s.opn.dropLast.reverse:=by
          unfold Mk.innermost
          rw [List.getLastD_eq_getLast?,List.getLast?_eq_some_getLast ho]
          have:=List.dropLast_concat_getLast ho
          conv=>lhs;rw [← this]
          simp
        have hl2:Mk.rest s=[60,47] ++ (Mk.innermost s ++ ([62] ++ Mk.endTags s.opn.dropLast.reverse)):=by
          rw [hl,hdec]
          simp [Mk.endTags,ho]
        obtain ⟨a1,c1,e1⟩:=go_step (x:=60) (s1:={ s with at_:=s.at_ + 1,ret:=false,brackets:=0,state:=3 }) he (by decide) (by decide) (by unfold Mk.readByte Mk.readContent;simp [hp,hr,e])
        obtain ⟨a2,c2,e2⟩:=go_step (s:=Mk.feedByte s 60) (x:=47) (s1:={ s with at_:=s.at_ + 1 + 1,ret:=false,brackets:=0,line:=a1,column:=c1,ended:=0,state:=20,matched:=0 }) (by rw [e1]) (by decide) (by decide) (by
          rw [e1]
          have hlen:0<s.opn.length:=List.length_pos_iff.2 ho
          unfold Mk.readByte Mk.readMark Mk.readLess
          simp [hp,hr,ho])
        refine ⟨[60,47],_,by simp,hl2,?_,?_,?_⟩
        · show (Mk.feedByte (Mk.feedByte s 60) 47).ended=0
          rw [e2]
        · show Mk.rest (Mk.feedByte (Mk.feedByte s 60) 47)=_
          rw [e2,rest_q (by exact hp) (by exact hr),later_end (by exact .inl rfl) (by exact ho)]
          simp [Mk.markRest,Mk.behind]
          rfl
        · show (Mk.feedByte (Mk.feedByte s 60) 47).on=false
          rw [e2];exact hon
      · exact .inr (one (step_2 hq he e))
      · exact .inr (one (step_3 hq he e))
      · exact .inr (one (step_4 hq he e))
      · exact .inr (one (step_5 hq he e))
      · exact .inr (one (step_6 hq he e))
      · exact .inr (one (step_7 hq he e))
      · exact .inr (one (step_8 hq hon he e))
      · exact .inr (one (step_9 hq he e))
      · exact .inr (one (step_10 hq he e))
      · exact .inr (one (step_11 hq he e))
      · exact .inr (one (step_gap hq hon he e))
      · exact .inr (one (step_14 hq he e))
      · exact .inr (one (step_15 hq he e))
      · exact .inr (one (step_16 hq he e))
      · exact .inr (one (step_17 hq he e))
      · exact .inr (one (step_19 hq he e))
      · exact .inr (one (step_20 hq he e))
      · exact .inr (one (step_21 hq he e))
    · exact .inr (one (step_ref h he hp hr))
end
theorem feedAll_app:∀ (l r:Bs) (s:St),Mk.feedAll s (l ++ r)=Mk.feedAll (Mk.feedAll s l) r
  | [],r,s=>rfl
  | x :: l,r,s=>feedAll_app l r (Mk.feedByte s x)
theorem rest_completes:∀ (n:Nat) (s:St),W s→s.on=false→s.ended=0→(Mk.rest s).length≤n →
    (Mk.feedAll s (Mk.rest s)).ended=0∧Mk.isDocument (Mk.feedAll s (Mk.rest s))=true∧(Mk.feedAll s (Mk.rest s)).opn=[]:=by
  intro n
  induction n with
  | zero =>
    intro s h hon he hn
    have e:Mk.rest s=[]:=List.length_eq_zero_iff.1 (Nat.le_zero.1 hn)
    rcases step_any h hon he with ⟨e1,e2⟩ | ⟨xs,l,hne,e1,_⟩
    · rw [e1]
      refine ⟨he,e2,h.o0 ?_⟩
      unfold Mk.isDocument at e2
      simpa using (Bool.and_eq_true_iff.1 e2).2
    · rw [e] at e1
      exact absurd (List.append_eq_nil_iff.1 e1.symm).1 hne
  | succ n ih =>
    intro s h hon he hn
    rcases step_any h hon he with ⟨e1,e2⟩ | ⟨xs,l,hne,e1,g1,g2,g3⟩
    · rw [e1]
      refine ⟨he,e2,h.o0 ?_⟩
      unfold Mk.isDocument at e2
      simpa using (Bool.and_eq_true_iff.1 e2).2
    · have hlen:(Mk.rest s).length=xs.length + l.length:=by rw [e1];simp
      have hpos:0<xs.length:=List.length_pos_iff.2 hne
      have:=ih (Mk.feedAll s xs) (w_feedAll xs h g1) g3 g1 (by rw [g2];omega)
      rw [g2, ← feedAll_app, ← e1] at this
      exact this
def tagsLen:List Bs→Nat
  | []=>0
  | n :: r=>n.length + 3 + tagsLen r
theorem endTags_len:∀ l:List Bs,(Mk.endTags l).length=tagsLen l
  | []=>rfl
  | n :: r=>by
    show ([60,47] ++ n ++ [62] ++ Mk.endTags r).length=_
    simp only [List.length_append,endTags_len r,List.length_cons,List.length_nil,tagsLen]
    omega
theorem tagsLen_app:∀ l r:List Bs,tagsLen (l ++ r)=tagsLen l + tagsLen r
  | [],r=>by simp [tagsLen]
  | n :: l,r=>by simp only [List.cons_append,tagsLen,tagsLen_app l r];omega
theorem tagsLen_rev (l:List Bs):tagsLen l.reverse=tagsLen l:=by
  induction l with
  | nil=>rfl
  | cons n r ih=>rw [List.reverse_cons,tagsLen_app,ih];simp only [tagsLen];omega
theorem behind_len (w:Bs) (k:Int):(Mk.behind w k).length≤w.length:=by
  unfold Mk.behind
  split
  · exact Nat.zero_le _
  · rw [List.length_drop];omega
theorem partRest_len (c l:Int):(Mk.partRest c l).length≤3:=by
  unfold Mk.partRest
  repeat' split
  all_goals simp
theorem nameRest_len (n:Bs):(Mk.nameRest n Mk.refNames).length≤5:=by
  have:∀ (l:List (Bs × Int)),(∀ q ∈ l,q.1.length≤5)→(Mk.nameRest n l).length≤5:=by
    intro l
    induction l with
    | nil=>intro _;exact Nat.zero_le _
    | cons q r ih =>
      intro h
      obtain ⟨a,b⟩:=q
      unfold Mk.nameRest
      split
      · have:=h (a,b) List.mem_cons_self
        rw [List.length_drop];dsimp only at this;omega
      · exact ih fun q hq=>h q (List.mem_cons_of_mem _ hq)
  exact this _ (by decide)
theorem refRest_len (p:Int) (n:Bs) (c:Int):(Mk.refRest p n c).length≤5:=by
  unfold Mk.refRest Mk.numberRest
  split
  · exact nameRest_len n
  · repeat' split
    all_goals simp
theorem free_len (s:St):∀ (n:Nat) (b:Int),(Mk.freeFrom s n b).length≤1
  | 0,b=>by simp [Mk.freeFrom]
  | n + 1,b=>by
    unfold Mk.freeFrom
    split
    · simp
    · exact free_len s n _
theorem startRest_len (s:St):(Mk.startRest s).length≤6:=by
  unfold Mk.startRest Mk.attrRest
  repeat' split
  all_goals simp
  have:=free_len s 58 65
  omega
theorem instrRest_len (s:St):(Mk.instrRest s).length≤3:=by
  unfold Mk.instrRest
  split
  · simp
  · split
    · simp
    · exact Nat.le_trans (behind_len _ _) (by decide)
theorem rest_len {s:St} (h:W s):(Mk.rest s).length≤16 + tagsLen s.opn:=by
  have hp:(Mk.partRest s.pc s.pl).length + (Mk.refRest s.rp s.rn s.rc).length≤5:=by
    by_cases hl:0<s.pl
    · have:=h.pl hl
      rw [closed_rest this.2.2.2]
      have:=partRest_len s.pc s.pl
      simp;omega
    · have hl:s.pl=0:=by have:=h.p0;omega
      have:=refRest_len s.rp s.rn s.rc
      rw [hl]
      simpa [Mk.partRest] using this
  have e:=congrArg List.length (rest_later s)
  rw [List.length_append,List.length_append] at e
  have hm3:=behind_len [93,93,62] (s.held.length:Int)
  have hm7:=behind_len [45,45,62] (s.held.length:Int)
  have hm6:=behind_len Mk.cdata s.matched
  have hm20:=behind_len (Mk.innermost s) s.matched
  have hs:=startRest_len s
  have hi:=instrRest_len s
  have hc:Mk.cdata.length=6:=rfl
  simp only [List.length_cons,List.length_nil] at hm3 hm7
  have hlast:s.opn ≠ []→tagsLen s.opn=tagsLen s.opn.dropLast + (Mk.innermost s).length + 3:=by
    intro ho
    have e1:s.opn=s.opn.dropLast ++ [Mk.innermost s]:=by
      unfold Mk.innermost
      rw [List.getLastD_eq_getLast?,List.getLast?_eq_some_getLast ho]
      exact (List.dropLast_concat_getLast ho).symm
    have:=tagsLen_app s.opn.dropLast [Mk.innermost s]
    rw [← e1] at this
    rw [this];simp [tagsLen];omega
  have hlat:(later s).length≤11 + tagsLen s.opn:=by
    unfold later
    rw [List.length_append,List.length_append,endTags_len]
    by_cases h20:s.state=20∨s.state=21
    · have ho:=h.o1 (by omega)
      have h1:Mk.isEndTag s.state=true:=by unfold Mk.isEndTag;simp;exact h20
      unfold Mk.leftOpen
      rw [h1,if_pos rfl,tagsLen_rev]
      have:=hlast ho
      rw [if_neg (fun g=>ho g.1)]
      unfold Mk.markRest
      rw [if_neg (by omega),if_neg (by omega),if_neg (by omega),if_neg (by omega),if_neg (by omega),if_neg (by omega),if_neg (by omega)]
      split
      · simp only [List.length_append,List.length_cons,List.length_nil];omega
      · rw [if_pos (by omega)];simp only [List.length_cons,List.length_nil];omega
    · have h1:Mk.isEndTag s.state=false:=by unfold Mk.isEndTag;simp;omega
      unfold Mk.leftOpen
      rw [h1,if_neg (by decide),tagsLen_rev]
      have hmark:(Mk.markRest s).length≤9∧(s.state ≠ 6→(Mk.markRest s).length≤6):=by
        unfold Mk.markRest
        split
        · simp
        · split
          · simp
          · split
            · simp
            · split
              · simp
              · split
                · constructor <;> intros <;> omega
                · split
                  · rename_i g;simp only [List.length_append,List.length_cons,List.length_nil]
                    constructor
                    · omega
                    · intro q;exact absurd g q
                  · split
                    · constructor <;> intros <;> omega
                    · rw [if_neg (by omega),if_neg (by omega)]
                      split <;> constructor <;> intros <;> omega
      by_cases h6:s.state=6
      · have ho:=h.o1 (by omega)
        rw [if_neg (fun g=>ho g.1)]
        simp only [List.length_nil];omega
      · have:=hmark.2 h6
        by_cases hc2:s.opn=[]∧s.over=false∧Mk.isStartTag s.state=false
        · rw [if_pos hc2];simp only [List.length_cons,List.length_nil];omega
        · rw [if_neg hc2];simp only [List.length_nil];omega
  omega
end Go.Proofs.YtmgfijllcdadgabGreatDoor
