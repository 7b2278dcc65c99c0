/- SpN2, SpG -/
import Derived.Test.YtmgfijllcdadgabGreatDoorPM03
set_option linter.unusedVariables false
set_option linter.unusedSimpArgs false
namespace Go.Proofs.YtmgfijllcdadgabGreatDoor
open Go.RowKit
open Mk (St Bs Ev Att)
theorem localOf_len (l:Bs):(Mk.localOf l).length≤l.length:=by unfold Mk.localOf;split <;> simp
theorem isDeclaration_any (l:Bs) (hl:l.length≤100000000) (w:World):Calls Tryz.prog 183 #[.string ⟨l.toArray⟩] w fun e w' => e = .returned (.bool (Mk.isDecl l))∧w' = w:=by
  have HP:=hide (fun w=>prefixOf_any l hl w)
  have hd:Mk.isDecl l=(l == Mk.wXmlns || Mk.prefixOf l == Mk.wXmlns):=rfl
  rw [hd]
  clear hd
  unfold Mk.wXmlns
  generalize Mk.prefixOf l=x at *
  cases e1:(l == [120,109,108,110,115])
  · simp only [Bool.false_or]
    cases e2:(x == [120,109,108,110,115])
    · go_enter Tryz.func183,Tryz.ntmps183
      go_wp2_with (go_at_call 179;refine (unhide HP _).mono ?_;rintro e w1 ⟨rfl,rfl⟩)
      go_ret
      exact ⟨rfl,rfl⟩
    · go_enter Tryz.func183,Tryz.ntmps183
      go_wp2_with (go_at_call 179;refine (unhide HP _).mono ?_;rintro e w1 ⟨rfl,rfl⟩)
      go_ret
      exact ⟨rfl,rfl⟩
  · simp only [Bool.true_or]
    go_enter Tryz.func183,Tryz.ntmps183
    go_wp2
    go_ret
    exact ⟨rfl,rfl⟩
theorem declared_any (l:Bs) (hl:l.length≤100000000) (w:World):Calls Tryz.prog 184 #[.string ⟨l.toArray⟩] w fun e w' => e = .returned (.string ⟨(Mk.declared l).toArray⟩)∧w' = w:=by
  have HP:=hide (fun w=>localOf_any l hl w)
  have hd:Mk.declared l=if (l == Mk.wXmlns)=true then [] else Mk.localOf l:=rfl
  rw [hd]
  clear hd
  unfold Mk.wXmlns
  generalize Mk.localOf l=x at *
  cases e1:(l == [120,109,108,110,115])
  · simp only [Bool.false_eq_true,if_false]
    go_enter Tryz.func184,Tryz.ntmps184
    go_wp2_with fail
    refine (unhide HP _).mono ?_
    rintro e w1 ⟨rfl,rfl⟩
    go_wp2
    go_ret
    exact ⟨rfl,rfl⟩
  · simp only [if_true]
    go_enter Tryz.func184,Tryz.ntmps184
    go_wp2
    go_ret
    exact ⟨rfl,rfl⟩
set_option maxRecDepth 100000 in
theorem isQualified_any (l:Bs) (hl:l.length≤100000000) (w:World):Calls Tryz.prog 182 #[.string ⟨l.toArray⟩] w fun e w' => e = .returned (.bool (Mk.isQualified l))∧w' = w:=by
  have HH:=hide (fun w=>HasColon_any l hl w)
  have HL:=hide (fun w=>localOf_any l hl w)
  have HP:=hide (fun w=>prefixOf_any l hl w)
  have HH2:=hide (fun w=>HasColon_any (Mk.localOf l) (Nat.le_trans (localOf_len l) hl) w)
  have hd:Mk.isQualified l=if !Mk.hasColon l then true else (Mk.prefixOf l != []) && ((Mk.localOf l != []) && (Mk.beginsName ((Mk.localOf l).headD 0).toNat && !Mk.hasColon (Mk.localOf l))):=rfl
  rw [hd]
  clear hd
  generalize Mk.prefixOf l=p at *
  generalize Mk.localOf l=q at *
  generalize Mk.hasColon l=c at *
  generalize Mk.hasColon q=d at *
  cases c
  · simp only [Bool.not_false,if_true]
    go_enter Tryz.func182,Tryz.ntmps182
    go_wp2_with (go_at_call 149;refine (unhide HH _).mono ?_;rintro e w1 ⟨rfl,rfl⟩)
    go_ret
    exact ⟨rfl,rfl⟩
  · simp only [Bool.not_true,Bool.false_eq_true,if_false]
    cases e1:(p == [])
    · have e1' : (p != [])=true:=by simp [bne,e1]
      rw [e1', Bool.true_and]
      cases q with
      | nil =>
        simp only [bne_self_eq_false,Bool.false_and]
        go_enter Tryz.func182,Tryz.ntmps182
        go_wp2_with first | (go_at_call 149;refine (unhide HH _).mono ?_;rintro e w1 ⟨rfl,rfl⟩) | (go_at_call 187;refine (unhide HL _).mono ?_;rintro e w1 ⟨rfl,rfl⟩) | (go_at_call 179;refine (unhide HP _).mono ?_;rintro e w1 ⟨rfl,rfl⟩)
        go_ret
        exact ⟨rfl,rfl⟩
      | cons y r =>
        have e2:((y :: r:Bs) == [])=false:=rfl
        have e2' : ((y :: r:Bs) != [])=true:=rfl
        rw [e2', Bool.true_and]
        have hsa:∀ h,(ByteArray.mk (y :: r).toArray)[0]'h=y:=fun h=>rfl
        have HB:=hide (fun w=>beginsName_any (y.toNat:Int) w)
        have hy:((y :: r:Bs).headD 0)=y:=rfl
        rw [hy]
        generalize Mk.beginsName (y.toNat:Int)=z at *
        generalize hqq:(y :: r:Bs)=q at *
        have hlen:0<q.length:=by rw [← hqq];simp
        clear hqq hy
        cases z
        · simp only [Bool.false_and]
          go_enter Tryz.func182,Tryz.ntmps182
          go_wp2_with first | (go_at_call 149;refine (unhide HH _).mono ?_;rintro e w1 ⟨rfl,rfl⟩) | (go_at_call 187;refine (unhide HL _).mono ?_;rintro e w1 ⟨rfl,rfl⟩) | (go_at_call 179;refine (unhide HP _).mono ?_;rintro e w1 ⟨rfl,rfl⟩) | (go_at_call 145;refine (unhide HB _).mono ?_;rintro e w1 ⟨rfl,rfl⟩)
          go_ret
          exact ⟨rfl,rfl⟩
        · simp only [Bool.true_and]
          go_enter Tryz.func182,Tryz.ntmps182
          go_wp2_with first | (go_at_call 149;refine (unhide HH _).mono ?_;rintro e w1 ⟨rfl,rfl⟩) | (go_at_call 149;refine (unhide HH2 _).mono ?_;rintro e w1 ⟨rfl,rfl⟩) | (go_at_call 187;refine (unhide HL _).mono ?_;rintro e w1 ⟨rfl,rfl⟩) | (go_at_call 179;refine (unhide HP _).mono ?_;rintro e w1 ⟨rfl,rfl⟩) | (go_at_call 145;refine (unhide HB _).mono ?_;rintro e w1 ⟨rfl,rfl⟩)
          go_ret
          exact ⟨rfl,rfl⟩
    · have e1' : (p != [])=false:=by simp [bne,e1]
      rw [e1', Bool.false_and]
      go_enter Tryz.func182,Tryz.ntmps182
      go_wp2_with first | (go_at_call 149;refine (unhide HH _).mono ?_;rintro e w1 ⟨rfl,rfl⟩) | (go_at_call 187;refine (unhide HL _).mono ?_;rintro e w1 ⟨rfl,rfl⟩) | (go_at_call 179;refine (unhide HP _).mono ?_;rintro e w1 ⟨rfl,rfl⟩)
      go_ret
      exact ⟨rfl,rfl⟩
set_option maxRecDepth 100000 in
theorem isGood_any (p v:Bs) (w:World):Calls Tryz.prog 185 #[.agg #[.string ⟨p.toArray⟩,.string ⟨v.toArray⟩]] w fun e w' => e = .returned (.bool (Mk.isGood p v))∧Below w.heap.size w w' := by
  have hd:Mk.isGood p v=if p == [120,109,108,110,115] || v == [104,116,116,112,58,47,47,119,119,119,46,119,51,46,111,114,103,47,50,48,48,48,47,120,109,108,110,115,47] then false else if p == [120,109,108] || v == [104,116,116,112,58,47,47,119,119,119,46,119,51,46,111,114,103,47,88,77,76,47,49,57,57,56,47,110,97,109,101,115,112,97,99,101] then p == [120,109,108] && v == [104,116,116,112,58,47,47,119,119,119,46,119,51,46,111,114,103,47,88,77,76,47,49,57,57,56,47,110,97,109,101,115,112,97,99,101] else p == [] || v != []:=rfl
  rw [hd]
  clear hd
  cases a1:(p == [120,109,108,110,115])
  · skip
    cases a2:(v == [104,116,116,112,58,47,47,119,119,119,46,119,51,46,111,114,103,47,50,48,48,48,47,120,109,108,110,115,47])
    · skip
      cases a3:(p == [120,109,108])
      · skip
        cases a4:(v == [104,116,116,112,58,47,47,119,119,119,46,119,51,46,111,114,103,47,88,77,76,47,49,57,57,56,47,110,97,109,101,115,112,97,99,101])
        · skip
          cases a5:(p == [])
          · skip
            cases a6:(v == [])
            · skip
              simp only [bne,Bool.or_true,Bool.true_or,Bool.or_false,Bool.false_or,Bool.and_true,Bool.and_false,Bool.false_and,Bool.true_and,Bool.false_eq_true,Bool.not_true,Bool.not_false,if_true,if_false,a1,a2,a3,a4,a5,a6]
              go_enter Tryz.func185,Tryz.ntmps185
              go_wp2
              go_ret
              exact ⟨rfl,(Below.refl w.heap.size w).alloc (Nat.le_refl _) _⟩
            · skip
              simp only [bne,Bool.or_true,Bool.true_or,Bool.or_false,Bool.false_or,Bool.and_true,Bool.and_false,Bool.false_and,Bool.true_and,Bool.false_eq_true,Bool.not_true,Bool.not_false,if_true,if_false,a1,a2,a3,a4,a5,a6]
              go_enter Tryz.func185,Tryz.ntmps185
              go_wp2
              go_ret
              exact ⟨rfl,(Below.refl w.heap.size w).alloc (Nat.le_refl _) _⟩
          · skip
            simp only [bne,Bool.or_true,Bool.true_or,Bool.or_false,Bool.false_or,Bool.and_true,Bool.and_false,Bool.false_and,Bool.true_and,Bool.false_eq_true,Bool.not_true,Bool.not_false,if_true,if_false,a1,a2,a3,a4,a5]
            go_enter Tryz.func185,Tryz.ntmps185
            go_wp2
            go_ret
            exact ⟨rfl,(Below.refl w.heap.size w).alloc (Nat.le_refl _) _⟩
        · skip
          simp only [bne,Bool.or_true,Bool.true_or,Bool.or_false,Bool.false_or,Bool.and_true,Bool.and_false,Bool.false_and,Bool.true_and,Bool.false_eq_true,Bool.not_true,Bool.not_false,if_true,if_false,a1,a2,a3,a4]
          go_enter Tryz.func185,Tryz.ntmps185
          go_wp2
          go_ret
          exact ⟨rfl,(Below.refl w.heap.size w).alloc (Nat.le_refl _) _⟩
      · skip
        cases a4:(v == [104,116,116,112,58,47,47,119,119,119,46,119,51,46,111,114,103,47,88,77,76,47,49,57,57,56,47,110,97,109,101,115,112,97,99,101])
        · skip
          simp only [bne,Bool.or_true,Bool.true_or,Bool.or_false,Bool.false_or,Bool.and_true,Bool.and_false,Bool.false_and,Bool.true_and,Bool.false_eq_true,Bool.not_true,Bool.not_false,if_true,if_false,a1,a2,a3,a4]
          go_enter Tryz.func185,Tryz.ntmps185
          go_wp2
          go_ret
          exact ⟨rfl,(Below.refl w.heap.size w).alloc (Nat.le_refl _) _⟩
        · skip
          simp only [bne,Bool.or_true,Bool.true_or,Bool.or_false,Bool.false_or,Bool.and_true,Bool.and_false,Bool.false_and,Bool.true_and,Bool.false_eq_true,Bool.not_true,Bool.not_false,if_true,if_false,a1,a2,a3,a4]
          go_enter Tryz.func185,Tryz.ntmps185
          go_wp2
          go_ret
          exact ⟨rfl,(Below.refl w.heap.size w).alloc (Nat.le_refl _) _⟩
    · skip
      simp only [bne,Bool.or_true,Bool.true_or,Bool.or_false,Bool.false_or,Bool.and_true,Bool.and_false,Bool.false_and,Bool.true_and,Bool.false_eq_true,Bool.not_true,Bool.not_false,if_true,if_false,a1,a2]
      go_enter Tryz.func185,Tryz.ntmps185
      go_wp2
      go_ret
      exact ⟨rfl,(Below.refl w.heap.size w).alloc (Nat.le_refl _) _⟩
  · skip
    simp only [bne,Bool.or_true,Bool.true_or,Bool.or_false,Bool.false_or,Bool.and_true,Bool.and_false,Bool.false_and,Bool.true_and,Bool.false_eq_true,Bool.not_true,Bool.not_false,if_true,if_false,a1]
    go_enter Tryz.func185,Tryz.ntmps185
    go_wp2
    go_ret
    exact ⟨rfl,(Below.refl w.heap.size w).alloc (Nat.le_refl _) _⟩
end Go.Proofs.YtmgfijllcdadgabGreatDoor
