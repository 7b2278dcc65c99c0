/-
  CONTRACTS of package reader: behind "<".
-/
import Derived.Test.YtkkakfocjbnomaaDoorContent
namespace Go.Proofs.YtkkakfocjbnomaaDoor
set_option linter.unusedVariables false
set_option linter.unusedSimpArgs false
open Go.RowKit
open Mk (St Bs Ev Att)

theorem readLess_any {w : World} {b : Nat} {s : St} {L : Lay} (h : RdL w b s L) (hB : Bd s) (x : Int) (h0 : 0 ≤ x) (h1 : x ≤ 255) :
    Calls Tryd.prog 62 #[.pointer (some ⟨b, 0, none⟩), .int .u8 x] w (Does w b s L (Mk.readLess s x)) := by
  have hc := h.cell
  have hf := h.frozen
  have hlt := h.lt
  have HM := hide h
  have ho := hB.ho
  have HS := hide (beginStart_any h hB x h0 h1)
  unfold cellsOf at hc
  clear h hB
  cases e1 : (x == 33)
  · cases e2 : (x == 63)
    · cases e3 : (x == 47)
      · have n3 : x ≠ 47 := by simpa using e3
        cases e5 : Mk.beginsName x
        · have hr : Mk.readLess s x = (s, 3) := by simp [Mk.readLess, e1, e2, n3, e5]
          rw [hr]
          clear hr HS n3
          go_enter Tryd.func62, Tryd.ntmps62
          go_wp2_with (go_at_call 82; refine (beginsName_any _ _).mono ?_; rintro e w1 ⟨rfl, rfl⟩)
          go_ret
          exact ⟨rfl, L, (unhide HM).start⟩
        · cases e6 : s.over
          · have hr : Mk.readLess s x = Mk.beginStart s x := by simp [Mk.readLess, e1, e2, n3, e5, e6]
            rw [hr]
            clear hr n3
            go_enter Tryd.func62, Tryd.ntmps62
            go_wp2_with (first | (go_at_call 82; refine (beginsName_any _ _).mono ?_; rintro e w1 ⟨rfl, rfl⟩) | (go_at_call 83; refine (unhide HS).mono ?_; rintro e w1 ⟨rfl, L1, hm1⟩; have HX := hide hm1; clear hm1))
            go_ret
            exact ⟨rfl, L1, unhide HX⟩
          · have hr : Mk.readLess s x = (s, 3) := by simp [Mk.readLess, e1, e2, n3, e5, e6]
            rw [hr]
            clear hr HS n3
            go_enter Tryd.func62, Tryd.ntmps62
            go_wp2_with (go_at_call 82; refine (beginsName_any _ _).mono ?_; rintro e w1 ⟨rfl, rfl⟩)
            go_ret
            exact ⟨rfl, L, (unhide HM).start⟩
      · have n3 : x = 47 := by simpa using e3
        by_cases e4 : 0 < s.opn.length
        · have hr : Mk.readLess s x = ({ s with state := 20, matched := 0 }, 0) := by simp [Mk.readLess, n3, e4]
          rw [hr]
          clear hr HS n3
          go_enter Tryd.func62, Tryd.ntmps62
          go_wp2
          go_ret
          exact ⟨rfl, L, ((unhide HM).start.store 4 (.int .i64 20) { s with state := 20 } rfl rfl rfl).store 15 _ _ rfl rfl rfl⟩
        · have e5 : Mk.beginsName x = false := by rw [n3]; decide
          have hr : Mk.readLess s x = (s, 3) := by simp [Mk.readLess, n3, e4, show Mk.beginsName 47 = false by decide]
          rw [hr]
          have e6 : s.opn.length = 0 := by omega
          clear hr HS n3 e4
          go_enter Tryd.func62, Tryd.ntmps62
          go_wp2_with (go_at_call 82; refine (beginsName_any _ _).mono ?_; rintro e w1 ⟨rfl, rfl⟩)
          go_ret
          exact ⟨rfl, L, (unhide HM).start⟩
    · have hr : Mk.readLess s x = ({ s with state := 8 }, 0) := by simp [Mk.readLess, e1, e2]
      rw [hr]
      clear hr HS
      go_enter Tryd.func62, Tryd.ntmps62
      go_wp2
      go_ret
      exact ⟨rfl, L, (unhide HM).start.store 4 _ _ rfl rfl rfl⟩
  · have hr : Mk.readLess s x = ({ s with state := 4 }, 0) := by simp [Mk.readLess, e1]
    rw [hr]
    clear hr HS
    go_enter Tryd.func62, Tryd.ntmps62
    go_wp2
    go_ret
    exact ⟨rfl, L, (unhide HM).start.store 4 _ _ rfl rfl rfl⟩

theorem readBang_any {w : World} {b : Nat} {s : St} {L : Lay} (h : RdL w b s L) (hB : Bd s) (x : Int) (h0 : 0 ≤ x) (h1 : x ≤ 255) :
    Calls Tryd.prog 63 #[.pointer (some ⟨b, 0, none⟩), .int .u8 x] w (Does w b s L (Mk.readBang s x)) := by
  have hc := h.cell
  have hf := h.frozen
  have hlt := h.lt
  have HM := hide h
  have ho := hB.ho
  unfold cellsOf at hc
  clear h hB
  cases e1 : (x == 45)
  · cases e3 : (x == 91)
    · have n3 : x ≠ 91 := by simpa using e3
      have hr : Mk.readBang s x = (s, 3) := by simp [Mk.readBang, e1, n3]
      rw [hr]
      clear hr n3
      go_enter Tryd.func63, Tryd.ntmps63
      go_wp2
      go_ret
      exact ⟨rfl, L, (unhide HM).start⟩
    · have n3 : x = 91 := by simpa using e3
      by_cases e4 : 0 < s.opn.length
      · have hr : Mk.readBang s x = ({ s with state := 6, matched := 0 }, 0) := by simp [Mk.readBang, n3, e4]
        rw [hr]
        clear hr n3
        go_enter Tryd.func63, Tryd.ntmps63
        go_wp2
        go_ret
        exact ⟨rfl, L, ((unhide HM).start.store 4 (.int .i64 6) { s with state := 6 } rfl rfl rfl).store 15 _ _ rfl rfl rfl⟩
      · have hr : Mk.readBang s x = (s, 3) := by simp [Mk.readBang, n3, e4]
        rw [hr]
        have e6 : s.opn.length = 0 := by omega
        clear hr n3 e4
        go_enter Tryd.func63, Tryd.ntmps63
        go_wp2
        go_ret
        exact ⟨rfl, L, (unhide HM).start⟩
  · have hr : Mk.readBang s x = ({ s with state := 5 }, 0) := by simp [Mk.readBang, e1]
    rw [hr]
    clear hr
    go_enter Tryd.func63, Tryd.ntmps63
    go_wp2
    go_ret
    exact ⟨rfl, L, (unhide HM).start.store 4 _ _ rfl rfl rfl⟩

theorem readSectionMark_any {w : World} {b : Nat} {s : St} {L : Lay} (h : RdL w b s L) (hB : Bd s) (x : Int) (h0 : 0 ≤ x) (h1 : x ≤ 255) :
    Calls Tryd.prog 65 #[.pointer (some ⟨b, 0, none⟩), .int .u8 x] w (Does w b s L (Mk.readSectionMark s x)) := by
  have hc := h.cell
  have hf := h.frozen
  have hlt := h.lt
  have HM := hide h
  have m0 := hB.m0
  unfold cellsOf at hc
  clear h hB
  by_cases g6 : 6 ≤ s.matched
  · have hr : Mk.readSectionMark s x = (s, 3) := by simp [Mk.readSectionMark, g6]
    rw [hr]
    clear hr
    go_enter Tryd.func65, Tryd.ntmps65
    go_wp2
    go_ret
    exact ⟨rfl, L, (unhide HM).start⟩
  · rcases (by omega : s.matched = 0 ∨ s.matched = 1 ∨ s.matched = 2 ∨ s.matched = 3 ∨ s.matched = 4 ∨ s.matched = 5) with g | g | g | g | g | g
    · cases e1 : (x == 67)
      · have n1 : x ≠ 67 := by simpa using e1
        have hr : Mk.readSectionMark s x = (s, 3) := by simp [Mk.readSectionMark, g, Mk.sectionMark]; omega
        rw [hr]
        have e2 : ((((⟨#[67, 68, 65, 84, 65, 91]⟩ : ByteArray)[0]'(by decide)).toNat : Int) != x) = true := by show ((67 : Int) != x) = true; simp; omega
        clear hr n1
        go_enter Tryd.func65, Tryd.ntmps65
        go_wp2
        go_ret
        exact ⟨rfl, L, (unhide HM).start⟩
      · have n1 : x = 67 := by simpa using e1
        have hr : Mk.readSectionMark s x = ({ s with matched := 1 }, 0) := by simp [Mk.readSectionMark, g, n1, Mk.sectionMark]
        rw [hr]
        clear hr
        subst n1
        go_enter Tryd.func65, Tryd.ntmps65
        go_wp2
        go_ret
        exact ⟨rfl, L, ((unhide HM).start.store 15 (.int .i64 1) { s with matched := 1 } rfl rfl rfl)⟩
    · cases e1 : (x == 68)
      · have n1 : x ≠ 68 := by simpa using e1
        have hr : Mk.readSectionMark s x = (s, 3) := by simp [Mk.readSectionMark, g, Mk.sectionMark]; omega
        rw [hr]
        have e2 : ((((⟨#[67, 68, 65, 84, 65, 91]⟩ : ByteArray)[1]'(by decide)).toNat : Int) != x) = true := by show ((68 : Int) != x) = true; simp; omega
        clear hr n1
        go_enter Tryd.func65, Tryd.ntmps65
        go_wp2
        go_ret
        exact ⟨rfl, L, (unhide HM).start⟩
      · have n1 : x = 68 := by simpa using e1
        have hr : Mk.readSectionMark s x = ({ s with matched := 2 }, 0) := by simp [Mk.readSectionMark, g, n1, Mk.sectionMark]
        rw [hr]
        clear hr
        subst n1
        go_enter Tryd.func65, Tryd.ntmps65
        go_wp2
        go_ret
        exact ⟨rfl, L, ((unhide HM).start.store 15 (.int .i64 2) { s with matched := 2 } rfl rfl rfl)⟩
    · cases e1 : (x == 65)
      · have n1 : x ≠ 65 := by simpa using e1
        have hr : Mk.readSectionMark s x = (s, 3) := by simp [Mk.readSectionMark, g, Mk.sectionMark]; omega
        rw [hr]
        have e2 : ((((⟨#[67, 68, 65, 84, 65, 91]⟩ : ByteArray)[2]'(by decide)).toNat : Int) != x) = true := by show ((65 : Int) != x) = true; simp; omega
        clear hr n1
        go_enter Tryd.func65, Tryd.ntmps65
        go_wp2
        go_ret
        exact ⟨rfl, L, (unhide HM).start⟩
      · have n1 : x = 65 := by simpa using e1
        have hr : Mk.readSectionMark s x = ({ s with matched := 3 }, 0) := by simp [Mk.readSectionMark, g, n1, Mk.sectionMark]
        rw [hr]
        clear hr
        subst n1
        go_enter Tryd.func65, Tryd.ntmps65
        go_wp2
        go_ret
        exact ⟨rfl, L, ((unhide HM).start.store 15 (.int .i64 3) { s with matched := 3 } rfl rfl rfl)⟩
    · cases e1 : (x == 84)
      · have n1 : x ≠ 84 := by simpa using e1
        have hr : Mk.readSectionMark s x = (s, 3) := by simp [Mk.readSectionMark, g, Mk.sectionMark]; omega
        rw [hr]
        have e2 : ((((⟨#[67, 68, 65, 84, 65, 91]⟩ : ByteArray)[3]'(by decide)).toNat : Int) != x) = true := by show ((84 : Int) != x) = true; simp; omega
        clear hr n1
        go_enter Tryd.func65, Tryd.ntmps65
        go_wp2
        go_ret
        exact ⟨rfl, L, (unhide HM).start⟩
      · have n1 : x = 84 := by simpa using e1
        have hr : Mk.readSectionMark s x = ({ s with matched := 4 }, 0) := by simp [Mk.readSectionMark, g, n1, Mk.sectionMark]
        rw [hr]
        clear hr
        subst n1
        go_enter Tryd.func65, Tryd.ntmps65
        go_wp2
        go_ret
        exact ⟨rfl, L, ((unhide HM).start.store 15 (.int .i64 4) { s with matched := 4 } rfl rfl rfl)⟩
    · cases e1 : (x == 65)
      · have n1 : x ≠ 65 := by simpa using e1
        have hr : Mk.readSectionMark s x = (s, 3) := by simp [Mk.readSectionMark, g, Mk.sectionMark]; omega
        rw [hr]
        have e2 : ((((⟨#[67, 68, 65, 84, 65, 91]⟩ : ByteArray)[4]'(by decide)).toNat : Int) != x) = true := by show ((65 : Int) != x) = true; simp; omega
        clear hr n1
        go_enter Tryd.func65, Tryd.ntmps65
        go_wp2
        go_ret
        exact ⟨rfl, L, (unhide HM).start⟩
      · have n1 : x = 65 := by simpa using e1
        have hr : Mk.readSectionMark s x = ({ s with matched := 5 }, 0) := by simp [Mk.readSectionMark, g, n1, Mk.sectionMark]
        rw [hr]
        clear hr
        subst n1
        go_enter Tryd.func65, Tryd.ntmps65
        go_wp2
        go_ret
        exact ⟨rfl, L, ((unhide HM).start.store 15 (.int .i64 5) { s with matched := 5 } rfl rfl rfl)⟩
    · cases e1 : (x == 91)
      · have n1 : x ≠ 91 := by simpa using e1
        have hr : Mk.readSectionMark s x = (s, 3) := by simp [Mk.readSectionMark, g, Mk.sectionMark]; omega
        rw [hr]
        have e2 : ((((⟨#[67, 68, 65, 84, 65, 91]⟩ : ByteArray)[5]'(by decide)).toNat : Int) != x) = true := by show ((91 : Int) != x) = true; simp; omega
        clear hr n1
        go_enter Tryd.func65, Tryd.ntmps65
        go_wp2
        go_ret
        exact ⟨rfl, L, (unhide HM).start⟩
      · have n1 : x = 91 := by simpa using e1
        have hr : Mk.readSectionMark s x = ({ s with matched := 6, state := 2 }, 0) := by simp [Mk.readSectionMark, g, n1, Mk.sectionMark]
        rw [hr]
        clear hr
        subst n1
        go_enter Tryd.func65, Tryd.ntmps65
        go_wp2
        go_ret
        exact ⟨rfl, L, ((unhide HM).start.store 15 (.int .i64 6) { s with matched := 6 } rfl rfl rfl).store 4 _ _ rfl rfl rfl⟩
end Go.Proofs.YtkkakfocjbnomaaDoor
