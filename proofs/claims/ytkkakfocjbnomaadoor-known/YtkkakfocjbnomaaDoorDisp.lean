/-
  CONTRACTS of package reader: what stands where.
-/
import Derived.Test.YtkkakfocjbnomaaDoorTags4
import Derived.Test.YtkkakfocjbnomaaDoorTags5
import Derived.Test.YtkkakfocjbnomaaDoorLess
import Derived.Test.YtkkakfocjbnomaaDoorInstr2
namespace Go.Proofs.YtkkakfocjbnomaaDoor
set_option linter.unusedVariables false
set_option linter.unusedSimpArgs false
open Go.RowKit
open Mk (St Bs Ev Att)

theorem readStartTag_any {w : World} {b : Nat} {s : St} {L : Lay} (h : RdL w b s L) (hB : Bd s) (x : Int) (h0 : 0 ≤ x) (h1 : x ≤ 255) (hl2 : s.list.length + 2 ≤ 100000000) :
    Calls Tryd.prog 71 #[.pointer (some ⟨b, 0, none⟩), .int .u8 x] w (Does w b s L (Mk.readStartTag s x)) := by
  have hc := h.cell
  have hlt := h.lt
  unfold cellsOf at hc
  by_cases p : s.state = 12
  ·
    have HX := hide (readStartName_any h hB x h0 h1 hl2)
    have hr : Mk.readStartTag s x = Mk.readStartName s x := by simp [Mk.readStartTag, p]
    rw [hr]
    clear hr h hB
    go_enter Tryd.func71, Tryd.ntmps71
    go_wp2_with (go_at_call 89; refine (unhide HX).mono ?_; rintro e w1 ⟨rfl, L1, hm1⟩; have HM1 := hide hm1; clear hm1)
    go_ret
    exact ⟨rfl, L1, unhide HM1⟩
  have e12 : (s.state == 12) = false := by rw [beq_eq_false_iff_ne]; exact p
  clear p
  by_cases p : s.state = 13
  ·
    have HX := hide (readStartSpace_any h hB x h0 h1 hl2)
    have hr : Mk.readStartTag s x = Mk.readStartSpace s x := by simp [Mk.readStartTag, e12, p]
    rw [hr]
    clear hr h hB
    go_enter Tryd.func71, Tryd.ntmps71
    go_wp2_with (go_at_call 90; refine (unhide HX).mono ?_; rintro e w1 ⟨rfl, L1, hm1⟩; have HM1 := hide hm1; clear hm1)
    go_ret
    exact ⟨rfl, L1, unhide HM1⟩
  have e13 : (s.state == 13) = false := by rw [beq_eq_false_iff_ne]; exact p
  clear p
  by_cases p : s.state = 14
  ·
    have HX := hide (readAttrName_any h hB x h0 h1)
    have hr : Mk.readStartTag s x = Mk.readAttrName s x := by simp [Mk.readStartTag, e12, e13, p]
    rw [hr]
    clear hr h hB
    go_enter Tryd.func71, Tryd.ntmps71
    go_wp2_with (go_at_call 91; refine (unhide HX).mono ?_; rintro e w1 ⟨rfl, L1, hm1⟩; have HM1 := hide hm1; clear hm1)
    go_ret
    exact ⟨rfl, L1, unhide HM1⟩
  have e14 : (s.state == 14) = false := by rw [beq_eq_false_iff_ne]; exact p
  clear p
  by_cases p : s.state = 15
  ·
    have HX := hide (readAttrSpace_any h hB x h0 h1)
    have hr : Mk.readStartTag s x = Mk.readAttrSpace s x := by simp [Mk.readStartTag, e12, e13, e14, p]
    rw [hr]
    clear hr h hB
    go_enter Tryd.func71, Tryd.ntmps71
    go_wp2_with (go_at_call 92; refine (unhide HX).mono ?_; rintro e w1 ⟨rfl, L1, hm1⟩; have HM1 := hide hm1; clear hm1)
    go_ret
    exact ⟨rfl, L1, unhide HM1⟩
  have e15 : (s.state == 15) = false := by rw [beq_eq_false_iff_ne]; exact p
  clear p
  by_cases p : s.state = 16
  ·
    have HX := hide (readEquals_any h hB x h0 h1)
    have hr : Mk.readStartTag s x = Mk.readEquals s x := by simp [Mk.readStartTag, e12, e13, e14, e15, p]
    rw [hr]
    clear hr h hB
    go_enter Tryd.func71, Tryd.ntmps71
    go_wp2_with (go_at_call 93; refine (unhide HX).mono ?_; rintro e w1 ⟨rfl, L1, hm1⟩; have HM1 := hide hm1; clear hm1)
    go_ret
    exact ⟨rfl, L1, unhide HM1⟩
  have e16 : (s.state == 16) = false := by rw [beq_eq_false_iff_ne]; exact p
  clear p
  by_cases p : s.state = 18
  ·
    have HX := hide (readStartGap_any h hB hl2 x)
    have hr : Mk.readStartTag s x = Mk.readStartGap s x := by simp [Mk.readStartTag, e12, e13, e14, e15, e16, p]
    rw [hr]
    clear hr h hB
    go_enter Tryd.func71, Tryd.ntmps71
    go_wp2_with (go_at_call 94; refine (unhide HX).mono ?_; rintro e w1 ⟨rfl, L1, hm1⟩; have HM1 := hide hm1; clear hm1)
    go_ret
    exact ⟨rfl, L1, unhide HM1⟩
  have e18 : (s.state == 18) = false := by rw [beq_eq_false_iff_ne]; exact p
  clear p
  have HX := hide (readSlash_any h hB x h0 h1 hl2)
  have hr : Mk.readStartTag s x = Mk.readSlash s x := by simp [Mk.readStartTag, e12, e13, e14, e15, e16, e18]
  rw [hr]
  clear hr h hB
  go_enter Tryd.func71, Tryd.ntmps71
  go_wp2_with (go_at_call 95; refine (unhide HX).mono ?_; rintro e w1 ⟨rfl, L1, hm1⟩; have HM1 := hide hm1; clear hm1)
  go_ret
  exact ⟨rfl, L1, unhide HM1⟩

theorem readMark_any {w : World} {b : Nat} {s : St} {L : Lay} (h : RdL w b s L) (hB : Bd s) (x : Int) (h0 : 0 ≤ x) (h1 : x ≤ 255) (hl2 : s.list.length + 2 ≤ 100000000) (hil : (Mk.innermost s).length ≤ 100000000) :
    Calls Tryd.prog 48 #[.pointer (some ⟨b, 0, none⟩), .int .u8 x] w (Does w b s L (Mk.readMark s x)) := by
  have hc := h.cell
  have hlt := h.lt
  unfold cellsOf at hc
  by_cases p : s.state = 3
  ·
    have HX := hide (readLess_any h hB x h0 h1)
    have hr : Mk.readMark s x = Mk.readLess s x := by simp [Mk.readMark, p]
    rw [hr]
    clear hr h hB
    go_enter Tryd.func48, Tryd.ntmps48
    go_wp2_with (go_at_call 62; refine (unhide HX).mono ?_; rintro e w1 ⟨rfl, L1, hm1⟩; have HM1 := hide hm1; clear hm1)
    go_ret
    exact ⟨rfl, L1, unhide HM1⟩
  have e3 : (s.state == 3) = false := by rw [beq_eq_false_iff_ne]; exact p
  clear p
  by_cases p : s.state = 4
  ·
    have HX := hide (readBang_any h hB x h0 h1)
    have hr : Mk.readMark s x = Mk.readBang s x := by simp [Mk.readMark, e3, p]
    rw [hr]
    clear hr h hB
    go_enter Tryd.func48, Tryd.ntmps48
    go_wp2_with (go_at_call 63; refine (unhide HX).mono ?_; rintro e w1 ⟨rfl, L1, hm1⟩; have HM1 := hide hm1; clear hm1)
    go_ret
    exact ⟨rfl, L1, unhide HM1⟩
  have e4 : (s.state == 4) = false := by rw [beq_eq_false_iff_ne]; exact p
  clear p
  by_cases p : s.state = 5
  ·
    have HX := hide (readDash_any h x)
    have hr : Mk.readMark s x = Mk.readDash s x := by simp [Mk.readMark, e3, e4, p]
    rw [hr]
    clear hr h hB
    go_enter Tryd.func48, Tryd.ntmps48
    go_wp2_with (go_at_call 64; refine (unhide HX).mono ?_; rintro e w1 ⟨rfl, L1, hm1⟩; have HM1 := hide hm1; clear hm1)
    go_ret
    exact ⟨rfl, L1, unhide HM1⟩
  have e5 : (s.state == 5) = false := by rw [beq_eq_false_iff_ne]; exact p
  clear p
  by_cases p : s.state = 6
  ·
    have HX := hide (readSectionMark_any h hB x h0 h1)
    have hr : Mk.readMark s x = Mk.readSectionMark s x := by simp [Mk.readMark, e3, e4, e5, p]
    rw [hr]
    clear hr h hB
    go_enter Tryd.func48, Tryd.ntmps48
    go_wp2_with (go_at_call 65; refine (unhide HX).mono ?_; rintro e w1 ⟨rfl, L1, hm1⟩; have HM1 := hide hm1; clear hm1)
    go_ret
    exact ⟨rfl, L1, unhide HM1⟩
  have e6 : (s.state == 6) = false := by rw [beq_eq_false_iff_ne]; exact p
  clear p
  by_cases p : s.state = 8
  ·
    have HX := hide (readInstructionName_any h hB x h0 h1)
    have hr : Mk.readMark s x = Mk.readInstructionName s x := by simp [Mk.readMark, e3, e4, e5, e6, p]
    rw [hr]
    clear hr h hB
    go_enter Tryd.func48, Tryd.ntmps48
    go_wp2_with (go_at_call 66; refine (unhide HX).mono ?_; rintro e w1 ⟨rfl, L1, hm1⟩; have HM1 := hide hm1; clear hm1)
    go_ret
    exact ⟨rfl, L1, unhide HM1⟩
  have e8 : (s.state == 8) = false := by rw [beq_eq_false_iff_ne]; exact p
  clear p
  by_cases p : s.state = 9
  ·
    have HX := hide (readBareInstruction_any h hB x)
    have hr : Mk.readMark s x = Mk.readBareInstruction s x := by simp [Mk.readMark, e3, e4, e5, e6, e8, p]
    rw [hr]
    clear hr h hB
    go_enter Tryd.func48, Tryd.ntmps48
    go_wp2_with (go_at_call 67; refine (unhide HX).mono ?_; rintro e w1 ⟨rfl, L1, hm1⟩; have HM1 := hide hm1; clear hm1)
    go_ret
    exact ⟨rfl, L1, unhide HM1⟩
  have e9 : (s.state == 9) = false := by rw [beq_eq_false_iff_ne]; exact p
  clear p
  by_cases p : s.state = 10
  ·
    have HX := hide (readInstructionSpace_any h hB x h0 h1)
    have hr : Mk.readMark s x = Mk.readInstructionSpace s x := by simp [Mk.readMark, e3, e4, e5, e6, e8, e9, p]
    rw [hr]
    clear hr h hB
    go_enter Tryd.func48, Tryd.ntmps48
    go_wp2_with (go_at_call 68; refine (unhide HX).mono ?_; rintro e w1 ⟨rfl, L1, hm1⟩; have HM1 := hide hm1; clear hm1)
    go_ret
    exact ⟨rfl, L1, unhide HM1⟩
  have e10 : (s.state == 10) = false := by rw [beq_eq_false_iff_ne]; exact p
  clear p
  by_cases p : s.state = 20
  ·
    have HX := hide (readEndName_any h hB x hil)
    have hr : Mk.readMark s x = Mk.readEndName s x := by simp [Mk.readMark, e3, e4, e5, e6, e8, e9, e10, p]
    rw [hr]
    clear hr h hB
    go_enter Tryd.func48, Tryd.ntmps48
    go_wp2_with (go_at_call 69; refine (unhide HX).mono ?_; rintro e w1 ⟨rfl, L1, hm1⟩; have HM1 := hide hm1; clear hm1)
    go_ret
    exact ⟨rfl, L1, unhide HM1⟩
  have e20 : (s.state == 20) = false := by rw [beq_eq_false_iff_ne]; exact p
  clear p
  by_cases p : s.state = 21
  ·
    have HX := hide (readEndSpace_any h hB x)
    have hr : Mk.readMark s x = Mk.readEndSpace s x := by simp [Mk.readMark, e3, e4, e5, e6, e8, e9, e10, e20, p]
    rw [hr]
    clear hr h hB
    go_enter Tryd.func48, Tryd.ntmps48
    go_wp2_with (go_at_call 70; refine (unhide HX).mono ?_; rintro e w1 ⟨rfl, L1, hm1⟩; have HM1 := hide hm1; clear hm1)
    go_ret
    exact ⟨rfl, L1, unhide HM1⟩
  have e21 : (s.state == 21) = false := by rw [beq_eq_false_iff_ne]; exact p
  clear p
  have HX := hide (readStartTag_any h hB x h0 h1 hl2)
  have hr : Mk.readMark s x = Mk.readStartTag s x := by simp [Mk.readMark, e3, e4, e5, e6, e8, e9, e10, e20, e21]
  rw [hr]
  clear hr h hB
  go_enter Tryd.func48, Tryd.ntmps48
  go_wp2_with (go_at_call 71; refine (unhide HX).mono ?_; rintro e w1 ⟨rfl, L1, hm1⟩; have HM1 := hide hm1; clear hm1)
  go_ret
  exact ⟨rfl, L1, unhide HM1⟩

end Go.Proofs.YtkkakfocjbnomaaDoor
