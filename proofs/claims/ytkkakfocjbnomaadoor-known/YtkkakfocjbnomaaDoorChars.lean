/-
  CONTRACTS of package chars.
-/
import Derived.Test.YtkkakfocjbnomaaDoorProg
import Derived.Test.YtkkakfocjbnomaaDoorModel
import Derived.WalkKit
import Derived.WalkSpells
namespace Go.Proofs.YtkkakfocjbnomaaDoor
set_option linter.unusedVariables false
set_option linter.unusedSimpArgs false
open Go.RowKit

theorem hide {p : Prop} (h : p) : Hid p := h
theorem unhide {p : Prop} (h : Hid p) : p := h
theorem retB {a b : Bool} (h : a = b) : Ending.returned (.bool a) = .returned (.bool b) := by rw [h]

theorem isSpace_any (b : Int) (w : World) : Calls Tryd.prog 55 #[.int .u8 b] w fun e w' => e = .returned (.bool (Mk.isSpace b)) ∧ w' = w := by
  go_enter Tryd.func55, Tryd.ntmps55
  go_wp2
  all_goals (go_ret; exact ⟨retB (by rw [Bool.eq_iff_iff]; simp [Mk.isSpace]; try omega), rfl⟩)
theorem isLetter_any (b : Int) (w : World) : Calls Tryd.prog 100 #[.int .u8 b] w fun e w' => e = .returned (.bool (Mk.isLetter b)) ∧ w' = w := by
  go_enter Tryd.func100, Tryd.ntmps100
  go_wp2
  all_goals (go_ret; exact ⟨retB (by rw [Bool.eq_iff_iff]; simp [Mk.isLetter]; try omega), rfl⟩)
theorem isDigit_any (b : Int) (w : World) : Calls Tryd.prog 101 #[.int .u8 b] w fun e w' => e = .returned (.bool (Mk.isDigit b)) ∧ w' = w := by
  go_enter Tryd.func101, Tryd.ntmps101
  go_wp2
  all_goals (go_ret; exact ⟨retB (by rw [Bool.eq_iff_iff]; simp [Mk.isDigit]; try omega), rfl⟩)
theorem beginsName_any (b : Int) (w : World) : Calls Tryd.prog 82 #[.int .u8 b] w fun e w' => e = .returned (.bool (Mk.beginsName b)) ∧ w' = w := by
  go_enter Tryd.func82, Tryd.ntmps82
  go_wp2
  all_goals (go_ret; exact ⟨retB (by rw [Bool.eq_iff_iff]; simp [Mk.isLetter, Mk.beginsName]; try omega), rfl⟩)
theorem inName_any (b : Int) (w : World) : Calls Tryd.prog 84 #[.int .u8 b] w fun e w' => e = .returned (.bool (Mk.inName b)) ∧ w' = w := by
  go_enter Tryd.func84, Tryd.ntmps84
  go_wp2
  all_goals (go_ret; exact ⟨retB (by rw [Bool.eq_iff_iff]; simp [Mk.isLetter, Mk.beginsName, Mk.inName, Mk.isDigit]; try omega), rfl⟩)
theorem isChar_any (c : Int) (w : World) : Calls Tryd.prog 96 #[.int .i64 c] w fun e w' => e = .returned (.bool (Mk.isChar c)) ∧ w' = w := by
  go_enter Tryd.func96, Tryd.ntmps96
  go_wp2
  all_goals (go_ret; exact ⟨retB (by rw [Bool.eq_iff_iff]; unfold Mk.isChar; repeat' split <;> simp <;> try omega), rfl⟩)

/-- The world behind Encode. -/
theorem encode_any (c : Int) (h0 : 0 ≤ c) (h1 : c ≤ 1114111) (w : World) :
    Calls Tryd.prog 76 #[.int .i64 c] w fun e w' => e = .returned (.slice (some ⟨w.heap.size, 0, none⟩) (Mk.encodeI c).length (Mk.encodeI c).length) ∧ w' = w.alloc (.cells ((Mk.encodeI c).map (Value.int .u8)).toArray 5) := by
  go_enter Tryd.func76, Tryd.ntmps76
  go_wp2
  all_goals (go_ret; unfold Mk.encodeI; repeat (first | rw [if_pos (by omega)] | rw [if_neg (by omega)]))
  all_goals exact ⟨rfl, rfl⟩

theorem ret2 {k : IntKind} {a a' : Int} {b b' : Bool} (h : a = a') (h' : b = b') : Ending.returned (.tuple #[.int k a, .bool b]) = .returned (.tuple #[.int k a', .bool b']) := by rw [h, h']
theorem digit_any (b : Int) (base : Int) (h0 : 0 ≤ b) (h1 : b ≤ 255) (_hb : 0 ≤ base) (_hb' : base ≤ 16) (w : World) : Calls Tryd.prog 98 #[.int .u8 b, .int .i64 base] w fun e w' =>
    e = .returned (.tuple #[.int .i64 ((Mk.digit b base).getD 0), .bool (Mk.digit b base).isSome]) ∧ w' = w := by
  go_enter Tryd.func98, Tryd.ntmps98
  go_wp2
  all_goals (go_ret2; refine ⟨ret2 ?_ ?_, rfl⟩)
  all_goals simp only [Mk.digit, Mk.digitVal, Mk.isDigit, Bool.and_eq_true, decide_eq_true_eq]
  all_goals (repeat' split) <;> simp <;> omega

end Go.Proofs.YtkkakfocjbnomaaDoor
