/-
  CONTRACTS of package chars: Begin, Part.
-/
import Derived.Test.YtkkakfocjbnomaaDoorChars
namespace Go.Proofs.YtkkakfocjbnomaaDoor
set_option linter.unusedVariables false
set_option linter.unusedSimpArgs false
open Go.RowKit

theorem partRet {c l c' l' : Int} {g g' : Bool} (h1 : c = c') (h2 : l = l') (h3 : g = g') :
    Ending.returned (.tuple #[.agg #[.int .i64 c, .int .i64 l], .bool g]) = .returned (.tuple #[.agg #[.int .i64 c', .int .i64 l'], .bool g']) := by rw [h1, h2, h3]

theorem begin_any (b : Int) (h0 : 0 ≤ b) (h1 : b ≤ 255) (w : World) : Calls Tryd.prog 78 #[.int .u8 b] w fun e w' =>
    e = .returned (.tuple #[.agg #[.int .i64 ((Mk.begin_ b).getD (0, 0)).1, .int .i64 ((Mk.begin_ b).getD (0, 0)).2], .bool (Mk.begin_ b).isSome]) ∧ Below w.heap.size w w' := by
  by_cases h : b < 128
  · cases hi : Mk.isChar b
    · have hm : Mk.begin_ b = none := by unfold Mk.begin_; rw [if_neg (by simp [hi]), if_neg (by omega), if_neg (by omega), if_neg (by omega)]
      rw [hm]
      go_enter Tryd.func78, Tryd.ntmps78
      go_wp2_with (go_at_call 96; refine (isChar_any _ _).mono ?_; rintro e w' ⟨rfl, rfl⟩)
      exact bodyPost_ret (v := .tuple #[.agg #[.int .i64 0, .int .i64 0], .bool false]) (by simp [results, Tryd.results78, go_sem]) rfl ⟨rfl, (Below.refl _ _).alloc (Nat.le_refl _) _⟩
    · have hm : Mk.begin_ b = some (b, 0) := by unfold Mk.begin_; rw [if_pos ⟨h, hi⟩]
      rw [hm]
      go_enter Tryd.func78, Tryd.ntmps78
      go_wp2_with (go_at_call 96; refine (isChar_any _ _).mono ?_; rintro e w' ⟨rfl, rfl⟩)
      exact bodyPost_ret (v := .tuple #[.agg #[.int .i64 b, .int .i64 0], .bool true]) (by simp [results, Tryd.results78, go_sem]) rfl ⟨rfl, (Below.refl _ _).alloc (Nat.le_refl _) _⟩
  · obtain ⟨m, hm⟩ : ∃ m, Mk.begin_ b = m := ⟨_, rfl⟩
    rcases (by omega : (194 ≤ b ∧ b ≤ 223) ∨ (224 ≤ b ∧ b ≤ 239) ∨ (240 ≤ b ∧ b ≤ 244) ∨ (128 ≤ b ∧ b < 194) ∨ 244 < b) with ⟨g1, g2⟩ | ⟨g1, g2⟩ | ⟨g1, g2⟩ | ⟨g1, g2⟩ | g1
    · have hm : Mk.begin_ b = some (b - 192, 1) := by unfold Mk.begin_; rw [if_neg (by omega), if_pos (by omega)]
      rw [hm]
      go_enter Tryd.func78, Tryd.ntmps78
      go_wp2
      exact bodyPost_ret (v := .tuple #[.agg #[.int .i64 (b - 192), .int .i64 1], .bool true]) (by simp [results, Tryd.results78, go_sem]) rfl ⟨rfl, (Below.refl _ _).alloc (Nat.le_refl _) _⟩
    · have hm : Mk.begin_ b = some (b - 224, 2) := by unfold Mk.begin_; rw [if_neg (by omega), if_neg (by omega), if_pos (by omega)]
      rw [hm]
      go_enter Tryd.func78, Tryd.ntmps78
      go_wp2
      exact bodyPost_ret (v := .tuple #[.agg #[.int .i64 (b - 224), .int .i64 2], .bool true]) (by simp [results, Tryd.results78, go_sem]) rfl ⟨rfl, (Below.refl _ _).alloc (Nat.le_refl _) _⟩
    · have hm : Mk.begin_ b = some (b - 240, 3) := by unfold Mk.begin_; rw [if_neg (by omega), if_neg (by omega), if_neg (by omega), if_pos (by omega)]
      rw [hm]
      go_enter Tryd.func78, Tryd.ntmps78
      go_wp2
      exact bodyPost_ret (v := .tuple #[.agg #[.int .i64 (b - 240), .int .i64 3], .bool true]) (by simp [results, Tryd.results78, go_sem]) rfl ⟨rfl, (Below.refl _ _).alloc (Nat.le_refl _) _⟩
    · have hm : Mk.begin_ b = none := by unfold Mk.begin_; rw [if_neg (by omega), if_neg (by omega), if_neg (by omega), if_neg (by omega)]
      rw [hm]
      go_enter Tryd.func78, Tryd.ntmps78
      go_wp2
      all_goals exact bodyPost_ret (v := .tuple #[.agg #[.int .i64 0, .int .i64 0], .bool false]) (by simp [results, Tryd.results78, go_sem]) rfl ⟨rfl, (Below.refl _ _).alloc (Nat.le_refl _) _⟩
    · have hm : Mk.begin_ b = none := by unfold Mk.begin_; rw [if_neg (by omega), if_neg (by omega), if_neg (by omega), if_neg (by omega)]
      rw [hm]
      go_enter Tryd.func78, Tryd.ntmps78
      go_wp2
      all_goals exact bodyPost_ret (v := .tuple #[.agg #[.int .i64 0, .int .i64 0], .bool false]) (by simp [results, Tryd.results78, go_sem]) rfl ⟨rfl, (Below.refl _ _).alloc (Nat.le_refl _) _⟩

theorem canEnd_any (c l : Int) (w : World) : Calls Tryd.prog 72 #[.agg #[.int .i64 c, .int .i64 l]] w fun e w' =>
    e = .returned (.bool (Mk.canEnd c l)) ∧ w' = w.alloc (.cells #[.int .i64 c, .int .i64 l] 68) := by
  go_enter Tryd.func72, Tryd.ntmps72
  go_wp2_with (go_at_call 96; refine (isChar_any _ _).mono ?_; rintro e w' ⟨rfl, rfl⟩)
  all_goals (go_ret; refine ⟨retB ?_, rfl⟩)
  all_goals (unfold Mk.canEnd; simp_all)
  all_goals omega

theorem next_any (c l b : Int) (h0 : 0 ≤ b) (h1 : b ≤ 255) (c0 : 0 ≤ c) (c1 : c ≤ 2097151) (l0 : 0 ≤ l) (l1 : l ≤ 3) (w : World) : Calls Tryd.prog 50 #[.agg #[.int .i64 c, .int .i64 l], .int .u8 b] w fun e w' =>
    e = .returned (.tuple #[.agg #[.int .i64 ((Mk.nextPart c l b).getD (0, 0)).1, .int .i64 ((Mk.nextPart c l b).getD (0, 0)).2], .bool (Mk.nextPart c l b).isSome]) ∧ Below w.heap.size w w' := by
  by_cases h : b < 128 ∨ 191 < b
  · have hm : Mk.nextPart c l b = none := by unfold Mk.nextPart; rw [if_pos h]
    rw [hm]
    clear hm
    rcases h with h | h
    all_goals
      go_enter Tryd.func50, Tryd.ntmps50
      go_wp2
      exact bodyPost_ret (v := .tuple #[.agg #[.int .i64 0, .int .i64 0], .bool false]) (by simp [results, Tryd.results50, go_sem]) rfl ⟨rfl, ((Below.refl _ _).alloc (Nat.le_refl _) _).alloc (by simp) _⟩
  · have g1 : 128 ≤ b := by omega
    have g2 : b ≤ 191 := by omega
    cases hc : Mk.canEnd (c * 64 + b - 128) (l - 1)
    · have hm : Mk.nextPart c l b = none := by unfold Mk.nextPart; rw [if_neg h, hc]; rfl
      rw [hm]
      clear hm h
      go_enter Tryd.func50, Tryd.ntmps50
      go_wp2_with (go_at_call 72; refine (canEnd_any _ _ _).mono ?_; rintro e w' ⟨rfl, rfl⟩)
      exact bodyPost_ret (v := .tuple #[.agg #[.int .i64 0, .int .i64 0], .bool false]) (by simp [results, Tryd.results50, go_sem]) rfl ⟨rfl, ((((Below.refl _ _).alloc (Nat.le_refl _) _).alloc (by simp) _).alloc (by simp; omega) _).alloc (by simp; omega) _⟩
    · have hm : Mk.nextPart c l b = some (c * 64 + b - 128, l - 1) := by unfold Mk.nextPart; rw [if_neg h, hc]; rfl
      rw [hm]
      clear hm h
      go_enter Tryd.func50, Tryd.ntmps50
      go_wp2_with (go_at_call 72; refine (canEnd_any _ _ _).mono ?_; rintro e w' ⟨rfl, rfl⟩)
      exact bodyPost_ret (v := .tuple #[.agg #[.int .i64 (c * 64 + b - 128), .int .i64 (l - 1)], .bool true]) (by simp [results, Tryd.results50, go_sem]) rfl ⟨rfl, ((((Below.refl _ _).alloc (Nat.le_refl _) _).alloc (by simp) _).alloc (by simp; omega) _).alloc (by simp; omega) _⟩
end Go.Proofs.YtkkakfocjbnomaaDoor
