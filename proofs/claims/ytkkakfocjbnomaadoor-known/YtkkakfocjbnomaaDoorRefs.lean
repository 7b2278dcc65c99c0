/-
  CONTRACTS of package refs.
-/
import Derived.Test.YtkkakfocjbnomaaDoorParts
import Derived.Laws.IdiomStrings
namespace Go.Proofs.YtkkakfocjbnomaaDoor
set_option linter.unusedVariables false
set_option linter.unusedSimpArgs false
open Go.RowKit
open Mk (Bs)

theorem ext_list (x : Bs) (n : Nat) : (ByteArray.extract ⟨x.toArray⟩ 0 n).toList = x.take n := by
  simp [ByteArray.toList_eq, ByteArray.data_extract]
theorem begins_any (x y : Bs) (hx : x.length ≤ 100) (hy : y.length ≤ 100) (w : World) : Calls Tryd.prog 97 #[.string ⟨x.toArray⟩, .string ⟨y.toArray⟩] w fun e w' => e = .returned (.bool (y.isPrefixOf x)) ∧ w' = w := by
  by_cases h : y.length ≤ x.length
  · go_enter Tryd.func97, Tryd.ntmps97
    go_wp2
    go_ret
    refine ⟨retB ?_, rfl⟩
    rw [ext_list, Bool.eq_iff_iff, List.isPrefixOf_iff_prefix, List.prefix_iff_eq_take]
    rw [beq_iff_eq]
    exact eq_comm
  · have e0 : decide ((y.length : Int) ≤ (x.length : Int)) = false := by simp; omega
    go_enter Tryd.func97, Tryd.ntmps97
    go_wp2
    go_ret
    refine ⟨retB ?_, rfl⟩
    cases hp : y.isPrefixOf x
    · rfl
    · rw [List.isPrefixOf_iff_prefix] at hp
      exact absurd hp.length_le h

theorem isOpen_any (p : Int) (n : Bs) (c : Int) (w : World) : Calls Tryd.prog 40 #[.agg #[.int .i64 p, .string ⟨n.toArray⟩, .int .i64 c]] w fun e w' => e = .returned (.bool (Mk.isOpen p)) ∧ w' = w.alloc (.cells #[.int .i64 p, .string ⟨n.toArray⟩, .int .i64 c] 70) := by
  cases h : (p != 0)
  all_goals
    go_enter Tryd.func40, Tryd.ntmps40
    go_wp2
    go_ret
    refine ⟨retB ?_, rfl⟩
    simp [Mk.isOpen, h]
theorem code_any (p : Int) (n : Bs) (c : Int) (w : World) : Calls Tryd.prog 54 #[.agg #[.int .i64 p, .string ⟨n.toArray⟩, .int .i64 c]] w fun e w' => e = .returned (.int .i64 c) ∧ w' = w.alloc (.cells #[.int .i64 p, .string ⟨n.toArray⟩, .int .i64 c] 70) := by
  go_enter Tryd.func54, Tryd.ntmps54
  go_wp2
  all_goals (go_ret; exact ⟨rfl, rfl⟩)
theorem refBegin_any (w : World) : Calls Tryd.prog 56 #[] w fun e w' => e = .returned (.agg #[.int .i64 1, .string ⟨#[]⟩, .int .i64 0]) ∧ Below w.heap.size w w' := by
  go_enter Tryd.func56, Tryd.ntmps56
  go_wp2
  exact bodyPost_ret (v := .agg #[.int .i64 1, .string ⟨#[]⟩, .int .i64 0]) (by simp [results, Tryd.results56, go_sem]) rfl ⟨rfl, (Below.refl _ _).alloc (Nat.le_refl _) _⟩

/-- Result of the functions that give a reference and whether there is one. -/
def refAgg (o : Option Mk.Rf) : Array Value := #[.int .i64 ((o.map (·.place)).getD 0), .string ⟨((o.map (·.name)).getD []).toArray⟩, .int .i64 ((o.map (·.code)).getD 0)]
def refRes (o : Option Mk.Rf) : Value := .tuple #[.agg (refAgg o), .bool o.isSome]
theorem digit_none {b base : Int} (h : Mk.digit b base = none) : (Mk.digit b base).getD 0 = 0 ∧ (Mk.digit b base).isSome = false := by rw [h]; exact ⟨rfl, rfl⟩
theorem digit_bd {b base v : Int} (h0 : 0 ≤ b) (hb : 0 < base) (h : Mk.digit b base = some v) : 0 ≤ v ∧ v < base := by
  unfold Mk.digit at h
  split at h
  · cases h
  · cases h
    rename_i h1
    refine ⟨?_, by omega⟩
    unfold Mk.digitVal Mk.isDigit
    repeat' split
    all_goals simp_all
    all_goals omega
theorem refDigit_any (p : Int) (n : Bs) (c b base place : Int) (h0 : 0 ≤ b) (h1 : b ≤ 255) (c0 : 0 ≤ c) (c1 : c ≤ 1114111) (hb : base = 10 ∨ base = 16) (w : World) :
    Calls Tryd.prog 74 #[.agg #[.int .i64 p, .string ⟨n.toArray⟩, .int .i64 c], .int .u8 b, .int .i64 base, .int .i64 place] w fun e w' => e = .returned (refRes (Mk.refDigit c b base place)) ∧ w' = (w.alloc (.cells #[.int .i64 p, .string ⟨n.toArray⟩, .int .i64 c] 70)).alloc (.cells (refAgg (Mk.refDigit c b base place)) 70) := by
  have HD := hide (fun w => digit_any b base h0 h1 (by omega) (by omega) w)
  have hbb : 0 < base ∧ base ≤ 16 := by omega
  cases hd : Mk.digit b base with
  | none =>
    rw [hd] at HD
    have hm : Mk.refDigit c b base place = none := by simp [Mk.refDigit, hd]
    rw [hm]
    clear hm hd
    rcases hb with rfl | rfl
    all_goals
      go_enter Tryd.func74, Tryd.ntmps74
      go_wp2_with (go_at_call 98; refine (unhide HD _).mono ?_; rintro e w' ⟨rfl, rfl⟩)
      exact bodyPost_ret (v := refRes none) (by simp [results, Tryd.results74, go_sem, refRes, refAgg]) rfl ⟨rfl, rfl⟩
  | some v =>
    rw [hd] at HD
    have hv := digit_bd h0 hbb.1 hd
    by_cases hg : 1114111 < c * base + v
    · have hm : Mk.refDigit c b base place = none := by simp [Mk.refDigit, hd, hg]
      rw [hm]
      clear hm hd
      rcases hb with rfl | rfl
      all_goals
        go_enter Tryd.func74, Tryd.ntmps74
        go_wp2_with (go_at_call 98; refine (unhide HD _).mono ?_; rintro e w' ⟨rfl, rfl⟩)
        exact bodyPost_ret (v := refRes none) (by simp [results, Tryd.results74, go_sem, refRes, refAgg]) rfl ⟨rfl, rfl⟩
    · have hm : Mk.refDigit c b base place = some ⟨place, [], c * base + v⟩ := by simp [Mk.refDigit, hd]; omega
      rw [hm]
      clear hm hd
      have hg' : c * base + v ≤ 1114111 := by omega
      clear hg
      rcases hb with rfl | rfl
      · go_enter Tryd.func74, Tryd.ntmps74
        go_wp2_with (go_at_call 98; refine (unhide HD _).mono ?_; rintro e w' ⟨rfl, rfl⟩)
        exact bodyPost_ret (v := refRes (some ⟨place, [], c * 10 + v⟩)) (by simp [results, Tryd.results74, go_sem, refRes, refAgg]) rfl ⟨rfl, rfl⟩
      · go_enter Tryd.func74, Tryd.ntmps74
        go_wp2_with (go_at_call 98; refine (unhide HD _).mono ?_; rintro e w' ⟨rfl, rfl⟩)
        exact bodyPost_ret (v := refRes (some ⟨place, [], c * 16 + v⟩)) (by simp [results, Tryd.results74, go_sem, refRes, refAgg]) rfl ⟨rfl, rfl⟩

theorem digitOrEnd_any (p : Int) (n : Bs) (c b base place : Int) (h0 : 0 ≤ b) (h1 : b ≤ 255) (c0 : 0 ≤ c) (c1 : c ≤ 1114111) (hb : base = 10 ∨ base = 16) (w : World) :
    Calls Tryd.prog 75 #[.agg #[.int .i64 p, .string ⟨n.toArray⟩, .int .i64 c], .int .u8 b, .int .i64 base, .int .i64 place] w fun e w' => e = .returned (refRes (Mk.digitOrEnd c b base place)) ∧ Below w.heap.size w w' := by
  cases he : (b == 59)
  · have hm : Mk.digitOrEnd c b base place = Mk.refDigit c b base place := by simp [Mk.digitOrEnd, he]
    rw [hm]
    have he' : (b != 59) = true := by simp at he ⊢; exact he
    have HD := hide (fun w => refDigit_any p n c b base place h0 h1 c0 c1 hb w)
    clear hm
    cases hq : Mk.refDigit c b base place with
    | none =>
      rw [hq] at HD
      clear hq
      go_enter Tryd.func75, Tryd.ntmps75
      go_wp2_with (go_at_call 74; refine (unhide HD _).mono ?_; rintro e w1 ⟨rfl, rfl⟩; simp only [refRes, refAgg, Option.map_none, Option.getD_none, Option.isSome_none])
      exact bodyPost_ret (v := refRes none) (by simp [results, Tryd.results75, go_sem, refRes, refAgg]) rfl ⟨rfl, by repeat (first | exact Below.refl _ _ | refine Below.alloc ?_ (by simp <;> omega) _)⟩
    | some r =>
      rw [hq] at HD
      clear hq
      go_enter Tryd.func75, Tryd.ntmps75
      go_wp2_with (go_at_call 74; refine (unhide HD _).mono ?_; rintro e w1 ⟨rfl, rfl⟩; simp only [refRes, refAgg, Option.map_some, Option.getD_some, Option.isSome_some])
      exact bodyPost_ret (v := refRes (some r)) (by simp [results, Tryd.results75, go_sem, refRes, refAgg]) rfl ⟨rfl, by repeat (first | exact Below.refl _ _ | refine Below.alloc ?_ (by simp <;> omega) _)⟩
  · have he' : (b != 59) = false := by simp at he ⊢; exact he
    cases hi : Mk.isChar c
    · have hm : Mk.digitOrEnd c b base place = none := by simp [Mk.digitOrEnd, he, hi]
      rw [hm]
      clear hm
      go_enter Tryd.func75, Tryd.ntmps75
      go_wp2_with (go_at_call 96; refine (isChar_any _ _).mono ?_; rintro e w1 ⟨rfl, rfl⟩)
      exact bodyPost_ret (v := refRes none) (by simp [results, Tryd.results75, go_sem, refRes, refAgg]) rfl ⟨rfl, by repeat (first | exact Below.refl _ _ | refine Below.alloc ?_ (by simp <;> omega) _)⟩
    · have hm : Mk.digitOrEnd c b base place = some ⟨7, [], c⟩ := by simp [Mk.digitOrEnd, he, hi]
      rw [hm]
      clear hm
      go_enter Tryd.func75, Tryd.ntmps75
      go_wp2_with (go_at_call 96; refine (isChar_any _ _).mono ?_; rintro e w1 ⟨rfl, rfl⟩)
      exact bodyPost_ret (v := refRes (some ⟨7, [], c⟩)) (by simp [results, Tryd.results75, go_sem, refRes, refAgg]) rfl ⟨rfl, by repeat (first | exact Below.refl _ _ | refine Below.alloc ?_ (by simp <;> omega) _)⟩

/-- What the two tables hold. -/
structure Gl (w : World) : Prop where
  names : ∀ i, w.cell? ⟨0, i, none⟩ = (Mk.refNames.map fun p => Value.string ⟨p.1.toArray⟩)[i]?
  named : ∀ i, w.cell? ⟨1, i, none⟩ = (Mk.refNames.map fun p => Value.int .i64 p.2)[i]?
theorem Gl.below {w w' : World} (h : Gl w) (hs : 1 < w.heap.size) (hb : Below w.heap.size w w') : Gl w' :=
  ⟨fun i => (hb.cell (p := ⟨0, i, none⟩) (by show 0 < _; omega)).trans (h.names i), fun i => (hb.cell (p := ⟨1, i, none⟩) hs).trans (h.named i)⟩
theorem letter_step (name : Bs) (k : Nat) (hk : k < 5) : ∃ x c, (Mk.refNames.map fun p => Value.string ⟨p.1.toArray⟩)[k]? = some (.string ⟨x.toArray⟩) ∧ (Mk.refNames.map fun p => Value.int .i64 p.2)[k]? = some (.int .i64 c) ∧ x.length ≤ 5 ∧
    Mk.letterIn name (Mk.refNames.drop k) = if x = name then some ⟨7, [], c⟩ else if name.isPrefixOf x then some ⟨2, name, 0⟩ else Mk.letterIn name (Mk.refNames.drop (k + 1)) := by
  match k, hk with
  | 0, _ => exact ⟨_, _, rfl, rfl, by decide, rfl⟩
  | 1, _ => exact ⟨_, _, rfl, rfl, by decide, rfl⟩
  | 2, _ => exact ⟨_, _, rfl, rfl, by decide, rfl⟩
  | 3, _ => exact ⟨_, _, rfl, rfl, by decide, rfl⟩
  | 4, _ => exact ⟨_, _, rfl, rfl, by decide, rfl⟩
end Go.Proofs.YtkkakfocjbnomaaDoor
