/-
  CONTRACTS of package markupkeep: what is the same is called the same.
-/
import Derived.Test.YtkkakfocjbnomaaDoorFeed
namespace Go.Proofs.YtkkakfocjbnomaaDoor
set_option linter.unusedVariables false
set_option linter.unusedSimpArgs false
open Go.RowKit
open Mk (St Bs Ev Att)

/-- The cells of an element of a row. -/
theorem elem_cells {w : World} {base : Nat} {e : TypeId} {v : Value} {n m : Nat} {α : Type} (f : α → List Value) (hf : ∀ a, (f a).length = m) {l : List α} (hm : 0 < m) (h : w.ownsRow base e m v n (l.flatMap f)) (hn : n = l.length) (k : Nat) (hk : k < l.length) :
    ∃ g c, v = .slice (some ⟨g, 0, none⟩) n c ∧ g < w.heap.size ∧ ∀ j, j < m → w.cell? ⟨g, k * m + j, none⟩ = (f l[k])[j]? := by
  obtain ⟨g, c, hv, _, hlt⟩ := World.ownsRow.form h (by omega)
  refine ⟨g, c, hv, hlt, fun j hj => ?_⟩
  subst hv
  rw [row_cell h (k * m + j) ?_]
  · exact flat_get f m hf l k hk j hj
  · have h1 : (k + 1) * m ≤ n * m := Nat.mul_le_mul_right _ (by omega)
    rw [Nat.succ_mul] at h1
    omega

theorem drewN_two (w : World) (n m : Nat) : (w.drewN n).drewN m = w.drewN (n + m) := by simp [World.drewN, Nat.add_assoc]
theorem slice_form {w : World} {base : Nat} {e : TypeId} {size : Nat} {v : Value} {n : Nat} {xs : List Value} (h : w.ownsRow base e size v n xs) : ∃ a c, v = .slice a n c := by
  rcases h.2 with ⟨h1, h2⟩ | ⟨g, cap, cur, h1, _⟩
  · exact ⟨none, 0, by rw [h1, h2]⟩
  · exact ⟨_, _, h1⟩

theorem own_len {w : World} {base : Nat} {e : TypeId} {size : Nat} {v : Value} {n : Nat} {xs : List Value} (h : w.ownsRow base e size v n xs) : n ≤ 9223372036854775807 := by
  rcases h.2 with ⟨_, h2⟩ | ⟨g, cap, cur, _, _, _, h3, h4, _⟩
  · omega
  · unfold maxLen at h4; omega

set_option maxHeartbeats 1000000 in
theorem sameAttrs_eq {w : World} {v1 v2 : Value} {l : List Att} (h1 : w.ownsRow 0 50 3 v1 l.length (atsRow l)) (h2 : w.ownsRow 0 50 3 v2 l.length (atsRow l)) :
    Calls Tryd.prog 24 #[v1, v2] w fun e w' => e = .returned (.bool true) ∧ ∃ n, w' = w.drewN n := by
  have hl := own_len h1
  have HE1 := hide (fun k hk => elem_cells atCells (fun _ => rfl) (by decide) h1 rfl k hk)
  have HE2 := hide (fun k hk => elem_cells atCells (fun _ => rfl) (by decide) h2 rfl k hk)
  obtain ⟨a1, c1, rfl⟩ := slice_form h1
  obtain ⟨a2, c2, rfl⟩ := slice_form h2
  clear h1 h2
  have e0 : ((l.length : Int) != (l.length : Int)) = false := by simp
  go_enter Tryd.func24, Tryd.ntmps24
  go_wp2
  go_loopw [5] (fun i w' => ∃ k : Nat, k ≤ l.length ∧ i = .int .i64 k ∧ ∃ n, w' = w.drewN n) (fun i _ => l.length - (intOf i).toNat)
  case atStart => exact ⟨0, by omega, rfl, 0, rfl⟩
  case round =>
    obtain ⟨k, hk, rfl, n, rfl⟩ := hrel
    by_cases hlt : k < l.length
    · obtain ⟨g1, d1, f1, _, q1⟩ := (unhide HE1) k hlt
      obtain ⟨g2, d2, f2, _, q2⟩ := (unhide HE2) k hlt
      injection f1 with f1 _ f1c
      injection f2 with f2 _ f2c
      subst f1
      subst f2
      subst f1c
      subst f2c
      have p10 := q1 0 (by decide)
      have p11 := q1 1 (by decide)
      have p12 := q1 2 (by decide)
      have p20 := q2 0 (by decide)
      have p21 := q2 1 (by decide)
      have p22 := q2 2 (by decide)
      simp [atCells] at p10 p11 p12 p20 p21 p22
      clear q1 q2 HE1 HE2
      generalize l[k] = x at *
      go_wp2
      go_quiet (fail)
      go_wp2
      go_roundw
      case rel => exact ⟨k + 1, by omega, by go_num, _, rfl⟩
      case measure => simp [intOf]; omega
    · have e1 : decide ((k : Int) < (l.length : Int)) = false := by simp; omega
      clear HE1 HE2
      go_wp2
      go_ret
      exact ⟨rfl, n, rfl⟩

theorem owned_drewN {w : World} {base : Nat} {e : TypeId} {size : Nat} {v : Value} {n : Nat} {xs : List Value} (h : w.ownsRow base e size v n xs) (m : Nat) : (w.drewN m).ownsRow base e size v n xs :=
  owned_keep (r := ⟨e, size, v, n, xs⟩) h fun _ _ => by rw [heap_drewN]

set_option maxHeartbeats 2000000 in
theorem sameEvents_eq {w : World} {v1 v2 : Value} {l : List Ev} {fp1 fp2 : List Nat} (h1 : Got w v1 l fp1) (h2 : Got w v2 l fp2) :
    Calls Tryd.prog 10 #[v1, v2] w fun e w' => e = .returned (.bool true) ∧ ∃ n, w' = w.drewN n := by
  obtain ⟨es1, hl1, ho1, ha1, _, _⟩ := h1.ex
  obtain ⟨es2, hl2, ho2, ha2, _, _⟩ := h2.ex
  have hl := own_len ho1
  have n1 : es1.length = l.length := by rw [← hl1]; simp
  have n2 : es2.length = l.length := by rw [← hl2]; simp
  have HE1 := hide (fun k hk => elem_cells (l := es1) (fun p => evCells p.1 p.2) (fun _ => rfl) (by decide) ho1 n1.symm k hk)
  have HE2 := hide (fun k hk => elem_cells (l := es2) (fun p => evCells p.1 p.2) (fun _ => rfl) (by decide) ho2 n2.symm k hk)
  obtain ⟨a1, c1, rfl⟩ := slice_form ho1
  obtain ⟨a2, c2, rfl⟩ := slice_form ho2
  have HA : Hid (∀ k (hk : k < l.length) (k1 : k < es1.length) (k2 : k < es2.length), es1[k].1 = l[k] ∧ es2[k].1 = l[k] ∧ ∀ n, Calls Tryd.prog 24 #[es1[k].2, es2[k].2] (w.drewN n) fun e w' => e = .returned (.bool true) ∧ ∃ m, w' = (w.drewN n).drewN m) := by
    intro k hk k1 k2
    have g1 : es1[k].1 = l[k] := by simp only [← hl1, List.getElem_map]
    have g2 : es2[k].1 = l[k] := by simp only [← hl2, List.getElem_map]
    refine ⟨g1, g2, fun n => ?_⟩
    have o1 := ha1 _ (List.getElem_mem k1)
    have o2 := ha2 _ (List.getElem_mem k2)
    unfold Row.owned evRow at o1 o2
    simp only [g1, g2] at o1 o2
    exact sameAttrs_eq (owned_drewN o1 n) (owned_drewN o2 n)
  clear h1 h2 ho1 ho2 ha1 ha2 hl1 hl2
  have e0 : ((l.length : Int) != (l.length : Int)) = false := by simp
  go_enter Tryd.func10, Tryd.ntmps10
  go_wp2
  go_loopw [5] (fun i w' => ∃ k : Nat, k ≤ l.length ∧ i = .int .i64 k ∧ ∃ n, w' = w.drewN n) (fun i _ => l.length - (intOf i).toNat)
  case atStart => exact ⟨0, by omega, rfl, 0, rfl⟩
  case round =>
    obtain ⟨k, hk, rfl, n, rfl⟩ := hrel
    by_cases hlt : k < l.length
    · obtain ⟨g1, d1, f1, _, q1⟩ := (unhide HE1) k (by omega)
      obtain ⟨g2, d2, f2, _, q2⟩ := (unhide HE2) k (by omega)
      obtain ⟨r1, r2, HC⟩ := (unhide HA) k hlt (by omega) (by omega)
      injection f1 with f1 _ f1c
      injection f2 with f2 _ f2c
      subst f1
      subst f2
      subst f1c
      subst f2c
      have p10 := q1 0 (by decide)
      have p11 := q1 1 (by decide)
      have p12 := q1 2 (by decide)
      have p13 := q1 3 (by decide)
      have p14 := q1 4 (by decide)
      have p20 := q2 0 (by decide)
      have p21 := q2 1 (by decide)
      have p22 := q2 2 (by decide)
      have p23 := q2 3 (by decide)
      have p24 := q2 4 (by decide)
      rw [r1] at p10 p11 p12 p13 p14
      rw [r2] at p20 p21 p22 p23 p24
      have hcell : ∀ a, (w.drewN n).cell? a = w.cell? a := fun a => by simp
      rw [← hcell] at p10 p11 p12 p13 p14 p20 p21 p22 p23 p24
      clear q1 q2 HE1 HE2 HA r1 r2 hcell
      generalize es1[k].2 = v1 at *
      generalize es2[k].2 = v2 at *
      generalize l[k] = x at *
      simp only [evCells, List.getElem?_cons_zero, List.getElem?_cons_succ, Nat.add_zero] at p10 p11 p12 p13 p14 p20 p21 p22 p23 p24
      have HC' : Hid (∀ m, Calls Tryd.prog 24 #[v1, v2] ((w.drewN n).drewN m) fun e w' => e = .returned (.bool true) ∧ ∃ m', w' = ((w.drewN n).drewN m).drewN m') := fun m => by
        have := HC (n + m)
        rw [drewN_two]
        exact this
      clear HC
      generalize hw1 : w.drewN n = w1 at *
      have HW := hide hw1
      clear hw1
      obtain ⟨vs1, hvs1⟩ : ∃ a, a = v1 := ⟨_, rfl⟩
      go_wp2
      go_quiet ((go_at_call 24; refine (unhide HC' _).mono ?_; rintro e w2 ⟨rfl, m', rfl⟩; exact ⟨rfl, _, drewN_two _ _ _⟩))
      go_wp2
      go_quiet (fail)
      go_wp2
      go_roundw
      case rel => exact ⟨k + 1, by omega, by go_num, _, by rw [← unhide HW]; exact drewN_two _ _ _⟩
      case measure => simp [intOf]; omega
    · have e1 : decide ((k : Int) < (l.length : Int)) = false := by simp; omega
      clear HE1 HE2 HA
      go_wp2
      go_ret
      exact ⟨rfl, n, rfl⟩
end Go.Proofs.YtkkakfocjbnomaaDoor
