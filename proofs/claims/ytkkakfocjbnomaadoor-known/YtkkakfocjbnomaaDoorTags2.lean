/-
  CONTRACTS of package reader: tags (2): attributes.
-/
import Derived.Test.YtkkakfocjbnomaaDoorTags
namespace Go.Proofs.YtkkakfocjbnomaaDoor
set_option linter.unusedVariables false
set_option linter.unusedSimpArgs false
open Go.RowKit
open Mk (St Bs Ev Att)

theorem flat_get {α β : Type} (f : α → List β) (m : Nat) (hf : ∀ a, (f a).length = m) : ∀ (l : List α) (k : Nat) (h : k < l.length) (j : Nat), j < m → (l.flatMap f)[k * m + j]? = (f l[k])[j]?
  | a :: l, 0, _, j, hj => by simp only [List.flatMap_cons, Nat.zero_mul, Nat.zero_add, List.getElem_cons_zero]; rw [List.getElem?_append_left (by rw [hf]; exact hj)]
  | a :: l, k + 1, h, j, hj => by
    simp only [List.flatMap_cons, List.getElem_cons_succ]
    rw [List.getElem?_append_right (by rw [hf, Nat.succ_mul]; omega), hf]
    have : (k + 1) * m + j - m = k * m + j := by rw [Nat.succ_mul]; omega
    rw [this]
    exact flat_get f m hf l k (by simpa using h) j hj
theorem row_cell {w : World} {base : Nat} {e : TypeId} {size g n c : Nat} {xs : List Value} (h : w.ownsRow base e size (.slice (some ⟨g, 0, none⟩) n c) n xs) (j : Nat) (hj : j < n * size) : w.cell? ⟨g, j, none⟩ = xs[j]? := by
  rcases h.2 with ⟨h1, _⟩ | ⟨g', cap, cur, hv, hb, hg, hnc, _, hsz, htake⟩
  · cases h1
  · cases hv
    rw [cell_of_row w g j cur _ _ hg, ← htake, List.getElem?_take_of_lt hj]
    simp

theorem hasAttr_any {w : World} {b : Nat} {s : St} {L : Lay} (h : RdL w b s L) (ham : s.am = false) (ha : s.attrs.length ≤ 100000000) (x : Bs) :
    Calls Tryd.prog 104 #[.pointer (some ⟨b, 0, none⟩), .string ⟨x.toArray⟩] w fun e w' => e = .returned (.bool (Mk.hasAttr s x)) ∧ w' = w := by
  have hc := h.cell
  have hrow := h.rows.own (attRow s L) (by simp [rowsOf])
  have e1 : attRow s L = ⟨50, 3, .slice L.aa s.attrs.length L.ac, s.attrs.length, atsRow s.attrs⟩ := by simp [attRow, ham]
  rw [e1] at hrow
  have hcell : ∀ k (hk : k < s.attrs.length), ∃ g, L.aa = some ⟨g, 0, none⟩ ∧ w.cell? ⟨g, k * 3, none⟩ = some (.string ⟨s.attrs[k].name.toArray⟩) := by
    intro k hk
    obtain ⟨g, cap, hv, _, _⟩ := World.ownsRow.form hrow (by show 0 < s.attrs.length; omega)
    have hv' : Value.slice L.aa s.attrs.length L.ac = .slice (some ⟨g, 0, none⟩) s.attrs.length cap := hv
    injection hv' with h5 h6 h7
    refine ⟨g, h5, ?_⟩
    have h2 : w.ownsRow (b + 1) 50 3 (.slice (some ⟨g, 0, none⟩) s.attrs.length L.ac) s.attrs.length (atsRow s.attrs) := by
      rw [← h5]; exact hrow
    have := row_cell h2 (k * 3) (by omega)
    rw [this]
    have h4 := flat_get atCells 3 (fun _ => rfl) s.attrs k hk 0 (by decide)
    simpa [atsRow, atCells] using h4
  unfold cellsOf at hc
  clear h hrow e1
  obtain ⟨r, hr⟩ : ∃ r, Mk.hasAttr s x = r := ⟨_, rfl⟩
  rw [hr]
  have HR := hide hr
  have HC := hide hcell
  clear hr hcell
  go_enter Tryd.func104, Tryd.ntmps104
  go_wp2
  go_loop [5] (fun i => ∃ k : Nat, k ≤ s.attrs.length ∧ i = .int .i64 k ∧ Hid (r = (s.attrs.drop k).any fun a => decide (a.name = x))) (fun i => s.attrs.length - (intOf i).toNat)
  case atStart => exact ⟨0, by omega, rfl, (unhide HR).symm⟩
  case round =>
    obtain ⟨k, hk, rfl, HK⟩ := hrel
    by_cases hlt : k < s.attrs.length
    · obtain ⟨g, hg, hq⟩ := (unhide HC) k hlt
      have hstep : r = (decide (s.attrs[k].name = x) || (s.attrs.drop (k + 1)).any fun a => decide (a.name = x)) := by
        rw [unhide HK, List.drop_eq_getElem_cons hlt, List.any_cons]
      have HS := hide hstep
      generalize s.attrs[k].name = y at *
      clear hstep HK HR HC
      cases e1 : (y == x)
      · go_wp2
        go_round
        case rel => exact ⟨k + 1, by omega, by go_num, by have h1 := unhide HS; have h2 : decide (y = x) = false := by simpa using e1
                                                          rw [h2] at h1; exact h1⟩
        case measure => simp [intOf]; omega
      · go_wp2
        go_ret
        have h1 := unhide HS
        have h2 : decide (y = x) = true := by simpa using e1
        rw [h2] at h1
        exact ⟨retB h1.symm, rfl⟩
    · have hd : r = false := by rw [unhide HK, List.drop_eq_nil_of_le (by omega)]; rfl
      have HD := hide hd
      have e0 : decide ((k : Int) < (s.attrs.length : Int)) = false := by simp; omega
      clear hd HK HR HC
      go_wp2
      go_ret
      exact ⟨retB (unhide HD).symm, rfl⟩
end Go.Proofs.YtkkakfocjbnomaaDoor
