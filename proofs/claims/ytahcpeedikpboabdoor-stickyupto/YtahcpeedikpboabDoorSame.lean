/-
  CONTRACTS of package markupkeep: what is the same is called the same.
-/
import Derived.Test.YtahcpeedikpboabDoorFeed
namespace Go.Proofs.YtahcpeedikpboabDoor
set_option linter.unusedVariables false
set_option linter.unusedSimpArgs false
open Go.RowKit
open Mk (St Bs Ev Att)

/-- The cells of an element of a row. -/
theorem elem_cells {w : World} {base : Nat} {e : TypeId} {v : Value} {n m : Nat} {α : Type} (f : α → List Value) (hf : ∀ a, (f a).length = m) {l : List α} (hm : 0 < m) (h : w.ownsRow base e m v n (l.flatMap f)) (hn : n = l.length) (k : Nat) (hk : k < l.length) :
    ∃ g c, v = .slice (some ⟨g, 0, none⟩) n c ∧ g < w.heap.size ∧ ∀ j, j < m → w.cell? ⟨g, k * m + j, none⟩ = (f l[k])[j]? := by
  obtain ⟨g, c, hv, _, hlt⟩ := World.ownsRow.form h (by omega)
  refine ⟨g, c, hv, hlt, fun j hj => ?_⟩
  subst hv
  rw [row_cell h (k * m + j) ?_]
  · exact flat_get f m hf l k hk j hj
  · have h1 : (k + 1) * m ≤ n * m := Nat.mul_le_mul_right _ (by omega)
    rw [Nat.succ_mul] at h1
    omega

theorem drewN_two (w : World) (n m : Nat) : (w.drewN n).drewN m = w.drewN (n + m) := by simp [World.drewN, Nat.add_assoc]
theorem slice_form {w : World} {base : Nat} {e : TypeId} {size : Nat} {v : Value} {n : Nat} {xs : List Value} (h : w.ownsRow base e size v n xs) : ∃ a c, v = .slice a n c := by
  rcases h.2 with ⟨h1, h2⟩ | ⟨g, cap, cur, h1, _⟩
  · exact ⟨none, 0, by rw [h1, h2]⟩
  · exact ⟨_, _, h1⟩

theorem own_len {w : World} {base : Nat} {e : TypeId} {size : Nat} {v : Value} {n : Nat} {xs : List Value} (h : w.ownsRow base e size v n xs) : n ≤ 9223372036854775807 := by
  rcases h.2 with ⟨_, h2⟩ | ⟨g, cap, cur, _, _, _, h3, h4, _⟩
  · omega
  · unfold maxLen at h4; omega

theorem owned_drewN {w : World} {base : Nat} {e : TypeId} {size : Nat} {v : Value} {n : Nat} {xs : List Value} (h : w.ownsRow base e size v n xs) (m : Nat) : (w.drewN m).ownsRow base e size v n xs :=
  owned_keep (r := ⟨e, size, v, n, xs⟩) h fun _ _ => by rw [heap_drewN]

end Go.Proofs.YtahcpeedikpboabDoor
