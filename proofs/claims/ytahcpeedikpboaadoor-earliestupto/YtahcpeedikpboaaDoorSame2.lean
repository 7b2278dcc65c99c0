/-
  CONTRACTS of package markupkeep: sameNames, same, fine.
-/
import Derived.Test.YtahcpeedikpboaaDoorRun2
namespace Go.Proofs.YtahcpeedikpboaaDoor
set_option linter.unusedVariables false
set_option linter.unusedSimpArgs false
open Go.RowKit
open Mk (St Bs Ev Att)

theorem below_drewN {B : Nat} {a w : World} (h : Below B a w) (n : Nat) : Below B a (w.drewN n) := ⟨h.os, h.tape, h.output, h.size, h.block⟩
theorem sameNames_nil (w : World) : Calls Tryd.prog 22 #[.slice none 0 0, .slice none 0 0] w fun e w' => e = .returned (.bool true) ∧ Below w.heap.size w w' := by
  go_enter Tryd.func22, Tryd.ntmps22
  go_wp2
  go_loopw [5] (fun i w' => i = .int .i64 0 ∧ Below w.heap.size w w') (fun _ _ => 0)
  case atStart => exact ⟨rfl, Below.refl _ _⟩
  case round =>
    obtain ⟨rfl, hrel⟩ := hrel
    go_wp2
    go_ret
    exact ⟨rfl, hrel⟩

theorem fine_yes (v : Value) (at_ : Int) (hv : ∃ a n c, v = .slice a n c) (w : World) : Calls Tryd.prog 21 #[.agg (outCells v 0 0 at_)] w fun e w' => e = .returned (.bool true) ∧ Below w.heap.size w w' := by
  obtain ⟨va, vn, vc, rfl⟩ := hv
  unfold outCells
  go_enter Tryd.func21, Tryd.ntmps21
  go_wp2
  go_ret
  exact ⟨rfl, (Below.refl _ _).alloc (by simp) _⟩

theorem same_eq {w : World} {v1 v2 : Value} {l : List Ev} {fp1 fp2 : List Nat} (h1 : Got w v1 l fp1) (h2 : Got w v2 l fp2) (hf1 : ∀ k ∈ fp1, k < w.heap.size) (hf2 : ∀ k ∈ fp2, k < w.heap.size) (err en at_ : Int) :
    Calls Tryd.prog 11 #[.agg (outCells v1 err en at_), .agg (outCells v2 err en at_)] w fun e w' => e = .returned (.bool true) ∧ Below w.heap.size w w' := by
  obtain ⟨a1, c1, rfl⟩ := h1.slice
  obtain ⟨a2, c2, rfl⟩ := h2.slice
  have HS := hide (fun (w' : World) (hb : Below w.heap.size w w') => sameEvents_eq (h1.keep fun k hk => hb.block k (hf1 k hk)) (h2.keep fun k hk => hb.block k (hf2 k hk)))
  clear h1 h2 hf1 hf2
  unfold outCells
  go_enter Tryd.func11, Tryd.ntmps11
  go_wp2_with fail
  have hb1 := ((Below.refl w.heap.size w).alloc (Nat.le_refl _) (.cells #[.slice a1 l.length c1, .int .i64 err, .int .i64 en, .int .i64 at_, .int .i64 0, .int .i64 0, .slice none 0 0] 34 (0, 0))).alloc (by simp) (.cells #[.slice a2 l.length c2, .int .i64 err, .int .i64 en, .int .i64 at_, .int .i64 0, .int .i64 0, .slice none 0 0] 34 (0, 0))
  refine (unhide HS _ hb1).mono ?_
  rintro e w1 ⟨rfl, n, rfl⟩
  have hb2 := below_drewN hb1 n
  clear hb1
  go_wp2_with fail
  refine (sameNames_nil _).mono ?_
  rintro e w1 ⟨rfl, hb3⟩
  have hx1 : w1.heap[w.heap.size]? = some (.cells #[.slice a1 l.length c1, .int .i64 err, .int .i64 en, .int .i64 at_, .int .i64 0, .int .i64 0, .slice none 0 0] 34 (0, 0)) := by
    rw [hb3.block _ (by simp <;> omega)]
    show ((w.alloc _).alloc _).heap[w.heap.size]? = _
    rw [Below.heap_alloc _ _ _ (by simp)]
    exact heap_alloc_new w _
  have hx2 : w1.heap[w.heap.size + 1]? = some (.cells #[.slice a2 l.length c2, .int .i64 err, .int .i64 en, .int .i64 at_, .int .i64 0, .int .i64 0, .slice none 0 0] 34 (0, 0)) := by
    rw [hb3.block _ (by simp)]
    exact heap_alloc2_new w _ _
  have hc1 : ∀ j, w1.cell? ⟨w.heap.size, j, none⟩ = [.slice a1 l.length c1, .int .i64 err, .int .i64 en, .int .i64 at_, .int .i64 0, .int .i64 0, .slice none 0 0][j]? := fun j => by simp [World.cell?, hx1]
  have hc2 : ∀ j, w1.cell? ⟨w.heap.size + 1, j, none⟩ = [.slice a2 l.length c2, .int .i64 err, .int .i64 en, .int .i64 at_, .int .i64 0, .int .i64 0, .slice none 0 0][j]? := fun j => by simp [World.cell?, hx2]
  have e1 : (err == err) = true := by simp
  have e2 : (en == en) = true := by simp
  have e3 : (at_ == at_) = true := by simp
  have hfin : Below w.heap.size w w1 := hb2.trans (hb3.mono (by simp <;> omega))
  clear hx1 hx2 hb2 hb3 HS
  go_wp2
  go_ret
  exact ⟨rfl, hfin⟩
end Go.Proofs.YtahcpeedikpboaaDoor
