/- EarlyO -/
import Derived.Test.YtmgfijllcdadgaaGreatDoorCEarlyP
import Derived.Laws.CopyOwn
import Derived.Laws.Tables
namespace Go.Proofs.YtmgfijllcdadgaaGreatDoor
set_option linter.unusedVariables false
set_option linter.unusedSimpArgs false
open Go.RowKit
open Mk (St Bs Ev Att)

/-- An outcome that was not yet. -/
def outZero : Array Value := #[.slice none 0 0, .int .i64 0, .int .i64 0, .int .i64 0, .int .i64 0, .int .i64 0, .slice none 0 0]
theorem lay_at (w : World) (g : Nat) (v : Value) (err en at_ : Int) (q : Plc) (hv : ∃ a n c, v = .slice a n c) (hg : w.heap[g]? = some (.cells outZero 36 (0, 0))) :
    (storeCells ⟨g, 0, none⟩ (outCells v err en at_ q).toList 0).run Tryz.prog w = .ok () (w.setRow g (outCells v err en at_ q)) := by
  obtain ⟨a, n, c, rfl⟩ := hv
  exact run_storeCells_from (P := Tryz.prog) g 36 (outCells (.slice a n c) err en at_ q).toList 0 outZero w hg (by simp [outCells, outZero]) (by simp [outCells, Value.oneCell'])

/-- A block of its own holds an outcome; below n0 nothing has turned. -/
def OutAt (W0 wx : World) (s : Value) (evs : List Ev) (err en at_ : Int) : Prop :=
  ∃ (g : Nat) (x : Option Addr) (c : Nat) (fp : List Nat) (q : Plc), s = .pointer (some ⟨g, 0, none⟩) ∧ W0.heap.size ≤ g ∧ g < wx.heap.size ∧ wx.heap[g]? = some (.cells (outCells (.slice x evs.length c) err en at_ q) 36 (0, 0)) ∧ Got wx (.slice x evs.length c) evs fp ∧ (∀ k ∈ fp, k < wx.heap.size) ∧ Below W0.heap.size W0 wx
theorem out_behind {W0 W w4 : World} {evs : List Ev} {x : Option Addr} {c : Nat} {fp : List Nat} (err en at_ : Int) (q : Plc) (h0 : Below W0.heap.size W0 W) (hg : Got w4 (.slice x evs.length c) evs fp) (hf : ∀ k ∈ fp, W.heap.size ≤ k ∧ k < w4.heap.size) (hb : Below W.heap.size W w4) :
    OutAt W0 (w4.alloc (.cells (outCells (.slice x evs.length c) err en at_ q) 36 (0, 0))) (.pointer (some ⟨w4.heap.size, 0, none⟩)) evs err en at_ := by
  have h1 := h0.size
  have h2 := hb.size
  refine ⟨w4.heap.size, x, c, fp, q, rfl, by omega, by simp, heap_alloc_new w4 _, hg.keep fun k hk => Below.heap_alloc _ _ _ (hf k hk).2, fun k hk => by have := (hf k hk).2; simp; omega, (h0.trans (hb.mono h1)).alloc (by omega) _⟩
theorem out_ahead {W0 W w4 : World} {evs : List Ev} {x : Option Addr} {c : Nat} {fp : List Nat} (err en at_ : Int) (q : Plc) (h0 : Below W0.heap.size W0 W) (hg : Got w4 (.slice x evs.length c) evs fp) (hf : ∀ k ∈ fp, (W.alloc (.cells outZero 36 (0, 0))).heap.size ≤ k ∧ k < w4.heap.size) (hb : Below (W.alloc (.cells outZero 36 (0, 0))).heap.size (W.alloc (.cells outZero 36 (0, 0))) w4) :
    w4.heap[W.heap.size]? = some (.cells outZero 36 (0, 0)) ∧ OutAt W0 (w4.setRow W.heap.size (outCells (.slice x evs.length c) err en at_ q)) (.pointer (some ⟨W.heap.size, 0, none⟩)) evs err en at_ := by
  have h1 := h0.size
  have h2 := hb.size
  simp at h2
  have hz : w4.heap[W.heap.size]? = some (.cells outZero 36 (0, 0)) := (hb.block _ (by simp)).trans (heap_alloc_new W _)
  refine ⟨hz, W.heap.size, x, c, fp, q, rfl, by omega, by simp; omega, setRow_heap _ _ _ _ _ _ hz, hg.keep fun k hk => setRow_other _ _ _ _ ?_, fun k hk => by have := (hf k hk).2; simp; omega, ?_⟩
  · have := (hf k hk).1
    simp at this
    omega
  · have h3 : Below W0.heap.size W0 w4 := (h0.alloc (by omega) _).trans (hb.mono (by simp; omega))
    exact below_setRow h3 (by omega) _
end Go.Proofs.YtmgfijllcdadgaaGreatDoor
