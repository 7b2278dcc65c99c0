/-
  CONTRACTS of package markupkeep: sameNames, same, fine.
-/
import Derived.Test.YtahcpeedikpboabDoorRun2
namespace Go.Proofs.YtahcpeedikpboabDoor
set_option linter.unusedVariables false
set_option linter.unusedSimpArgs false
open Go.RowKit
open Mk (St Bs Ev Att)

theorem below_drewN {B : Nat} {a w : World} (h : Below B a w) (n : Nat) : Below B a (w.drewN n) := ⟨h.os, h.tape, h.output, h.size, h.block⟩
theorem sameNames_nil (w : World) : Calls Tryd.prog 23 #[.slice none 0 0, .slice none 0 0] w fun e w' => e = .returned (.bool true) ∧ Below w.heap.size w w' := by
  go_enter Tryd.func23, Tryd.ntmps23
  go_wp2
  go_loopw [5] (fun i w' => i = .int .i64 0 ∧ Below w.heap.size w w') (fun _ _ => 0)
  case atStart => exact ⟨rfl, Below.refl _ _⟩
  case round =>
    obtain ⟨rfl, hrel⟩ := hrel
    go_wp2
    go_ret
    exact ⟨rfl, hrel⟩

theorem fine_yes (v : Value) (at_ : Int) (hv : ∃ a n c, v = .slice a n c) (w : World) : Calls Tryd.prog 19 #[.agg (outCells v 0 0 at_)] w fun e w' => e = .returned (.bool true) ∧ Below w.heap.size w w' := by
  obtain ⟨va, vn, vc, rfl⟩ := hv
  unfold outCells
  go_enter Tryd.func19, Tryd.ntmps19
  go_wp2
  go_ret
  exact ⟨rfl, (Below.refl _ _).alloc (by simp) _⟩

end Go.Proofs.YtahcpeedikpboabDoor
