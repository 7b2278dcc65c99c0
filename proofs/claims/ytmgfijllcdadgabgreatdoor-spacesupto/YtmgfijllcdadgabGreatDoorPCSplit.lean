/- Split, Tabs -/
import Derived.Test.YtmgfijllcdadgabGreatDoorPM29
import Derived.Test.YtmgfijllcdadgabGreatDoorPM30
import Derived.Test.YtmgfijllcdadgabGreatDoorCards
import Derived.Test.YtmgfijllcdadgabGreatDoorTie
import Derived.WalkKit
import Derived.ProofKit
import Derived.OpenShut
import Derived.Deep.DeepHandedRow
import Derived.Lib.LaidTab
import Derived.Stop.LaidErr
set_option linter.unusedVariables false
set_option linter.unusedSimpArgs false
namespace Go.Proofs.YtmgfijllcdadgabGreatDoor
open Go.RowKit
open Mk (St Bs Ev Att)
end Go.Proofs.YtmgfijllcdadgabGreatDoor
namespace Go.Proofs.YtmgfijllcdadgabGreatDoor
open Go.ChangeShapes Go.WideShapes Go.ChangeAt Go.RowKit
open Mk (St Bs Ev Att)
theorem cells_of_strs {H : Type} {enc : TypeId × Value → H} {P : Program} {w : World} {base : Nat} {sp : Nat → Bool} {held : Bool} {fuel : Nat} {t e : TypeId} {n : Nat} {cs : List Value} {zs : List Bs} {p : List MemPlace}
    (ht : P.underlying t = some (.array n e)) (he : P.underlying e = some .string) (hce : P.cellsOf e = 1) (hct : P.cellsOf t = n)
    (h : DataW.trod enc P w base sp held fuel t cs = some (.agg (zs.map fun z => .lit (.string z)), p)) : cs = zs.map fun z => Value.string ⟨z.toArray⟩ := by
  cases fuel with
  | zero => simp [DataW.trod] at h
  | succ fuel =>
    simp only [DataW.trod, ht, hce, hct, Nat.mul_one] at h
    split at h
    · rename_i hl
      obtain ⟨xs, hm, hx⟩ := Option.map_eq_some_iff.1 h
      have hxs : xs.map (·.1) = zs.map fun z => (DataW.lit (.string z) : DataW H) := by
        have := congrArg Prod.fst hx
        simpa using this
      have hxl : xs.length = n := by simpa using Lib.mapM_length hm
      have hzl : zs.length = n := by
        have := congrArg List.length hxs
        simp at this
        omega
      apply List.ext_getElem?
      intro i
      by_cases hi : i < n
      · obtain ⟨b, hb, hf⟩ := Lib.mapM_at hm i i (by simp [hi])
        obtain ⟨z, hc, rfl, _⟩ := DataW.trod_string he hf
        have h1 : cs[i]? = some (.string z) := by
          have := congrArg (·[0]?) hc
          simpa [List.getElem?_take, List.getElem?_drop] using this
        have h2 : (xs.map (·.1))[i]? = some (DataW.lit (.string z.data.toList) : DataW H) := by simp [hb]
        rw [hxs] at h2
        simp only [List.getElem?_map, Option.map_eq_some_iff, DataW.lit.injEq, Lit.string.injEq] at h2
        obtain ⟨z', hz', rfl⟩ := h2
        simp [h1, hz']
      · rw [List.getElem?_eq_none (by omega), List.getElem?_eq_none (by simp; omega)]
    · cases h
theorem gNames : Tryz.prog.globalNamed "markup/refs.names" = some 5 := by kernel_rfl
theorem gNamed : Tryz.prog.globalNamed "markup/refs.named" = some 6 := by kernel_rfl
theorem tNames : (Tryz.prog.globals[5]?).map (·.type) = some 151 := by kernel_rfl
theorem tNamed : (Tryz.prog.globals[6]?).map (·.type) = some 156 := by kernel_rfl
theorem cNames : Tryz.prog.cellsOf 151 = 5 := by kernel_rfl
theorem cNamed : Tryz.prog.cellsOf 156 = 5 := by kernel_rfl
theorem cStr : Tryz.prog.cellsOf 9 = 1 := by kernel_rfl
theorem cInt : Tryz.prog.cellsOf 3 = 1 := by kernel_rfl
theorem tables {W : World} (h : laidMetH Tryz.prog [("markup/refs.names", Rows.laid_markup_refs_names), ("markup/refs.named", Rows.laid_markup_refs_named)] W) : Gl W ∧ 6 < W.heap.size := by
  have h0 : laidMet Tryz.prog [("markup/refs.names", Rows.laid_markup_refs_names), ("markup/refs.named", Rows.laid_markup_refs_named)] W := h
  have h2 : Lib.TabIs Tryz.prog W "markup/refs.named" .i64 [60, 62, 38, 34, 39] := Lib.tabIs_of_head (rest := []) gNamed tNamed Tryz.underlying156 Tryz.underlying3 cInt cNamed h0.tail
  have h1 : W.var? Tryz.prog "markup/refs.names" = some (([[108, 116, 59], [103, 116, 59], [97, 109, 112, 59], [113, 117, 111, 116, 59], [97, 112, 111, 115, 59]] : List Bs).map fun z => Value.string ⟨z.toArray⟩).toArray := by
    obtain ⟨ps, ⟨g', t', cs, fuel, p, q, hg', ht', hvar, hd, _, _⟩, _⟩ := h0
    obtain rfl := Option.some.inj (gNames.symm.trans hg')
    obtain rfl := Option.some.inj (tNames.symm.trans ht')
    rw [hvar, ← cells_of_strs (zs := [[108, 116, 59], [103, 116, 59], [97, 109, 112, 59], [113, 117, 111, 116, 59], [97, 112, 111, 115, 59]]) Tryz.underlying151 Tryz.underlying9 cStr cNames hd]
  refine ⟨⟨fun i => ?_, fun i => ?_⟩, ?_⟩
  · rw [World.var?_cell gNames h1 i]
    simp [Mk.refNames]
  · rw [World.var?_cell gNamed h2 i]
    simp [Mk.refNames]
  · have := h2
    unfold Lib.TabIs World.var? at this
    rw [gNamed] at this
    simp only [Option.bind_some] at this
    cases hh : W.heap[6]? with
    | none => rw [hh] at this; cases this
    | some o => exact (Array.getElem?_eq_some_iff.1 hh).1
end Go.Proofs.YtmgfijllcdadgabGreatDoor
