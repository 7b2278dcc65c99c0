/- Tabs -/
import Derived.Test.YtmgfijllcdadgabGreatDoorCSplit
import Derived.Test.YtmgfijllcdadgabGreatDoorCards
import Derived.Test.YtmgfijllcdadgabGreatDoorTie
import Derived.WalkKit
import Derived.ProofKit
import Derived.OpenShut
import Derived.Deep.DeepHandedRow
import Derived.Lib.LaidTab
import Derived.Stop.LaidErr
namespace Go.Proofs.YtmgfijllcdadgabGreatDoor
set_option linter.unusedVariables false
set_option linter.unusedSimpArgs false
open Go.ChangeShapes Go.WideShapes Go.ChangeAt Go.RowKit
open Mk (St Bs Ev Att)

theorem cells_of_strs {H : Type} {enc : TypeId × Value → H} {P : Program} {w : World} {base : Nat} {sp : Nat → Bool} {held : Bool} {fuel : Nat} {t e : TypeId} {n : Nat} {cs : List Value} {zs : List Bs} {p : List MemPlace}
    (ht : P.underlying t = some (.array n e)) (he : P.underlying e = some .string) (hce : P.cellsOf e = 1) (hct : P.cellsOf t = n)
    (h : DataW.trod enc P w base sp held fuel t cs = some (.agg (zs.map fun z => .lit (.string z)), p)) : cs = zs.map fun z => Value.string ⟨z.toArray⟩ := by
  cases fuel with
  | zero => simp [DataW.trod] at h
  | succ fuel =>
    simp only [DataW.trod, ht, hce, hct, Nat.mul_one] at h
    split at h
    · rename_i hl
      obtain ⟨xs, hm, hx⟩ := Option.map_eq_some_iff.1 h
      have hxs : xs.map (·.1) = zs.map fun z => (DataW.lit (.string z) : DataW H) := by
        have := congrArg Prod.fst hx
        simpa using this
      have hxl : xs.length = n := by simpa using Lib.mapM_length hm
      have hzl : zs.length = n := by
        have := congrArg List.length hxs
        simp at this
        omega
      apply List.ext_getElem?
      intro i
      by_cases hi : i < n
      · obtain ⟨b, hb, hf⟩ := Lib.mapM_at hm i i (by simp [hi])
        obtain ⟨z, hc, rfl, _⟩ := DataW.trod_string he hf
        have h1 : cs[i]? = some (.string z) := by
          have := congrArg (·[0]?) hc
          simpa [List.getElem?_take, List.getElem?_drop] using this
        have h2 : (xs.map (·.1))[i]? = some (DataW.lit (.string z.data.toList) : DataW H) := by simp [hb]
        rw [hxs] at h2
        simp only [List.getElem?_map, Option.map_eq_some_iff, DataW.lit.injEq, Lit.string.injEq] at h2
        obtain ⟨z', hz', rfl⟩ := h2
        simp [h1, hz']
      · rw [List.getElem?_eq_none (by omega), List.getElem?_eq_none (by simp; omega)]
    · cases h
theorem gNames : Tryz.prog.globalNamed "markup/refs.names" = some 5 := by kernel_rfl
theorem gNamed : Tryz.prog.globalNamed "markup/refs.named" = some 6 := by kernel_rfl
theorem tNames : (Tryz.prog.globals[5]?).map (·.type) = some 151 := by kernel_rfl
theorem tNamed : (Tryz.prog.globals[6]?).map (·.type) = some 156 := by kernel_rfl
theorem cNames : Tryz.prog.cellsOf 151 = 5 := by kernel_rfl
theorem cNamed : Tryz.prog.cellsOf 156 = 5 := by kernel_rfl
theorem cStr : Tryz.prog.cellsOf 9 = 1 := by kernel_rfl
theorem cInt : Tryz.prog.cellsOf 3 = 1 := by kernel_rfl

/-- What the row's list gives: the tables. -/
theorem tables {W : World} (h : laidMetH Tryz.prog [("markup/refs.names", Rows.laid_markup_refs_names), ("markup/refs.named", Rows.laid_markup_refs_named)] W) : Gl W ∧ 6 < W.heap.size := by
  have h0 : laidMet Tryz.prog [("markup/refs.names", Rows.laid_markup_refs_names), ("markup/refs.named", Rows.laid_markup_refs_named)] W := h
  have h2 : Lib.TabIs Tryz.prog W "markup/refs.named" .i64 [60, 62, 38, 34, 39] := Lib.tabIs_of_head (rest := []) gNamed tNamed Tryz.underlying156 Tryz.underlying3 cInt cNamed h0.tail
  have h1 : W.var? Tryz.prog "markup/refs.names" = some (([[108, 116, 59], [103, 116, 59], [97, 109, 112, 59], [113, 117, 111, 116, 59], [97, 112, 111, 115, 59]] : List Bs).map fun z => Value.string ⟨z.toArray⟩).toArray := by
    obtain ⟨ps, ⟨g', t', cs, fuel, p, q, hg', ht', hvar, hd, _, _⟩, _⟩ := h0
    obtain rfl := Option.some.inj (gNames.symm.trans hg')
    obtain rfl := Option.some.inj (tNames.symm.trans ht')
    rw [hvar, ← cells_of_strs (zs := [[108, 116, 59], [103, 116, 59], [97, 109, 112, 59], [113, 117, 111, 116, 59], [97, 112, 111, 115, 59]]) Tryz.underlying151 Tryz.underlying9 cStr cNames hd]
  refine ⟨⟨fun i => ?_, fun i => ?_⟩, ?_⟩
  · rw [World.var?_cell gNames h1 i]
    simp [Mk.refNames]
  · rw [World.var?_cell gNamed h2 i]
    simp [Mk.refNames]
  · have := h2
    unfold Lib.TabIs World.var? at this
    rw [gNamed] at this
    simp only [Option.bind_some] at this
    cases hh : W.heap[6]? with
    | none => rw [hh] at this; cases this
    | some o => exact (Array.getElem?_eq_some_iff.1 hh).1

theorem cell_lt {W : World} {g o : Nat} {x : Value} (h : W.cell? ⟨g, o, none⟩ = some x) : g < W.heap.size := by
  unfold World.cell? at h
  cases hh : W.heap[g]? with
  | none => simp [hh] at h
  | some o => exact (Array.getElem?_eq_some_iff.1 hh).1
set_option maxRecDepth 100000 in
/-- A list of numbers among the arguments: opened, and read again behind a call that leaves what was there. -/
theorem open_cuts {H : Type} {enc : TypeId × Value → H} {W : World} {b0 : Nat} {v : Value} {d : DataW H} {p : List MemPlace} (hv : Value.okWide Tryz.prog W .any b0 28 v) (h : DataW.Trod enc Tryz.prog W 0 (fun _ => true) true 28 v d p) :
    ∃ (ca : Option Addr) (cuts : List Int) (cc : Nat), v = .slice ca cuts.length cc ∧ (∀ j (hj : j < cuts.length), ∃ cg co, ca = some ⟨cg, co, none⟩ ∧ cg < W.heap.size ∧ W.cell? ⟨cg, co + j, none⟩ = some (.int .i64 cuts[j])) ∧ (∀ c ∈ cuts, I64 c) ∧ cuts.length ≤ Rows.uptoBulk d ∧
      ∀ W', Below W.heap.size W W' → ∀ sp : Nat → Bool, (∀ q ∈ p, sp q.block = true) → DataW.Trod enc Tryz.prog W' 0 sp true 28 v d p := by
  obtain ⟨a0, len, cap, rfl⟩ := okWide_slice Tryz.underlying28 hv
  obtain ⟨fuel, hf⟩ := h
  rcases open_ints Tryz.underlying28 Tryz.underlying3 cInt hf with ⟨hcs, hx⟩ | ⟨a, len', cap', zs, hcs, _, hle, hmax, hlen, hx, hcell, hwf⟩
  · simp [Value.cells] at hcs
    obtain ⟨rfl, rfl, rfl⟩ := hcs
    cases hx
    exact ⟨none, [], 0, rfl, fun j hj => (by cases hj), fun c hc => (by cases hc), by simp, fun W' _ sp _ => ⟨1, by simp [DataW.trod, Value.cells, Tryz.underlying28]⟩⟩
  · simp [Value.cells] at hcs
    obtain ⟨rfl, rfl, rfl⟩ := hcs
    cases hx
    simp at hlen
    have hl : (zs.take len).length = len := by simp; omega
    refine ⟨some a, zs.take len, cap, by rw [hl], ?_, ?_, ?_, ?_⟩
    · intro j hj
      rw [hl] at hj
      obtain ⟨b, off, rfl, hc⟩ := ints_at hcell (by omega)
      have h1 := hc j (by omega)
      refine ⟨b, off, rfl, cell_lt h1, ?_⟩
      rw [h1]
      have : j < zs.length := by omega
      simp [this]
    · intro c hc
      exact bounds_i64 (hwf c (List.mem_of_mem_take hc))
    · rw [hl]
      have h1 : ∀ l : List (DataW H), l.length ≤ Rows.uptoBulkAll l := by
        intro l
        induction l with
        | nil => simp [Rows.uptoBulkAll]
        | cons x r ih =>
          have : 1 ≤ Rows.uptoBulk x := by
            cases x with
            | lit l => cases l <;> simp [Rows.uptoBulk]
            | nil => simp [Rows.uptoBulk]
            | ptr d => simp [Rows.uptoBulk]
            | slice elems spare => simp [Rows.uptoBulk]
            | agg parts => simp [Rows.uptoBulk]
            | iface t d => simp [Rows.uptoBulk]
            | map entries => simp [Rows.uptoBulk]
            | held h => simp [Rows.uptoBulk]
          simp only [Rows.uptoBulkAll, List.length_cons]
          omega
      have h2 := h1 (lits .i64 (zs.take len))
      simp only [Rows.uptoBulk]
      have h3 : (lits (H := H) .i64 (zs.take len)).length = len := by simp [lits]; omega
      omega
    · intro W' hb sp hsp
      refine ⟨0 + 2, ?_⟩
      show DataW.trod enc Tryz.prog W' 0 sp true (0 + 2) 28 [.slice (some a) len cap] = _
      refine shut_ints 0 Tryz.underlying28 Tryz.underlying3 cInt (Nat.zero_le _) hle hmax ?_ ?_ hwf
      · by_cases hz : zs.length = 0
        · have : len = cap := by omega
          simp [this, hlen]
        · have : sp a.block = true := hsp (.cell a.block (a.off + 0)) (MemPlace.mem_row.2 ⟨0, by omega, rfl⟩)
          rw [this, hlen]
          rfl
      · intro i hi
        have h1 := hcell i hi
        obtain ⟨b, off, rfl, hc⟩ := ints_at hcell (by omega)
        rw [← h1]
        exact hb.cell (by rw [block_add]; exact cell_lt (hc i hi))
end Go.Proofs.YtmgfijllcdadgabGreatDoor
