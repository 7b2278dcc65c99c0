/- Again -/
import Derived.Test.YtmgfijllcdadgabGreatDoorCTabs
import Derived.SliceStrings
import Derived.Carry
import Derived.WideKeyArgs
namespace Go.Proofs.YtmgfijllcdadgabGreatDoor
set_option linter.unusedVariables false
set_option linter.unusedSimpArgs false
open Go.ChangeShapes Go.WideShapes Go.ChangeAt Go.RowKit
open Mk (St Bs Ev Att)

theorem trodAll_again {H : Type} {enc : TypeId × Value → H} {P : Program} (hl : laidOutB P = true) {W W' : World} (hb : Below W.heap.size W W') {sp : Nat → Bool} :
    ∀ {ts : List TypeId} {vs : List Value} {ds : List (DataW H)} {ps : List MemPlace}, (∀ t ∈ ts, P.readableRec t = true ∧ t < P.types.size) → (∀ q ∈ ps, q.block < W.heap.size) → (∀ q ∈ ps, sp q.block = true) →
      DataW.TrodAll enc P W 0 (fun _ => true) true ts vs ds ps → DataW.TrodAll enc P W' 0 sp true ts vs ds ps
  | [], [], [], _, _, _, _, h => h
  | t :: ts, v :: vs, d :: ds, ps, hT, hlt, hsp, ⟨p, q, h1, h2, e⟩ => by
    subst e
    refine ⟨p, q, ?_, trodAll_again hl hb (fun t ht => hT t (List.mem_cons_of_mem _ ht)) (fun x hx => hlt x (List.mem_append_right _ hx)) (fun x hx => hsp x (List.mem_append_right _ hx)) h2, rfl⟩
    have ht := hT t List.mem_cons_self
    exact WideElems.Trod_stays hl ht.1 ht.2 h1 (fun x hx => hb.same (hlt x (List.mem_append_left _ hx))) (fun x hx => hsp x (List.mem_append_left _ hx))

/-- Strings in a row of memory. -/
def StrsAt (w : World) (strs : List Bs) (la : Option Addr) : Prop :=
  ∀ j (hj : j < strs.length), ∃ cg co, la = some ⟨cg, co, none⟩ ∧ cg < w.heap.size ∧ w.cell? ⟨cg, co + j, none⟩ = some (.string ⟨strs[j].toArray⟩)
theorem StrsAt.below {w w' : World} {strs : List Bs} {la : Option Addr} {B : Nat} (h : StrsAt w strs la) (hB : w.heap.size ≤ B) (hb : Below B w w') : StrsAt w' strs la := by
  intro j hj
  obtain ⟨cg, co, h1, h2, h3⟩ := h j hj
  have := hb.size
  refine ⟨cg, co, h1, by omega, ?_⟩
  rw [← h3]
  simp only [World.cell?]
  rw [hb.block _ (by omega)]

theorem bulk_one {H : Type} (x : DataW H) : 1 ≤ Rows.uptoBulk x := by
  cases x with
  | lit l => cases l <;> simp [Rows.uptoBulk]
  | nil => simp [Rows.uptoBulk]
  | ptr d => simp [Rows.uptoBulk]
  | slice elems spare => simp [Rows.uptoBulk]
  | agg parts => simp [Rows.uptoBulk]
  | iface t d => simp [Rows.uptoBulk]
  | map entries => simp [Rows.uptoBulk]
  | held h => simp [Rows.uptoBulk]
theorem bulk_len {H : Type} : ∀ l : List (DataW H), l.length ≤ Rows.uptoBulkAll l
  | [] => by simp [Rows.uptoBulkAll]
  | x :: r => by
    have := bulk_one x
    have := bulk_len r
    simp only [Rows.uptoBulkAll, List.length_cons]
    omega

set_option maxRecDepth 100000 in
theorem open_texts {H : Type} {enc : TypeId × Value → H} {W : World} {b0 : Nat} {v : Value} {d : DataW H} {p : List MemPlace} (hv : Value.okWide Tryz.prog W .any b0 22 v) (h : DataW.Trod enc Tryz.prog W 0 (fun _ => true) true 22 v d p) :
    ∃ (la : Option Addr) (strs : List Bs) (lc : Nat), v = .slice la strs.length lc ∧ StrsAt W strs la ∧ strs.length ≤ Rows.uptoBulk d := by
  obtain ⟨a0, len, cap, rfl⟩ := okWide_slice Tryz.underlying22 hv
  obtain ⟨fuel, hf⟩ := h
  rcases open_strings Tryz.underlying22 Tryz.underlying9 cStr hf with ⟨hcs, hx⟩ | ⟨a, len', cap', ss, hcs, _, hle, hmax, hlen, hx, hcell, hwf⟩
  · simp [Value.cells] at hcs
    obtain ⟨rfl, rfl, rfl⟩ := hcs
    exact ⟨none, [], 0, rfl, fun j hj => (by cases hj), by simp⟩
  · simp [Value.cells] at hcs
    obtain ⟨rfl, rfl, rfl⟩ := hcs
    cases hx
    simp at hlen
    have hl : ((ss.take len).map fun s => s.data.toList).length = len := by simp; omega
    refine ⟨some a, (ss.take len).map fun s => s.data.toList, cap, by rw [hl], ?_, ?_⟩
    · intro j hj
      rw [hl] at hj
      obtain ⟨b, off, spot⟩ := a
      have h0 := hcell 0 (by omega)
      have hspot : spot = none := by simpa [Addr.add] using World.cell?_spot h0
      subst hspot
      have h1 := hcell j (by omega)
      rw [Go.WideShapes.add_plain] at h1
      refine ⟨b, off, rfl, cell_lt h1, ?_⟩
      rw [h1]
      have : j < ss.length := by omega
      simp [this]
    · rw [hl]
      have h2 := bulk_len (strs (H := H) (ss.take len))
      simp only [Rows.uptoBulk]
      have h3 : (strs (H := H) (ss.take len)).length = len := by simp [strs]; omega
      omega
end Go.Proofs.YtmgfijllcdadgabGreatDoor
