/-
  MEMORY OF A PARSER: a list of rows (slices that it owns, each in a block of its own), the frame of a call.
-/
import Derived.WalkKit
import Derived.Deep.AppendLies
namespace Go.Proofs.YtkkakfocjbnomaaDoor
set_option linter.unusedVariables false
set_option linter.unusedSimpArgs false
open Go.RowKit



/-- A slice that is owned: its elements' type, their size in cells, its value, its length, its cells. -/
structure Row where
  e : TypeId
  size : Nat
  v : Value
  n : Nat
  xs : List Value

def Row.owned (r : Row) (w : World) (base : Nat) : Prop := w.ownsRow base r.e r.size r.v r.n r.xs
def blks (rs : List Row) : List Nat := rs.filterMap fun r => r.v.ownBlock
/-- All rows are owned, and no two lie in one block. -/
structure Rws (w : World) (base : Nat) (rs : List Row) : Prop where
  own : ∀ r ∈ rs, r.owned w base
  nd : (blks rs).Nodup

theorem Rws.lt {w : World} {base : Nat} {rs : List Row} (h : Rws w base rs) : ∀ k ∈ blks rs, base ≤ k ∧ k < w.heap.size := by
  intro k hk
  obtain ⟨r, hr, hv⟩ := List.mem_filterMap.1 hk
  exact (h.own r hr).lt k hv

theorem owned_keep {w w' : World} {base : Nat} {r : Row} (h : r.owned w base) (hk : ∀ k, r.v.ownBlock = some k → w'.heap[k]? = w.heap[k]?) : r.owned w' base := by
  refine ⟨h.1, ?_⟩
  rcases h.2 with hn | ⟨g, cap, cur, hv, hb, hgg, rest⟩
  · exact .inl hn
  · exact .inr ⟨g, cap, cur, hv, hb, by rw [hk g (by rw [hv]; rfl)]; exact hgg, rest⟩

theorem Rws.keep {w w' : World} {base : Nat} {rs : List Row} (h : Rws w base rs) (hk : ∀ k ∈ blks rs, w'.heap[k]? = w.heap[k]?) : Rws w' base rs :=
  ⟨fun r hr => owned_keep (h.own r hr) fun k hv => hk k (List.mem_filterMap.2 ⟨r, hr, hv⟩), h.nd⟩

theorem Rws.perm {w : World} {base : Nat} {rs rs' : List Row} (h : Rws w base rs) (hp : rs.Perm rs') : Rws w base rs' :=
  ⟨fun r hr => h.own r (hp.mem_iff.2 hr), (hp.filterMap _).nodup_iff.1 h.nd⟩

theorem Rws.tail {w : World} {base : Nat} {r : Row} {rs : List Row} (h : Rws w base (r :: rs)) : Rws w base rs := by
  refine ⟨fun x hx => h.own x (List.mem_cons_of_mem _ hx), ?_⟩
  have := h.nd
  unfold blks at this ⊢
  rw [List.filterMap_cons] at this
  split at this
  · exact this
  · exact (List.nodup_cons.1 this).2

theorem Rws.head {w : World} {base : Nat} {r : Row} {rs : List Row} (h : Rws w base (r :: rs)) : r.owned w base := h.own r List.mem_cons_self

/-- A row that is nil. -/
def Row.isNil (r : Row) : Prop := r.v = .slice none 0 0 ∧ r.n = 0 ∧ r.xs = []
theorem owned_nil {w : World} {base : Nat} {r : Row} (h : r.isNil) : r.owned w base := by
  obtain ⟨h1, h2, h3⟩ := h
  unfold Row.owned; rw [h1, h2, h3]; exact World.ownsRow_nil w base r.e r.size
theorem Rws.cons_nil {w : World} {base : Nat} {r : Row} {rs : List Row} (h : Rws w base rs) (hr : r.isNil) : Rws w base (r :: rs) := by
  refine ⟨fun x hx => ?_, ?_⟩
  · rcases List.mem_cons.1 hx with rfl | hx
    · exact owned_nil hr
    · exact h.own x hx
  · unfold blks; rw [List.filterMap_cons, hr.1]; exact h.nd

theorem Rws.nils {w : World} {base : Nat} {rs : List Row} (h : Rws w base rs) : ∀ (ns : List Row), (∀ x ∈ ns, x.isNil) → Rws w base (ns ++ rs)
  | [], _ => h
  | x :: ns, hn => (Rws.nils h ns fun y hy => hn y (List.mem_cons_of_mem _ hy)).cons_nil (hn x List.mem_cons_self)
theorem Rws.behind {w : World} {base : Nat} {rs : List Row} : ∀ (as : List Row), Rws w base (as ++ rs) → Rws w base rs
  | [], h => h
  | _ :: as, h => Rws.behind as h.tail
theorem blks_nils {rs : List Row} : ∀ (ns : List Row), (∀ x ∈ ns, x.isNil) → blks (ns ++ rs) = blks rs
  | [], _ => rfl
  | x :: ns, hn => by
    have h1 := blks_nils (rs := rs) ns fun y hy => hn y (List.mem_cons_of_mem _ hy)
    unfold blks at h1 ⊢
    rw [List.cons_append, List.filterMap_cons, (hn x List.mem_cons_self).1]
    exact h1
theorem blks_behind {as rs : List Row} : ∀ k ∈ blks rs, k ∈ blks (as ++ rs) := fun k hk => by
  obtain ⟨x, hx, hv⟩ := List.mem_filterMap.1 hk
  exact List.mem_filterMap.2 ⟨x, List.mem_append_right _ hx, hv⟩

/-- A row has grown, or lies in a new block; all else that was owned is as it was. -/
theorem Rws.grow {w w' : World} {base : Nat} {r r' : Row} {rs : List Row} (h : Rws w base (r :: rs)) (ho : r'.owned w' base) (hg : w.grownBy w' r.v.ownBlock)
    (hb : r'.v.ownBlock = r.v.ownBlock ∨ r'.v.ownBlock = some w.heap.size) : Rws w' base (r' :: rs) := by
  have ht := h.tail
  have hd : ∀ k ∈ blks rs, some k ≠ r.v.ownBlock := by
    intro k hk e
    have := h.nd
    unfold blks at this
    rw [List.filterMap_cons] at this
    split at this
    · rename_i h0; rw [h0] at e; cases e
    · rename_i j h0; rw [h0] at e; cases e; exact (List.nodup_cons.1 this).1 hk
  have hk : Rws w' base rs := ht.keep fun k hk => hg.block k (ht.lt k hk).2 (hd k hk)
  refine ⟨fun x hx => ?_, ?_⟩
  · rcases List.mem_cons.1 hx with rfl | hx
    · exact ho
    · exact hk.own x hx
  · unfold blks; rw [List.filterMap_cons]
    split
    · exact hk.nd
    · rename_i j hj
      refine List.nodup_cons.2 ⟨fun hm => ?_, hk.nd⟩
      rcases hb with hb | hb
      · exact hd j hm (hj.symm.trans hb)
      · have := (ht.lt j hm).2
        rw [hj] at hb; cases hb; omega

/-- The frame: of what was there, block b and the rows 'f' alone may have turned; the rows behind the call are old ones or new. -/
structure Fr (w w' : World) (b : Nat) (f f' : List Nat) : Prop where
  os : w'.os = w.os
  tape : w'.tape = w.tape
  output : w'.output = w.output
  size : w.heap.size ≤ w'.heap.size
  block : ∀ k, k < w.heap.size → k ≠ b → k ∉ f → w'.heap[k]? = w.heap[k]?
  foot : ∀ k ∈ f', k ∈ f ∨ w.heap.size ≤ k

theorem Fr.refl (w : World) (b : Nat) (f : List Nat) : Fr w w b f f := ⟨rfl, rfl, rfl, Nat.le_refl _, fun _ _ _ _ => rfl, fun _ h => .inl h⟩
theorem Fr.trans {w w1 w2 : World} {b : Nat} {f f1 f2 : List Nat} (h : Fr w w1 b f f1) (k : Fr w1 w2 b f1 f2) : Fr w w2 b f f2 :=
  ⟨k.os.trans h.os, k.tape.trans h.tape, k.output.trans h.output, Nat.le_trans h.size k.size,
    fun j hj hb hf => (k.block j (Nat.lt_of_lt_of_le hj h.size) hb fun hm => by
      rcases h.foot j hm with hm | hm
      · exact hf hm
      · omega).trans (h.block j hj hb hf),
    fun j hj => by
      rcases k.foot j hj with hm | hm
      · exact h.foot j hm
      · exact .inr (Nat.le_trans h.size hm)⟩
theorem Fr.alloc (w : World) (b : Nat) (f : List Nat) (o : Obj) : Fr w (w.alloc o) b f f :=
  ⟨rfl, rfl, rfl, by simp, fun k hk _ _ => Below.heap_alloc _ _ _ hk, fun _ h => .inl h⟩
theorem Fr.drew (w : World) (b : Nat) (f : List Nat) : Fr w w.drew b f f := ⟨rfl, rfl, rfl, Nat.le_refl _, fun _ _ _ _ => rfl, fun _ h => .inl h⟩
theorem Fr.setCell (w : World) (b : Nat) (f : List Nat) (i : Nat) (u : Value) : Fr w (w.setCell ⟨b, i, none⟩ u) b f f :=
  ⟨rfl, rfl, rfl, by simp [World.setCell], fun k _ hb _ => Below.heap_setCell _ _ _ _ hb, fun _ h => .inl h⟩
/-- A store into a block that is new since w0. -/
theorem Fr.setNew {w0 w : World} {b : Nat} {f f' : List Nat} (h : Fr w0 w b f f') {a : Addr} (ha : w0.heap.size ≤ a.block) (u : Value) : Fr w0 (w.setCell a u) b f f' :=
  ⟨h.os, h.tape, h.output, by simpa [World.setCell] using h.size, fun k hk hb hf => (Below.heap_setCell _ _ _ _ (by omega)).trans (h.block k hk hb hf), h.foot⟩
/-- An append onto one of the rows. -/
theorem Fr.grown {w w' : World} {b : Nat} {r r' : Row} {f : List Nat} (hg : w.grownBy w' r.v.ownBlock) (hb : r'.v.ownBlock = r.v.ownBlock ∨ r'.v.ownBlock = some w.heap.size) (rs : List Row) (hf : f = blks (r :: rs)) :
    Fr w w' b f (blks (r' :: rs)) := by
  subst hf
  refine ⟨hg.os, hg.tape, hg.output, hg.size, fun k hk _ hm => hg.block k hk fun e => hm (List.mem_filterMap.2 ⟨r, List.mem_cons_self, e.symm⟩), fun k hk => ?_⟩
  unfold blks at hk
  obtain ⟨x, hx, hv⟩ := List.mem_filterMap.1 hk
  rcases List.mem_cons.1 hx with rfl | hx
  · rcases hb with hb | hb
    · exact .inl (List.mem_filterMap.2 ⟨r, List.mem_cons_self, hb.symm.trans hv⟩)
    · rw [hb] at hv; cases hv; exact .inr (Nat.le_refl _)
  · exact .inl (List.mem_filterMap.2 ⟨x, List.mem_cons_of_mem _ hx, hv⟩)
/-- The same rows in another order, or fewer. -/
theorem Fr.sub {w w' : World} {b : Nat} {f f' f'' : List Nat} (h : Fr w w' b f f') (hs : ∀ k ∈ f'', k ∈ f') : Fr w w' b f f'' :=
  ⟨h.os, h.tape, h.output, h.size, h.block, fun k hk => h.foot k (hs k hk)⟩
theorem Fr.wide {w w' : World} {b : Nat} {f f' g : List Nat} (h : Fr w w' b f f') (hs : ∀ k ∈ f, k ∈ g) : Fr w w' b g f' :=
  ⟨h.os, h.tape, h.output, h.size, fun k hk hb hg => h.block k hk hb fun hm => hg (hs k hm), fun k hk => (h.foot k hk).imp (hs k) id⟩

theorem perm_blks {rs rs' : List Row} (h : rs.Perm rs') : ∀ k ∈ blks rs, k ∈ blks rs' := fun _ hk => (h.filterMap _).mem_iff.1 hk
end Go.Proofs.YtkkakfocjbnomaaDoor
