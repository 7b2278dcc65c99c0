/-
  CONTRACTS of package markup (2): Feed.
-/
import Derived.Test.YtkkakfocjbnomaaDoorMark
import Derived.Test.YtkkakfocjbnomaaDoorKeeps
namespace Go.Proofs.YtkkakfocjbnomaaDoor
set_option linter.unusedVariables false
set_option linter.unusedSimpArgs false
open Go.RowKit
open Mk (St Bs Ev Att)

theorem feedAll_snoc (l : Bs) (x : UInt8) : ∀ s, Mk.feedAll s (l ++ [x]) = Mk.feedByte (Mk.feedAll s l) x := by
  induction l with
  | nil => intro s; rfl
  | cons y r ih => intro s; exact ih _
theorem feedAll_append (l r : Bs) : ∀ s, Mk.feedAll s (l ++ r) = Mk.feedAll (Mk.feedAll s l) r := by
  induction l with
  | nil => intro s; rfl
  | cons y t ih => intro s; exact ih _
theorem feedByte_ended (s : St) (x : UInt8) (h : s.ended ≠ 0) : Mk.feedByte s x = s := by unfold Mk.feedByte; rw [if_neg h]
theorem feedAll_ended : ∀ (l : Bs) (s : St), s.ended ≠ 0 → Mk.feedAll s l = s
  | [], s, _ => rfl
  | x :: r, s, h => by
    show Mk.feedAll (Mk.feedByte s x) r = s
    rw [feedByte_ended s x h]
    exact feedAll_ended r s h
theorem feedByte_at (s : St) (x : UInt8) : s.at_ ≤ (Mk.feedByte s x).at_ ∧ (Mk.feedByte s x).at_ ≤ s.at_ + 1 := by
  unfold Mk.feedByte
  split
  · have := at_read { s with at_ := s.at_ + 1 } x.toNat
    simp only at this ⊢
    omega
  · omega
theorem feedAll_at : ∀ (l : Bs) (s : St), s.at_ ≤ (Mk.feedAll s l).at_ ∧ (Mk.feedAll s l).at_ ≤ s.at_ + l.length
  | [], s => by simp [Mk.feedAll]
  | x :: r, s => by
    have h1 := feedByte_at s x
    have h2 := feedAll_at r (Mk.feedByte s x)
    simp only [Mk.feedAll, List.length_cons]
    omega
theorem inv_feedByte {k : Nat} {s : St} (h : Inv k s) (x : UInt8) : Inv (k + 12) (Mk.feedByte s x) := by
  unfold Mk.feedByte
  split
  · have hb := byte_le x
    have h1 := inv_read (s := { s with at_ := s.at_ + 1 }) (k := k) { h with } x.toNat hb.1 hb.2
    exact { h1 with }
  · exact h.mono (by omega)
theorem inv_feedAll : ∀ (l : Bs) {k : Nat} {s : St}, Inv k s → Inv (k + 12 * l.length) (Mk.feedAll s l)
  | [], k, s, h => h
  | x :: r, k, s, h => (inv_feedAll r (inv_feedByte h x)).mono (by simp; omega)

/-- Events that lie in memory at a slice: the blocks that they take are among fp. -/
structure Got (w : World) (v : Value) (l : List Ev) (fp : List Nat) : Prop where
  ex : ∃ es : List (Ev × Value), es.map (·.1) = l ∧ w.ownsRow 0 46 5 v l.length (evsRow es) ∧ (∀ p ∈ es, (evRow p).owned w 0) ∧ (∀ k, v.ownBlock = some k → k ∈ fp) ∧ (∀ k ∈ blks (es.map evRow), k ∈ fp ∧ v.ownBlock ≠ some k)
theorem ownsRow_base {w : World} {base base' : Nat} {e : TypeId} {size : Nat} {v : Value} {n : Nat} {xs : List Value} (h : w.ownsRow base e size v n xs) (hb : base' ≤ base) : w.ownsRow base' e size v n xs := by
  refine ⟨h.1, ?_⟩
  rcases h.2 with h2 | ⟨g, cap, cur, h3, h4, h5⟩
  · exact .inl h2
  · exact .inr ⟨g, cap, cur, h3, Nat.le_trans hb h4, h5⟩
theorem Got.keep {w w' : World} {v : Value} {l : List Ev} {fp : List Nat} (h : Got w v l fp) (hk : ∀ k ∈ fp, w'.heap[k]? = w.heap[k]?) : Got w' v l fp := by
  obtain ⟨es, h1, h2, h3, h4, h5⟩ := h.ex
  refine ⟨es, h1, ?_, fun p hp => owned_keep (h3 p hp) fun k hv => hk k ((h5 k (List.mem_filterMap.2 ⟨evRow p, List.mem_map_of_mem hp, hv⟩)).1), h4, h5⟩
  exact owned_keep (r := ⟨46, 5, v, l.length, evsRow es⟩) h2 fun k hv => hk k (h4 k hv)

theorem Take_any {w : World} {b : Nat} {s : St} {L : Lay} (h : RdL w b s L) (hx : s.text.length ≤ 1000000000000) (hl : s.list.length ≤ 1000000000000) :
    Calls Tryd.prog 30 #[.pointer (some ⟨b, 0, none⟩)] w fun e w' => ∃ v fp L', e = .returned v ∧ Got w' v (Mk.endText s).list fp ∧ (∃ a n c, v = .slice a n c) ∧ Mv w b (foot s L) w' (Mk.take s) L' ∧ ∀ k ∈ fp, b < k ∧ k < w'.heap.size ∧ k ∉ foot (Mk.take s) L' ∧ (k ∈ foot s L ∨ w.heap.size ≤ k) := by
  have HT := hide (take_any h hx hl)
  clear h
  go_enter Tryd.func30, Tryd.ntmps30
  go_wp2_with (go_at_call 38; refine (unhide HT).mono ?_; rintro e w1 ⟨L1, rfl, ⟨w2, hm2, rfl⟩, L2, hm3, hd⟩; have HA := hide hm2; have HB := hide hm3; have HC := hide hd; clear hm2 hm3 hd)
  go_ret
  have hm2 := unhide HA
  have hrows := hm2.rd.rows
  have hp : (rowsOf (Mk.endText s) L1).Perm ((lstRow (Mk.endText s) L1 :: L1.es.map evRow) ++ [opnRow (Mk.endText s) L1, tokRow (Mk.endText s) L1, attRow (Mk.endText s) L1, txtRow (Mk.endText s) L1]) := by
    refine (perm4 _ _ _ _ _).trans (.cons _ ?_)
    exact (List.perm_append_comm (l₁ := [opnRow _ _, tokRow _ _, attRow _ _, txtRow _ _]) (l₂ := L1.es.map evRow))
  have h2 := hrows.perm hp
  have hkeep : ∀ k ∈ blks (lstRow (Mk.endText s) L1 :: L1.es.map evRow), (w2.setCell ⟨b, 24, none⟩ (.slice none 0 0)).heap[k]? = w2.heap[k]? := fun k hk => by
    refine Below.heap_setCell _ _ _ _ ?_
    have := (h2.lt k (by unfold blks at hk ⊢; rw [List.filterMap_append]; exact List.mem_append_left _ hk)).1
    show k ≠ b
    omega
  have hblk : ∀ k ∈ blks (lstRow (Mk.endText s) L1 :: L1.es.map evRow), b < k ∧ k < w2.heap.size ∧ k ∈ foot (Mk.endText s) L1 := fun k hk => by
    have h9 : k ∈ blks ((lstRow (Mk.endText s) L1 :: L1.es.map evRow) ++ [opnRow (Mk.endText s) L1, tokRow (Mk.endText s) L1, attRow (Mk.endText s) L1, txtRow (Mk.endText s) L1]) := by unfold blks at hk ⊢; rw [List.filterMap_append]; exact List.mem_append_left _ hk
    have := h2.lt k h9
    exact ⟨by omega, this.2, perm_blks hp.symm k h9⟩
  have hown : ∀ r ∈ lstRow (Mk.endText s) L1 :: L1.es.map evRow, r.owned w2 (b + 1) := fun r hr => h2.own r (List.mem_append_left _ hr)
  have hnd := h2.nd
  refine ⟨_, blks (lstRow (Mk.endText s) L1 :: L1.es.map evRow), L2, rfl, ?_, ⟨_, _, _, rfl⟩, unhide HB, fun k hk => ⟨(hblk k hk).1, by have := (hblk k hk).2.1; simpa [World.setCell] using this, fun hm => (unhide HC) k hm hk, (unhide HA).fr.foot k (hblk k hk).2.2⟩⟩
  refine Got.keep (w := w2) ⟨L1.es, hm2.rd.evs, ownsRow_base (hown _ List.mem_cons_self) (Nat.zero_le _), fun p hp' => ownsRow_base (hown _ (List.mem_cons_of_mem _ (List.mem_map_of_mem hp'))) (Nat.zero_le _), fun k hv => List.mem_filterMap.2 ⟨lstRow (Mk.endText s) L1, List.mem_cons_self, hv⟩, fun k hk => ⟨?_, ?_⟩⟩ hkeep
  · unfold blks at hk ⊢
    rw [List.filterMap_cons]
    split
    · exact hk
    · exact List.mem_cons_of_mem _ hk
  · intro he
    have h8 : (blks (lstRow (Mk.endText s) L1 :: L1.es.map evRow)).Nodup := by
      unfold blks at hnd ⊢
      rw [List.filterMap_append] at hnd
      exact (List.nodup_append.1 hnd).1
    unfold blks at h8 hk
    rw [List.filterMap_cons] at h8
    have he' : (lstRow (Mk.endText s) L1).v.ownBlock = some k := he
    rw [he'] at h8
    exact (List.nodup_cons.1 h8).1 hk
end Go.Proofs.YtkkakfocjbnomaaDoor
