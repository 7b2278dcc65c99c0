/- EarlyP -/
import Derived.Test.YtmgfijllcdadgabGreatDoorCEarly
namespace Go.Proofs.YtmgfijllcdadgabGreatDoor
set_option linter.unusedVariables false
set_option linter.unusedSimpArgs false
open Mk (St Bs Ev Att)

/-- What a state has told, all in all. -/
def evsOf (s : St) : List Ev := join [] (out s.list s.text)
theorem feedAll_more (s : St) (l : Bs) (x : UInt8) : Mk.feedAll s (l ++ [x]) = Mk.feedByte (Mk.feedAll s l) x := by
  rw [feedAll_append]
  rfl
theorem feedByte_at1 (s : St) (x : UInt8) (h : s.ended = 0) : (Mk.feedByte s x).at_ = s.at_ + 1 := by
  unfold Mk.feedByte
  rw [if_pos h]
  exact at_read _ _
/-- Behind the wrong byte nothing matters. -/
theorem feedAll_behind (s : St) (l r : Bs) (h : (Mk.feedAll s l).ended ≠ 0) : Mk.feedAll s (l ++ r) = Mk.feedAll s l := by
  rw [feedAll_append]
  exact feedAll_ended r _ h
/-- The wrong byte tells nothing. -/
theorem evsOf_wrong (s : St) (l : Bs) (x : UInt8) (h : (Mk.feedAll s l).ended = 0) (h2 : (Mk.feedAll s (l ++ [x])).ended ≠ 0) : evsOf (Mk.feedAll s (l ++ [x])) = evsOf (Mk.feedAll s l) := by
  rw [feedAll_more] at h2 ⊢
  have h3 := feedByte_wrong _ x h h2
  unfold evsOf
  rw [h3.1, h3.2]
/-- A byte more, held against the reading of the whole. -/
theorem early_step {evs : List Ev} {s0 s : St} {l : Bs} (x : UInt8) (h : Sm evs (Mk.feedAll s0 l) s) (hl : s.list = [] ∧ s.text = []) (h0 : (Mk.feedAll s0 l).ended = 0) :
    Sm (join evs (Mk.feed s [x]).2.1) (Mk.feedAll s0 (l ++ [x])) (Mk.feed s [x]).1 ∧ (Mk.feed s [x]).1.list = [] ∧ (Mk.feed s [x]).1.text = [] ∧ (Mk.feed s [x]).2.2 = (Mk.feedAll s0 (l ++ [x])).ended ∧ (Mk.feed s [x]).1.at_ = (Mk.feedAll s0 l).at_ + 1 ∧ join evs (Mk.feed s [x]).2.1 = evsOf (Mk.feedAll s0 (l ++ [x])) := by
  have h1 := sm_feed h hl [x]
  rw [← feedAll_append] at h1
  have h2 := sm_ended h1.1
  refine ⟨h1.1, h1.2.2.1, h1.2.2.2, h1.2.1, ?_, (sm_evs h1.1 h1.2.2).symm⟩
  rw [h2.2.1, feedAll_more]
  exact feedByte_at1 _ x h0
theorem ext_one (l : Bs) (i : Nat) (hi : i < l.length) : (ByteArray.extract ⟨l.toArray⟩ i (i + 1)) = ⟨[l[i]].toArray⟩ := by
  apply ByteArray.ext
  simp only [ByteArray.data_extract, List.extract_toArray, List.extract_eq_take_drop]
  rw [List.drop_eq_getElem_cons hi]
  have : i + 1 - i = 1 := by omega
  rw [this]
  rfl
theorem take_more (l : Bs) (i : Nat) (hi : i < l.length) : l.take (i + 1) = l.take i ++ [l[i]] := by
  rw [List.take_add_one]
  simp [hi]
end Go.Proofs.YtmgfijllcdadgabGreatDoor
