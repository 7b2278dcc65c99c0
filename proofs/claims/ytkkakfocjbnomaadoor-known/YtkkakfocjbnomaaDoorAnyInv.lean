/-
  A REGION THAT DRAWS ITS ORDER, BY WHAT IT KEEPS: whichever operation comes up, what was so of the slots and of the world stays so.
-/
import Derived.Orders
import Derived.RegionTactic
namespace Go.Proofs.YtkkakfocjbnomaaDoor
set_option linter.unusedVariables false

/-- How many operations have not come up. -/
def idle (ops : Array Oper) (listed : Array Bool) : Nat := ((List.range ops.size).filter fun i => !listed.getD i true).length
theorem idle_set {ops : Array Oper} {listed : Array Bool} {i : Nat} (hi : listed.getD i true = false) (hs : i < ops.size) : idle ops (listed.setIfInBounds i true) + 1 ≤ idle ops listed := by
  unfold idle
  have hlt : i < listed.size := by
    by_cases h : i < listed.size
    · exact h
    · simp [Array.getD, h] at hi
  have hsub : ∀ j, (!(listed.setIfInBounds i true).getD j true) = ((!listed.getD j true) && decide (j ≠ i)) := by
    intro j
    by_cases hj : j = i
    · subst hj; simp [Array.getD, hlt]
    · rw [getD_set_ne true (fun h => hj h.symm)]
      simp [hj]
  have e1 : ((List.range ops.size).filter fun j => !(listed.setIfInBounds i true).getD j true) = ((List.range ops.size).filter fun j => !listed.getD j true).filter fun j => decide (j ≠ i) := by
    rw [List.filter_filter]
    congr 1
    funext j
    rw [hsub j, Bool.and_comm]
  rw [e1]
  have hmem : i ∈ (List.range ops.size).filter fun j => !listed.getD j true := by
    rw [List.mem_filter, List.mem_range, hi]
    exact ⟨hs, rfl⟩
  have hlt2 : (((List.range ops.size).filter fun j => !listed.getD j true).filter fun j => decide (j ≠ i)).length < ((List.range ops.size).filter fun j => !listed.getD j true).length := List.length_filter_lt_length_iff_exists.2 ⟨i, hmem, by simp⟩
  omega
/-- **The law.** -/
theorem wpAny_inv {P : Program} {md : Region.Mode} {ops : Array Oper} {Q : Exit → Act → World → Prop} (J : Array Bool → Act → World → Prop)
    (hstep : ∀ (listed : Array Bool) (a : Act) (w : World) (i : Nat), J listed a w → i ∈ Region.ready md ops listed → wpOp P ops Q i (J (listed.setIfInBounds i true)) a w)
    (hdone : ∀ (listed : Array Bool) (a : Act) (w : World), J listed a w → Region.ready md ops listed = [] → Q .normal a w) :
    ∀ (fuel : Nat) (listed : Array Bool) (a : Act) (w : World), J listed a w → idle ops listed ≤ fuel → wpAny P md ops Q fuel listed a w := by
  intro fuel
  induction fuel with
  | zero =>
    intro listed a w hJ hf
    have hr : Region.ready md ops listed = [] := by
      cases h : Region.ready md ops listed with
      | nil => rfl
      | cons i r =>
        have hm : i ∈ Region.ready md ops listed := by rw [h]; exact List.mem_cons_self
        obtain ⟨h0, o, ho, _⟩ := mem_ready.1 hm
        have := idle_set h0 (Array.getElem?_eq_some_iff.1 ho).1
        omega
    exact ⟨hr, hdone _ _ _ hJ hr⟩
  | succ fuel ih =>
    intro listed a w hJ hf
    refine ⟨hdone _ _ _ hJ, fun i hi => ?_⟩
    obtain ⟨h0, o, ho, _⟩ := mem_ready.1 hi
    have hd := idle_set h0 (Array.getElem?_eq_some_iff.1 ho).1
    exact wpOp_mono (fun a' w' h' => ih _ _ _ h' (by omega)) (hstep _ _ _ _ hJ hi)
theorem idle_all (ops : Array Oper) : idle ops (Array.replicate ops.size false) ≤ ops.size := by
  unfold idle
  exact Nat.le_trans (List.length_filter_le _ _) (by simp)
end Go.Proofs.YtkkakfocjbnomaaDoor
