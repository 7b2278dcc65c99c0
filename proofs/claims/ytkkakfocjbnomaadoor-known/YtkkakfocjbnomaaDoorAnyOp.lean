/-
  AN OPERATION OF A REGION THAT DRAWS ITS ORDER: what it yields; that all have come up at the end.
-/
import Derived.Test.YtkkakfocjbnomaaDoorAnyInv
import Derived.WalkKit
namespace Go.Proofs.YtkkakfocjbnomaaDoor
set_option linter.unusedVariables false
section
variable {P : Program} {ops : Array Oper} {Q : Exit → Act → World → Prop} {K : Act → World → Prop} {a : Act} {w w' : World} {i : Nat} {o : Oper}
theorem op_val (ho : ops[i]? = some o) (hg : o.guard = none) (v : Value) (hr : (execOp a.eval o).run P w = .ok (.value v) w') (hK : K (a.put o.dst v) w') : wpOp P ops Q i K a w := by
  unfold wpOp
  rw [ho]
  have hw : Region.wanted o (yielded ops a.tmps) = true := by simp [Region.wanted, hg]
  simp only [hw, if_true]
  refine .inl ?_
  unfold Oper.wp
  rw [hr]
  exact hK
theorem op_call (ho : ops[i]? = some o) (hg : o.guard = none) (f : FuncId) (args : Array Value) (hr : (execOp a.eval o).run P w = .ok (.enter f args) w) (hC : Calls P f args w fun e w' => ∃ v, e = .returned v ∧ K (a.put o.dst v) w') : wpOp P ops Q i K a w := by
  unfold wpOp
  rw [ho]
  have hw : Region.wanted o (yielded ops a.tmps) = true := by simp [Region.wanted, hg]
  simp only [hw, if_true]
  refine .inl ?_
  unfold Oper.wp
  rw [hr]
  refine hC.mono ?_
  rintro e w1 ⟨v, rfl, hk⟩
  exact hk
/-- Where nothing is ready all have come up. -/
theorem all_listed {md : Region.Mode} {listed : Array Bool} (hs : listed.size = ops.size) (hdag : ∀ (i : Nat) (o : Oper), ops[i]? = some o → ∀ e ∈ o.after, e.on < i) (hr : Region.ready md ops listed = []) : ∀ i, i < ops.size → listed.getD i false = true := by
  intro i
  induction i using Nat.strongRecOn with
  | ind i ih =>
    intro hi
    have hd : listed.getD i true = listed.getD i false := by
      have : i < listed.size := by omega
      simp [this]
    cases h : listed.getD i false with
    | true => rfl
    | false =>
      have ho : ops[i]? = some ops[i] := Array.getElem?_eq_getElem hi
      have : i ∈ Region.ready md ops listed := mem_ready.2 ⟨by rw [hd, h], ops[i], ho, fun e he _ => ih e.on (hdag i _ ho e he) (by have := hdag i _ ho e he; omega)⟩
      rw [hr] at this
      cases this
theorem dag_of (h : ((List.range ops.size).all fun i => match ops[i]? with | some o => o.after.toList.all (fun e => decide (e.on < i)) | none => true) = true) : ∀ (i : Nat) (o : Oper), ops[i]? = some o → ∀ e ∈ o.after, e.on < i := by
  intro i o ho e he
  have hi := (Array.getElem?_eq_some_iff.1 ho).1
  have h1 := List.all_eq_true.1 h i (List.mem_range.2 hi)
  simp only [ho] at h1
  have h2 := List.all_eq_true.1 h1 e (Array.mem_toList_iff.2 he)
  simpa using h2
theorem getD_put (a : Act) (d : Nat) (v : Value) (k : Nat) (hd : d < a.tmps.size) : (a.put (some d) v).tmps.getD k undef = if k = d then v else a.tmps.getD k undef := by
  unfold Act.put
  by_cases h : k = d
  · subst h; simp [hd]
  · have h' : d ≠ k := fun e => h e.symm
    simp [h, Array.getElem?_setIfInBounds_ne h']
end
end Go.Proofs.YtkkakfocjbnomaaDoor
