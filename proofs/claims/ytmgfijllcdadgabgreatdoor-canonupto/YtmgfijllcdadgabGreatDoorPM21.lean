/- AnyInv, AnyOp -/
import Derived.Orders
import Derived.RegionTactic
import Derived.WalkKit
set_option linter.unusedVariables false
namespace Go.Proofs.YtmgfijllcdadgabGreatDoor
def idle (ops:Array Oper) (listed:Array Bool):Nat:=((List.range ops.size).filter fun i => !listed.getD i true).length
theorem idle_set {ops:Array Oper} {listed:Array Bool} {i:Nat} (hi:listed.getD i true=false) (hs:i<ops.size):idle ops (listed.setIfInBounds i true) + 1≤idle ops listed:=by
  unfold idle
  have hlt:i<listed.size:=by
    by_cases h:i<listed.size
    · exact h
    · simp [Array.getD,h] at hi
  have hsub:∀ j,(!(listed.setIfInBounds i true).getD j true)=((!listed.getD j true) && decide (j ≠ i)):=by
    intro j
    by_cases hj:j=i
    · subst hj;simp [Array.getD,hlt]
    · rw [getD_set_ne true (fun h=>hj h.symm)]
      simp [hj]
  have e1:((List.range ops.size).filter fun j => !(listed.setIfInBounds i true).getD j true)=((List.range ops.size).filter fun j => !listed.getD j true).filter fun j=>decide (j ≠ i):=by
    rw [List.filter_filter]
    congr 1
    funext j
    rw [hsub j,Bool.and_comm]
  rw [e1]
  have hmem:i ∈ (List.range ops.size).filter fun j => !listed.getD j true:=by
    rw [List.mem_filter,List.mem_range,hi]
    exact ⟨hs,rfl⟩
  have hlt2:(((List.range ops.size).filter fun j => !listed.getD j true).filter fun j=>decide (j ≠ i)).length<((List.range ops.size).filter fun j => !listed.getD j true).length:=List.length_filter_lt_length_iff_exists.2 ⟨i,hmem,by simp⟩
  omega
theorem wpAny_inv {P:Program} {md:Region.Mode} {ops:Array Oper} {Q:Exit→Act→World→Prop} (J:Array Bool→Act→World→Prop)
    (hstep:∀ (listed:Array Bool) (a:Act) (w:World) (i:Nat),J listed a w→i ∈ Region.ready md ops listed→wpOp P ops Q i (J (listed.setIfInBounds i true)) a w)
    (hdone:∀ (listed:Array Bool) (a:Act) (w:World),J listed a w→Region.ready md ops listed=[]→Q .normal a w) :
    ∀ (fuel:Nat) (listed:Array Bool) (a:Act) (w:World),J listed a w→idle ops listed≤fuel→wpAny P md ops Q fuel listed a w:=by
  intro fuel
  induction fuel with
  | zero =>
    intro listed a w hJ hf
    have hr:Region.ready md ops listed=[]:=by
      cases h:Region.ready md ops listed with
      | nil=>rfl
      | cons i r =>
        have hm:i ∈ Region.ready md ops listed:=by rw [h];exact List.mem_cons_self
        obtain ⟨h0,o,ho,_⟩:=mem_ready.1 hm
        have:=idle_set h0 (Array.getElem?_eq_some_iff.1 ho).1
        omega
    exact ⟨hr,hdone _ _ _ hJ hr⟩
  | succ fuel ih =>
    intro listed a w hJ hf
    refine ⟨hdone _ _ _ hJ,fun i hi => ?_⟩
    obtain ⟨h0,o,ho,_⟩:=mem_ready.1 hi
    have hd:=idle_set h0 (Array.getElem?_eq_some_iff.1 ho).1
    exact wpOp_mono (fun a' w' h' => ih _ _ _ h' (by omega)) (hstep _ _ _ _ hJ hi)
theorem idle_all (ops:Array Oper):idle ops (Array.replicate ops.size false)≤ops.size:=by
  unfold idle
  exact Nat.le_trans (List.length_filter_le _ _) (by simp)
section
variable {P:Program} {ops:Array Oper} {Q:Exit→Act→World→Prop} {K:Act→World→Prop} {a:Act} {w w' : World} {i:Nat} {o:Oper}
theorem op_val (ho:ops[i]? = some o) (hg:o.guard=none) (v:Value) (hr:(execOp a.eval o).run P w = .ok (.value v) w') (hK:K (a.put o.dst v) w'):wpOp P ops Q i K a w:=by
  unfold wpOp
  rw [ho]
  have hw:Region.wanted o (yielded ops a.tmps)=true:=by simp [Region.wanted,hg]
  simp only [hw,if_true]
  refine .inl ?_
  unfold Oper.wp
  rw [hr]
  exact hK
theorem op_call (ho:ops[i]? = some o) (hg:o.guard=none) (f:FuncId) (args:Array Value) (hr:(execOp a.eval o).run P w = .ok (.enter f args) w) (hC:Calls P f args w fun e w' => ∃ v,e = .returned v∧K (a.put o.dst v) w'):wpOp P ops Q i K a w:=by
  unfold wpOp
  rw [ho]
  have hw:Region.wanted o (yielded ops a.tmps)=true:=by simp [Region.wanted,hg]
  simp only [hw,if_true]
  refine .inl ?_
  unfold Oper.wp
  rw [hr]
  refine hC.mono ?_
  rintro e w1 ⟨v,rfl,hk⟩
  exact hk
theorem all_listed {md:Region.Mode} {listed:Array Bool} (hs:listed.size=ops.size) (hdag:∀ (i:Nat) (o:Oper),ops[i]? = some o→∀ e ∈ o.after,e.on<i) (hr:Region.ready md ops listed=[]):∀ i,i<ops.size→listed.getD i false=true:=by
  intro i
  induction i using Nat.strongRecOn with
  | ind i ih =>
    intro hi
    have hd:listed.getD i true=listed.getD i false:=by
      have:i<listed.size:=by omega
      simp [this]
    cases h:listed.getD i false with
    | true=>rfl
    | false =>
      have ho:ops[i]? = some ops[i]:=Array.getElem?_eq_getElem hi
      have:i ∈ Region.ready md ops listed:=mem_ready.2 ⟨by rw [hd,h],ops[i],ho,fun e he _=>ih e.on (hdag i _ ho e he) (by have:=hdag i _ ho e he;omega)⟩
      rw [hr] at this
      cases this
theorem dag_of (h:((List.range ops.size).all fun i=>match ops[i]? with | some o=>o.after.toList.all (fun e=>decide (e.on<i)) | none=>true)=true):∀ (i:Nat) (o:Oper),ops[i]? = some o→∀ e ∈ o.after,e.on<i:=by
  intro i o ho e he
  have hi:=(Array.getElem?_eq_some_iff.1 ho).1
  have h1:=List.all_eq_true.1 h i (List.mem_range.2 hi)
  simp only [ho] at h1
  have h2:=List.all_eq_true.1 h1 e (Array.mem_toList_iff.2 he)
  simpa using h2
theorem getD_put (a:Act) (d:Nat) (v:Value) (k:Nat) (hd:d<a.tmps.size):(a.put (some d) v).tmps.getD k undef=if k=d then v else a.tmps.getD k undef:=by
  unfold Act.put
  by_cases h:k=d
  · subst h;simp [hd]
  · have h' : d ≠ k:=fun e=>h e.symm
    simp [h,Array.getElem?_setIfInBounds_ne h']
end
end Go.Proofs.YtmgfijllcdadgabGreatDoor
