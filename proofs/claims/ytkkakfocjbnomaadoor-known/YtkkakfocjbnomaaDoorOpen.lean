/-
  CONTRACTS of packages reader and markup: Open.
-/
import Derived.Test.YtkkakfocjbnomaaDoorMark
import Derived.Test.YtkkakfocjbnomaaDoorSame
namespace Go.Proofs.YtkkakfocjbnomaaDoor
set_option linter.unusedVariables false
set_option linter.unusedSimpArgs false
open Go.RowKit
open Mk (St Bs Ev Att)

theorem below_grown {w w' : World} (h : w.grownBy w' none) : Below w.heap.size w w' := ⟨h.os, h.tape, h.output, h.size, fun k hk => h.block k hk (by simp)⟩

/-- Nothing is appended to nil. -/
theorem run_append_none {P : Program} (w : World) (t ty e : TypeId) (i : TypeInfo) (ht : P.underlying t = some (.slice e)) (hi : P.info? e = some i) (ao : Option Addr) (c : Nat) :
    (Builtin.append_ #[t, t] ty #[.slice none 0 0, .slice ao 0 c]).run P w = .ok (.slice none 0 0) w := by
  cases ao <;> simp [Builtin.append_, run_underlying ht, sizeOf, typeInfo, hi, Builtin.lenOf, Builtin.firstCells, storeCells, loadCells, loadCellsFrom]
theorem wpList_append_none {P : Program} {ops : Array Oper} {rest : List Oper} {o : Oper} {a : Act} {w : World} {Q : Exit → Act → World → Prop} (hgd : o.guard = none) (s x : Operand) (t e : TypeId)
    (ho : o.op = .call { callee := .builtin .append, args := #[s, x], argTypes := #[t, t] }) (i : TypeInfo) (ht : P.underlying t = some (.slice e)) (hi : P.info? e = some i) (ao : Option Addr) (c : Nat) (hs : a.eval s = .slice none 0 0) (hx : a.eval x = .slice ao 0 c)
    (h : wpList P ops Q rest (a.put o.dst (.slice none 0 0)) w) : wpList P ops Q (o :: rest) a w :=
  wpList_plain hgd fun _ hK => by
    unfold Oper.wp execOp
    simp only [ho, resolve, invoke, builtin, Sem.run_bind, Sem.run_pure, Result.andThen_ok, List.map_toArray, List.map_cons, List.map_nil, hs, hx, run_append_none w t o.type e i ht hi ao c]
    exact hK _ _ h
set_option maxHeartbeats 1000000 in
set_option maxRecDepth 100000 in
theorem rOpen_any {w : World} {b : Nat} {s : St} {L : Lay} (h : RdL w b s L) (hl : s.opn.length ≤ 1000000000) :
    Calls Tryd.prog 33 #[.pointer (some ⟨b, 0, none⟩)] w fun e w' => ∃ oa oc, e = .returned (.slice oa s.opn.length oc) ∧ w'.ownsRow w.heap.size 9 1 (.slice oa s.opn.length oc) s.opn.length (s.opn.map sv) ∧ Below w.heap.size w w' := by
  have hc := h.cell
  have hlt := h.lt
  have HO := hide (h.rows.own (opnRow s L) (by simp [rowsOf]))
  unfold cellsOf at hc
  clear h
  cases hs : s.opn with
  | nil =>
    rw [hs] at hc
    clear HO hs
    obtain ⟨i0, hi, hz0, hz1, hz2⟩ := info_parts infoStr
    go_enter Tryd.func33, Tryd.ntmps33
    go_wp2_with (at_builtin; refine wpList_append_none rfl (.tmp 4) (.tmp 8) 30 9 rfl i0 Tryd.underlying30 hi L.oa L.oc rfl rfl ?_)
    go_ret
    exact ⟨none, 0, rfl, World.ownsRow_nil _ _ _ _, Below.refl _ _⟩
  | cons y r =>
    obtain ⟨g, c, hv, hg1, hg2⟩ := World.ownsRow.form (unhide HO) (by simp [opnRow, hs])
    simp only [opnRow] at hv
    injection hv with hv1 hv2 hv3
    have hO := unhide HO
    have hnews : Hid (∀ j u, (s.opn.map sv)[j]? = some u → w.cell? ((⟨g, 0, none⟩ : Addr).add j) = some u) := fun j u hu => by
      have hadd : (⟨g, 0, none⟩ : Addr).add j = ⟨g, j, none⟩ := by unfold Addr.add; split <;> simp_all
      have hj : j < s.opn.length := by
        have := (List.getElem?_eq_some_iff.1 hu).1
        simpa using this
      unfold Row.owned opnRow at hO
      simp only at hO
      rw [hv1] at hO
      rw [hadd, row_cell hO j (by omega)]
      exact hu
    obtain ⟨i0, hi, hz0, hz1, hz2⟩ := info_parts infoStr
    rw [hv1] at hc
    rw [← hs]
    have hpos : 0 < s.opn.length := by simp [hs]
    have HN : Hid (w.ownsRow w.heap.size 9 1 (.slice none 0 0) 0 []) := World.ownsRow_nil _ _ _ _
    clear HO hO hs hv2 hv3 hg1
    go_enter Tryd.func33, Tryd.ntmps33
    go_wp2_with (at_builtin; refine wpList_append_lies _ rfl (.tmp 4) (.tmp 8) 30 rfl w.heap.size 9 i0 _ 1 16 Tryd.underlying30 hi hz0 hz1 hz2 rfl (by decide) (.slice none 0 0) 0 [] rfl (unhide HN) ⟨g, 0, none⟩ s.opn.length L.oc (s.opn.map sv) rfl (by simp) (unhide hnews) (by intro u hu; obtain ⟨x, _, rfl⟩ := List.mem_map.1 hu; rfl) hpos (by unfold maxLen; omega) (by omega) (Nat.le_refl _) w.heap.size rfl ?_; intro g2 cap w2 hown hgrow hat hlt2; rw [Nat.zero_add] at *; have HOW := hide hown; have HGR := hide hgrow; clear hown hgrow hat)
    go_ret
    exact ⟨_, _, rfl, unhide HOW, below_grown (unhide HGR)⟩
theorem open_any {w : World} {b : Nat} {s : St} {L : Lay} (h : RdL w b s L) (hl : s.opn.length ≤ 1000000000) :
    Calls Tryd.prog 23 #[.pointer (some ⟨b, 0, none⟩)] w fun e w' => ∃ oa oc, e = .returned (.slice oa s.opn.length oc) ∧ w'.ownsRow w.heap.size 9 1 (.slice oa s.opn.length oc) s.opn.length (s.opn.map sv) ∧ Below w.heap.size w w' := by
  have HP := hide (rOpen_any h hl)
  have hlt := h.lt
  clear h
  go_enter Tryd.func23, Tryd.ntmps23
  go_wp2_with (go_at_call 33; refine (unhide HP).mono ?_; rintro e w' ⟨oa, oc, rfl, hown, hbel⟩; have HOW := hide hown; have HB := hide hbel; clear hown hbel)
  go_ret
  exact ⟨_, _, rfl, unhide HOW, unhide HB⟩
end Go.Proofs.YtkkakfocjbnomaaDoor
