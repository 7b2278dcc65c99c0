/-
  CONTRACTS of package reader: tokens (2).
-/
import Derived.Test.YtkkakfocjbnomaaDoorTold
namespace Go.Proofs.YtkkakfocjbnomaaDoor
set_option linter.unusedVariables false
set_option linter.unusedSimpArgs false
open Go.RowKit
open Mk (St Bs Ev Att)

theorem takeToken_any {w : World} {b : Nat} {s : St} {L : Lay} (h : RdL w b s L) :
    Calls Tryd.prog 79 #[.pointer (some ⟨b, 0, none⟩)] w fun e w' => e = .returned (.string ⟨s.token.toArray⟩) ∧ ∃ L', Mv w b (foot s L) w' (Mk.dropToken s) L' := by
  have hc := h.cell
  have hf := h.frozen
  have hlt := h.lt
  have hcv := conv_row (h.rows.own (tokRow s L) (by simp [rowsOf]))
  have HM := hide h
  unfold cellsOf at hc
  clear h
  go_enter Tryd.func79, Tryd.ntmps79
  go_wp2
  go_ret
  exact ⟨rfl, _, ((unhide HM).start.dropTok).store 8 _ _ rfl rfl rfl⟩

theorem take_any {w : World} {b : Nat} {s : St} {L : Lay} (h : RdL w b s L) (hx : s.text.length ≤ 1000000000000) (hl : s.list.length ≤ 1000000000000) :
    Calls Tryd.prog 38 #[.pointer (some ⟨b, 24, none⟩)] w fun e w' => ∃ L1, e = .returned (.slice L1.la (Mk.endText s).list.length L1.lc) ∧ (∃ w1, Mv w b (foot s L) w1 (Mk.endText s) L1 ∧ w' = w1.setCell ⟨b, 24, none⟩ (.slice none 0 0)) ∧ ∃ L', Mv w b (foot s L) w' (Mk.take s) L' ∧ (∀ k ∈ foot (Mk.take s) L', k ∉ blks (lstRow (Mk.endText s) L1 :: L1.es.map evRow)) := by
  have HE := hide (endText_any h hx hl)
  clear h
  go_enter Tryd.func38, Tryd.ntmps38
  go_wp2_with fail
  refine (unhide HE).mono ?_
  rintro e w1 ⟨rfl, L1, hm1, -, -⟩
  have hc := hm1.rd.cell
  have hf := hm1.rd.frozen
  have hlt := hm1.rd.lt
  have HM := hide hm1
  unfold cellsOf at hc
  clear hm1 HE
  go_wp2
  go_ret
  refine ⟨L1, rfl, ⟨w1, unhide HM, rfl⟩, _, (unhide HM).dropList, ?_⟩
  have hr := (unhide HM).rd.rows
  have hp : (rowsOf (Mk.endText s) L1).Perm ((lstRow (Mk.endText s) L1 :: L1.es.map evRow) ++ [opnRow (Mk.endText s) L1, tokRow (Mk.endText s) L1, attRow (Mk.endText s) L1, txtRow (Mk.endText s) L1]) := by
    refine (perm4 _ _ _ _ _).trans (.cons _ ?_)
    exact (List.perm_append_comm (l₁ := [opnRow _ _, tokRow _ _, attRow _ _, txtRow _ _]) (l₂ := L1.es.map evRow))
  have hn := (hr.perm hp).nd
  intro k hk hm
  have e1 : blks ((lstRow (Mk.endText s) L1 :: L1.es.map evRow) ++ [opnRow (Mk.endText s) L1, tokRow (Mk.endText s) L1, attRow (Mk.endText s) L1, txtRow (Mk.endText s) L1]) = blks (lstRow (Mk.endText s) L1 :: L1.es.map evRow) ++ blks [opnRow (Mk.endText s) L1, tokRow (Mk.endText s) L1, attRow (Mk.endText s) L1, txtRow (Mk.endText s) L1] := by unfold blks; rw [List.filterMap_append]
  rw [e1] at hn
  refine (List.nodup_append.1 hn).2.2 k hm k ?_ rfl
  exact hk

theorem resume_any {w : World} {b : Nat} {s : St} {L : Lay} (h : RdL w b s L) :
    Calls Tryd.prog 81 #[.pointer (some ⟨b, 0, none⟩)] w fun e w' => e = .returned (.tuple #[]) ∧ Mv w b (foot s L) w' (Mk.resume s) L := by
  have hc := h.cell
  have hf := h.frozen
  have hlt := h.lt
  have HM := hide h
  unfold cellsOf at hc
  clear h
  by_cases h0 : s.opn.length = 0
  · have e0 : ((s.opn.length : Int) == 0) = true := by simp [h0]
    have H0 := hide h0
    clear h0
    go_enter Tryd.func81, Tryd.ntmps81
    go_wp2
    go_end0
    unfold Mk.resume
    rw [if_pos (unhide H0)]
    exact ⟨rfl, ((unhide HM).start.store 4 (.int .i64 1) { s with state := 1 } rfl rfl rfl).store 4 _ _ rfl rfl rfl⟩
  · have e0 : ((s.opn.length : Int) == 0) = false := by rw [beq_eq_false_iff_ne]; omega
    have H0 := hide h0
    clear h0
    go_enter Tryd.func81, Tryd.ntmps81
    go_wp2
    go_end0
    unfold Mk.resume
    rw [if_neg (unhide H0)]
    exact ⟨rfl, ((unhide HM).start.store 4 _ _ rfl rfl rfl)⟩

theorem lengthenName_any {w : World} {b : Nat} {s : St} {L : Lay} (h : RdL w b s L) (c : Int) (h0 : 0 ≤ c) (h1 : c ≤ 255) (hx : s.text.length ≤ 1000000000000) (ht : s.token.length ≤ 1000000000000) (c0 : 0 ≤ s.count) (c1 : s.count ≤ 1000000000000) :
    Calls Tryd.prog 85 #[.pointer (some ⟨b, 0, none⟩), .int .u8 c] w fun e w' => e = .returned (.int .i64 (Mk.lengthenName s c).2) ∧ ∃ L', Mv w b (foot s L) w' (Mk.lengthenName s c).1 L' := by
  have HF := hide (fits_any h 1 c0 c1 (by decide) (by decide))
  have HP := hide (fun n => put_any (h.drewN n) c h0 (by omega) hx ht c0 c1)
  have HM := hide h
  cases hfi : Mk.fits s 1
  · rw [hfi] at HF
    clear h
    go_enter Tryd.func85, Tryd.ntmps85
    go_wp2_with (go_at_call 60; refine (unhide HF).mono ?_; rintro e w' ⟨rfl, n, rfl⟩)
    go_ret
    simp only [Mk.lengthenName, hfi]
    exact ⟨rfl, L, (unhide HM).start.drewN _⟩
  · rw [hfi] at HF
    clear h
    go_enter Tryd.func85, Tryd.ntmps85
    go_wp2_with (first | (go_at_call 60; refine (unhide HF).mono ?_; rintro e w' ⟨rfl, n, rfl⟩) | (go_at_call 53; refine (unhide HP n).mono ?_; rintro e w' ⟨rfl, L', hm'⟩; have HM' := hide hm'; clear hm'))
    go_ret
    simp only [Mk.lengthenName, hfi]
    exact ⟨rfl, L', ((unhide HM).start.drewN _).call (unhide HM')⟩
end Go.Proofs.YtkkakfocjbnomaaDoor
