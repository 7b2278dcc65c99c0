/-
  CONTRACTS of package reader: tags (1).
-/
import Derived.Test.YtkkakfocjbnomaaDoorContent
namespace Go.Proofs.YtkkakfocjbnomaaDoor
set_option linter.unusedVariables false
set_option linter.unusedSimpArgs false
open Go.RowKit
open Mk (St Bs Ev Att)

section
variable {w0 w w' : World} {b : Nat} {f0 : List Nat} {s : St} {L : Lay}
theorem Mv.pushOpen (m : Mv w0 b f0 w s L) (x : Bs) {g cap : Nat} (hown : w'.ownsRow (b + 1) 9 1 (.slice (some ⟨g, 0, none⟩) (s.opn.length + 1) cap) (s.opn.length + 1) (s.opn.map sv ++ [.string ⟨x.toArray⟩]))
    (hg : w.grownBy w' (opnRow s L).v.ownBlock) (hat : (Value.slice L.oa s.opn.length L.oc).ownBlock = some g ∨ g = w.heap.size) :
    Mv w0 b f0 (w'.setCell ⟨b, 5, none⟩ (.slice (some ⟨g, 0, none⟩) (s.opn.length + 1) cap)) { s with opn := s.opn ++ [x] } { L with oa := some ⟨g, 0, none⟩, oc := cap } := by
  refine m.grow (r := opnRow s L) (r' := opnRow { s with opn := s.opn ++ [x] } { L with oa := some ⟨g, 0, none⟩, oc := cap }) (rs := tokRow s L :: attRow s L :: lstRow s L :: txtRow s L :: L.es.map evRow) 5 _ (.refl _) (.refl _) ?_ hg ?_ ?_ m.rd.evs
  · show World.ownsRow _ _ _ _ _ _ _
    simp only [opnRow, List.length_append, List.length_cons, List.length_nil, Nat.zero_add, List.map_append, List.map_cons, List.map_nil]
    exact hown
  · rcases hat with h | h
    · exact .inl h.symm
    · exact .inr (by rw [h]; rfl)
  · simp [cellsOf]
theorem Mv.pushAttr (m : Mv w0 b f0 w s L) (x : Att) (ham : s.am = false) {g cap : Nat} (hown : w'.ownsRow (b + 1) 50 3 (.slice (some ⟨g, 0, none⟩) (s.attrs.length + 1) cap) (s.attrs.length + 1) (atsRow s.attrs ++ atCells x))
    (hg : w.grownBy w' (Value.slice L.aa s.attrs.length L.ac).ownBlock) (hat : (Value.slice L.aa s.attrs.length L.ac).ownBlock = some g ∨ g = w.heap.size) :
    Mv w0 b f0 (w'.setCell ⟨b, 11, none⟩ (.slice (some ⟨g, 0, none⟩) (s.attrs.length + 1) cap)) { s with attrs := s.attrs ++ [x] } { L with aa := some ⟨g, 0, none⟩, ac := cap } := by
  have e1 : (attRow s L).v = .slice L.aa s.attrs.length L.ac := by simp [attRow, ham]
  refine m.grow (r := attRow s L) (r' := attRow { s with attrs := s.attrs ++ [x] } { L with aa := some ⟨g, 0, none⟩, ac := cap }) (rs := opnRow s L :: tokRow s L :: lstRow s L :: txtRow s L :: L.es.map evRow) 11 _ (perm3 _ _ _ _) (perm3 _ _ _ _) ?_ (by rw [e1]; exact hg) ?_ ?_ m.rd.evs
  · show World.ownsRow _ _ _ _ _ _ _
    simp only [attRow, ham, List.length_append, List.length_cons, List.length_nil, Nat.zero_add, atsRow, List.flatMap_append, List.flatMap_cons, List.flatMap_nil, List.append_nil]
    exact hown
  · rw [e1]
    rcases hat with h | h
    · exact .inl (by simp [attRow, ham]; exact h.symm)
    · exact .inr (by rw [h]; simp [attRow, ham]; rfl)
  · simp [cellsOf]
end

theorem infoStr : (Tryd.prog.info? 9).map (fun i => (i.zero, i.size, i.bytes)) = some (some (.string ByteArray.empty), 1, 16) := by kernel_rfl
theorem infoAt : (Tryd.prog.info? 50).map (fun i => (i.zero, i.size, i.bytes)) = some (some (.agg #[.string ByteArray.empty, .string ByteArray.empty, .string ByteArray.empty]), 3, 48) := by kernel_rfl
theorem atCells_one (a : Att) : ∀ u ∈ atCells a, u.oneCell' = true := by
  intro u hu
  simp [atCells] at hu
  rcases hu with rfl | rfl | rfl <;> rfl

theorem tellStart_any {w : World} {b : Nat} {s : St} {L : Lay} (h : RdL w b s L) (hB : Bd s) :
    Calls Tryd.prog 105 #[.pointer (some ⟨b, 0, none⟩)] w fun e w' => e = .returned (.tuple #[]) ∧ ∃ L', Mv w b (foot s L) w' (Mk.tellStart s) L' := by
  have hc := h.cell
  have hf := h.frozen
  have hlt := h.lt
  have hm0 := h.start.drew
  have H2 := hide (add_moved hm0.rd ⟨1, s.name, [], [], s.attrs⟩ rfl hB.am (Nat.le_trans hB.hx (by decide)) (Nat.le_trans hB.hl (by decide)))
  have HM0 := hide hm0
  have HA := hide hB.am
  unfold cellsOf at hc
  clear h hm0 hB
  go_enter Tryd.func105, Tryd.ntmps105
  go_wp2
  go_region_with (go_at_call 80; refine (unhide H2).mono ?_; rintro e w2 ⟨rfl, L2, hm2⟩)
  all_goals
    have hc2 := hm2.rd.cell
    have hf2 := hm2.rd.frozen
    have hlt2 := hm2.rd.lt
    have HM3 := hide (((unhide HM0).call hm2).dropAttrs)
    unfold cellsOf at hc2
    clear hm2 H2 HM0 hc hf
    go_wp2
    go_end0
    have e1 : Mk.tellStart s = { { Mk.add s ⟨1, s.name, [], [], s.attrs⟩ with am := true } with attrs := [], am := false } := by
      have := unhide HA
      unfold Mk.tellStart Mk.add Mk.endText
      split <;> simp [this]
    rw [e1]
    exact ⟨rfl, _, unhide HM3⟩

theorem tellEnd_any {w : World} {b : Nat} {s : St} {L : Lay} (h : RdL w b s L) (hB : Bd s) (x : Bs) :
    Calls Tryd.prog 102 #[.pointer (some ⟨b, 0, none⟩), .string ⟨x.toArray⟩] w fun e w' => e = .returned (.tuple #[]) ∧ ∃ L', Mv w b (foot s L) w' (Mk.tellEnd s x) L' := by
  have H2 := hide (add_nil h ⟨2, x, [], [], []⟩ rfl (Nat.le_trans hB.hx (by decide)) (Nat.le_trans hB.hl (by decide)))
  have HM0 := hide h
  have ho := hB.ho
  clear h hB
  go_enter Tryd.func102, Tryd.ntmps102
  go_wp2_with fail
  refine (unhide H2).mono ?_
  rintro e w2 ⟨rfl, L2, hm2⟩
  have hc2 := hm2.rd.cell
  have hf2 := hm2.rd.frozen
  have hlt2 := hm2.rd.lt
  have eo : (Mk.add s ⟨2, x, [], [], []⟩).opn = s.opn := by unfold Mk.add Mk.endText; split <;> rfl
  obtain ⟨o, hov⟩ : ∃ o, decide (s.opn.length = 0) = o := ⟨_, rfl⟩
  have hm3 := hm2.store 6 (.bool o) { Mk.add s ⟨2, x, [], [], []⟩ with over := o } rfl rfl rfl
  have H3 := hide (resume_any hm3.rd)
  have HM3 := hide hm3
  have ed : ((s.opn.length : Int) == 0) = o := by rw [← hov, Bool.eq_iff_iff, beq_iff_eq, decide_eq_true_eq]; omega
  have HO := hide hov
  unfold cellsOf at hc2
  clear hm2 hm3 H2 HM0 hov
  go_wp2_with (go_at_call 81; refine (unhide H3).mono ?_; rintro e w3 ⟨rfl, hm3⟩; have HM4 := hide hm3; clear hm3)
  go_end0
  unfold Mk.tellEnd
  rw [unhide HO]
  exact ⟨rfl, L2, (unhide HM3).call (unhide HM4)⟩

/-- Bounds behind tellStart. -/
theorem tellStart_bd {s : St} (h : Bd s) (hl : s.list.length + 2 ≤ 100000000) : Bd (Mk.tellStart s) ∧ (Mk.tellStart s).opn = s.opn ∧ (Mk.tellStart s).name = s.name ∧ (Mk.tellStart s).list.length ≤ s.list.length + 2 := by
  obtain ⟨q1, q2, q3, q4, q5, q6, q7, q8, q9, q10, q11, q12, q13, q14, q15⟩ := h
  unfold Mk.tellStart Mk.add Mk.endText
  split
  · exact ⟨⟨q1, q2, q3, q4, by simp; omega, q6, by simp, q8, q9, q10, q11, q12, q13, q14, q15⟩, rfl, rfl, by simp⟩
  · exact ⟨⟨by simp, q2, q3, q4, by simp; omega, q6, by simp, q8, q9, q10, q11, q12, q13, q14, q15⟩, rfl, rfl, by simp⟩

set_option maxHeartbeats 1000000 in
set_option maxRecDepth 100000 in
theorem readStartGap_any {w : World} {b : Nat} {s : St} {L : Lay} (h : RdL w b s L) (hB : Bd s) (hl2 : s.list.length + 2 ≤ 100000000) (x : Int) :
    Calls Tryd.prog 94 #[.pointer (some ⟨b, 0, none⟩), .int .u8 x] w (Does w b s L (Mk.readStartGap s x)) := by
  have hc := h.cell
  have hf := h.frozen
  have hlt := h.lt
  have HM := hide h
  have HT := hide (tellStart_any h hB)
  have hbd := tellStart_bd hB hl2
  unfold cellsOf at hc
  clear h
  cases es : Mk.isSpace x
  · cases e1 : (x == 47)
    · cases e2 : (x == 62)
      · have hr : Mk.readStartGap s x = (s, 3) := by simp [Mk.readStartGap, es, e1, e2]
        rw [hr]
        clear hr HT
        go_enter Tryd.func94, Tryd.ntmps94
        go_wp2_with (go_at_call 55; refine (isSpace_any _ _).mono ?_; rintro e w1 ⟨rfl, rfl⟩)
        go_ret
        exact ⟨rfl, L, (unhide HM).start⟩
      · have hr : Mk.readStartGap s x = (Mk.resume { Mk.tellStart s with opn := s.opn ++ [s.name], name := [] }, 0) := by simp [Mk.readStartGap, es, e1, e2]
        rw [hr]
        obtain ⟨i0, hi, hz0, hz1, hz2⟩ := info_parts infoStr
        clear hr hc hf
        go_enter Tryd.func94, Tryd.ntmps94
        go_wp2_with (go_at_call 55; refine (isSpace_any _ _).mono ?_; rintro e w1 ⟨rfl, rfl⟩)
        refine (unhide HT).mono ?_
        rintro e w1 ⟨rfl, L1, hm1⟩
        obtain ⟨hb1, ho1, hn1, -⟩ := hbd
        clear HT HM hB
        generalize Mk.tellStart s = s1 at *
        have HO1 := hide ho1
        have HN1 := hide hn1
        clear ho1 hn1
        have hc := hm1.rd.cell
        have hf := hm1.rd.frozen
        have hlt1 := hm1.rd.lt
        have ho := hb1.ho
        have hm2 := (hm1.alloc (.cells #[.string ⟨s1.name.toArray⟩] 9)).drew
        have HO := hide (hm2.rd.rows.own (opnRow s1 L1) (by simp [rowsOf]))
        have HB := hide (show (w1.alloc (.cells #[.string ⟨s1.name.toArray⟩] 9)).drew.heap[w1.heap.size]? = _ from heap_alloc_new w1 _)
        have H63 := hide (show s1.opn.length + 1 ≤ maxLen by unfold maxLen; omega)
        have HBB := hide (show b + 1 ≤ (w1.alloc (.cells #[.string ⟨s1.name.toArray⟩] 9)).drew.heap.size by simp; omega)
        have HM2 := hide hm2
        unfold cellsOf at hc
        clear hm1 hm2 hb1
        go_wp2
        go_region_law (refine step_append_lies _ rfl (.tmp 26) (.tmp 31) 30 rfl (b + 1) 9 i0 _ 1 16 Tryd.underlying30 hi hz0 hz1 hz2 rfl (by decide) (.slice L1.oa s1.opn.length L1.oc) s1.opn.length (s1.opn.map sv) (by simp [Act.eval]) (unhide HO) ⟨w1.heap.size, 0, none⟩ 1 1 [.string ⟨s1.name.toArray⟩] (by simp [Act.eval]) rfl (World.news_of_block (unhide HB)) (by intro u hu; simp at hu; subst hu; rfl) (by decide) (unhide H63) (by omega) (unhide HBB) (w1.heap.size + 1) (by simp) ?_; intro g cap w2 hown hgrow hat hlt2; obtain ⟨hr, hfr⟩ := cell_of_blk ((unhide HM2).rd.grown (r := opnRow s1 L1) hgrow (by simp [rowsOf])); unfold cellsOf at hr)
        all_goals
          have hm3 := ((unhide HM2).pushOpen s1.name hown hgrow (by simpa using hat)).store 9 (.string ⟨#[]⟩) { s1 with opn := s1.opn ++ [s1.name], name := [] } rfl rfl rfl
          have H3 := hide (resume_any hm3.rd)
          have HM3 := hide hm3
          clear hm3 HM2 hown hgrow
          go_wp2_with (go_at_call 81; refine (unhide H3).mono ?_; rintro e w3 ⟨rfl, hm3⟩; have HM4 := hide hm3; clear hm3)
          go_ret
          rw [← unhide HO1, ← unhide HN1]
          exact ⟨rfl, _, (unhide HM3).call (unhide HM4)⟩
    · have hr : Mk.readStartGap s x = ({ s with state := 19 }, 0) := by simp [Mk.readStartGap, es, e1]
      rw [hr]
      clear hr HT
      go_enter Tryd.func94, Tryd.ntmps94
      go_wp2_with (go_at_call 55; refine (isSpace_any _ _).mono ?_; rintro e w1 ⟨rfl, rfl⟩)
      go_ret
      exact ⟨rfl, L, (unhide HM).start.store 4 _ _ rfl rfl rfl⟩
  · have hr : Mk.readStartGap s x = ({ s with state := 13 }, 0) := by simp [Mk.readStartGap, es]
    rw [hr]
    clear hr HT
    go_enter Tryd.func94, Tryd.ntmps94
    go_wp2_with (go_at_call 55; refine (isSpace_any _ _).mono ?_; rintro e w1 ⟨rfl, rfl⟩)
    go_ret
    exact ⟨rfl, L, (unhide HM).start.store 4 _ _ rfl rfl rfl⟩

set_option maxHeartbeats 1000000 in
set_option maxRecDepth 100000 in
theorem endValue_any {w : World} {b : Nat} {s : St} {L : Lay} (h : RdL w b s L) (hB : Bd s) :
    Calls Tryd.prog 61 #[.pointer (some ⟨b, 0, none⟩)] w fun e w' => e = .returned (.tuple #[]) ∧ ∃ L', Mv w b (foot s L) w' (Mk.endValue s) L' := by
  have HT := hide (takeToken_any h)
  have HM := hide h
  have HA := hide hB.am
  have ha := hB.ha
  obtain ⟨i0, hi, hz0, hz1, hz2⟩ := info_parts infoAt
  clear h hB
  go_enter Tryd.func61, Tryd.ntmps61
  go_wp2_with fail
  refine (unhide HT).mono ?_
  rintro e w1 ⟨rfl, L1, hm1⟩
  have hc := hm1.rd.cell
  have hf := hm1.rd.frozen
  have hlt1 := hm1.rd.lt
  have hm2 := (hm1.alloc (.cells #[.string ⟨s.attr.toArray⟩, .string ⟨#[]⟩, .string ⟨s.token.toArray⟩] 50)).drew
  have hrow := hm2.rd.rows.own (attRow (Mk.dropToken s) L1) (by simp [rowsOf])
  have e1 : attRow (Mk.dropToken s) L1 = ⟨50, 3, .slice L1.aa s.attrs.length L1.ac, s.attrs.length, atsRow s.attrs⟩ := by simp [attRow, Mk.dropToken, unhide HA]
  rw [e1] at hrow
  have HO := hide hrow
  have HB := hide (show (w1.alloc (.cells #[.string ⟨s.attr.toArray⟩, .string ⟨#[]⟩, .string ⟨s.token.toArray⟩] 50)).drew.heap[w1.heap.size]? = _ from heap_alloc_new w1 _)
  have H63 := hide (show s.attrs.length + 1 ≤ maxLen by unfold maxLen; omega)
  have HBB := hide (show b + 1 ≤ (w1.alloc (.cells #[.string ⟨s.attr.toArray⟩, .string ⟨#[]⟩, .string ⟨s.token.toArray⟩] 50)).drew.heap.size by simp; omega)
  have HM2 := hide hm2
  have HE1 := hide e1
  unfold cellsOf at hc
  clear hm1 hm2 hrow HT e1
  go_wp2
  go_region_law (refine step_append_lies _ rfl (.tmp 9) (.tmp 16) 44 rfl (b + 1) 50 i0 _ 3 48 Tryd.underlying44 hi hz0 hz1 hz2 rfl (by decide) (.slice L1.aa s.attrs.length L1.ac) s.attrs.length (atsRow s.attrs) (by simp [Act.eval, Mk.dropToken]) (unhide HO) ⟨w1.heap.size, 0, none⟩ 1 1 (atCells ⟨s.attr, [], s.token⟩) (by simp [Act.eval]) rfl (World.news_of_block (unhide HB)) (atCells_one _) (by decide) (unhide H63) (by omega) (unhide HBB) (w1.heap.size + 1) (by simp) ?_; intro g cap w2 hown hgrow hat hlt2; obtain ⟨hr, hfr⟩ := cell_of_blk ((unhide HM2).rd.grown (r := attRow (Mk.dropToken s) L1) (by rw [unhide HE1]; exact hgrow) (by simp [rowsOf])); unfold cellsOf at hr)
  all_goals
    have HM3 := hide ((((unhide HM2).pushAttr (⟨s.attr, [], s.token⟩ : Att) (unhide HA) hown hgrow (by simpa [Mk.dropToken] using hat)).store 10 (.string ⟨#[]⟩) { Mk.dropToken s with attrs := s.attrs ++ [(⟨s.attr, [], s.token⟩ : Att)], attr := [] } rfl rfl rfl).store 4 (.int .i64 18) { Mk.dropToken s with attrs := s.attrs ++ [(⟨s.attr, [], s.token⟩ : Att)], attr := [], state := 18 } rfl rfl rfl)
    clear hown hgrow
    go_wp2
    go_end0
    exact ⟨rfl, _, unhide HM3⟩
end Go.Proofs.YtkkakfocjbnomaaDoor
