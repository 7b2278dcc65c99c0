/-
  CONTRACTS of package reader: what is told.
-/
import Derived.Test.YtkkakfocjbnomaaDoorTok
namespace Go.Proofs.YtkkakfocjbnomaaDoor
set_option linter.unusedVariables false
set_option linter.unusedSimpArgs false
open Go.RowKit
open Mk (St Bs Ev Att)

theorem infoEv : (Tryd.prog.info? 46).map (fun i => (i.zero, i.size, i.bytes)) = some (some (.agg #[.int .i64 0, .string ByteArray.empty, .string ByteArray.empty, .string ByteArray.empty, .slice none 0 0]), 5, 80) := by kernel_rfl

/-- '[]byte' as a string. -/
theorem conv_row {w : World} {base : Nat} {a : Option Addr} {c : Nat} {l : Bs} (h : w.ownsRow base 5 1 (.slice a l.length c) l.length (l.map bv)) :
    (convert 56 9 (.slice a l.length c)).run Tryd.prog w = .ok (.string ⟨l.toArray⟩) w := by
  rcases h.2 with ⟨hv, hn⟩ | ⟨g, cap, cur, hv, hb, hg, hnc, _, hsz, htake⟩
  · have : l = [] := List.eq_nil_of_length_eq_zero hn
    subst this
    cases hv
    exact run_convert_bytes_nil w _ _ Tryd.underlying56 Tryd.underlying5 0 0 _ Tryd.underlying9
  · cases hv
    refine run_convert_bytes_back w _ _ _ _ _ l Tryd.underlying56 Tryd.underlying5 Tryd.underlying9 fun j hj => ?_
    have hadd : (⟨g, 0, none⟩ : Addr).add j = ⟨g, j, none⟩ := by unfold Addr.add; split <;> simp_all
    rw [hadd, cell_of_row w g j cur _ _ hg]
    have h1 : (l.map bv)[j]? = some (bv l[j]) := by simp [hj]
    rw [← htake, List.getElem?_take_of_lt (by omega)] at h1
    simpa [bv] using h1

theorem evCells_one (e : Ev) (a : Option Addr) (n c : Nat) : ∀ u ∈ evCells e (.slice a n c), u.oneCell' = true := by
  intro u hu
  simp [evCells] at hu
  rcases hu with rfl | rfl | rfl | rfl | rfl <;> rfl

set_option maxHeartbeats 1000000 in
set_option maxRecDepth 100000 in
theorem endText_some {w : World} {b : Nat} {s : St} {L : Lay} (h : RdL w b s L) (ht : 0 < s.text.length) (hx : s.text.length ≤ 1000000000000) (hl : s.list.length ≤ 1000000000000) :
    Calls Tryd.prog 49 #[.pointer (some ⟨b, 24, none⟩)] w fun e w' => e = .returned (.tuple #[]) ∧ ∃ L', Mv w b (foot s L) w' (Mk.endText s) L' ∧ L'.aa = L.aa ∧ L'.ac = L.ac := by
  have hc := h.cell
  have hf := h.frozen
  have hlt := h.lt
  have hcv := conv_row (w := w.drew) ((h.start.drew).rd.rows.own (txtRow s L) (by simp [rowsOf]))
  have hm0 := ((h.start).alloc (.cells #[.int .i64 3, .string ⟨#[]⟩, .string ⟨#[]⟩, .string ⟨s.text.toArray⟩, .slice none 0 0] 46)).drew
  have HM : Hid (Mv w b (foot s L) (w.alloc (.cells #[.int .i64 3, .string ⟨#[]⟩, .string ⟨#[]⟩, .string ⟨s.text.toArray⟩, .slice none 0 0] 46)).drew s L) := hm0
  have HO := hide (hm0.rd.rows.own (lstRow s L) (by simp [rowsOf]))
  have HB : Hid ((w.alloc (.cells #[.int .i64 3, .string ⟨#[]⟩, .string ⟨#[]⟩, .string ⟨s.text.toArray⟩, .slice none 0 0] 46)).drew.heap[w.heap.size]? = some (.cells #[.int .i64 3, .string ⟨#[]⟩, .string ⟨#[]⟩, .string ⟨s.text.toArray⟩, .slice none 0 0] 46 (0, 0))) := heap_alloc_new w _
  have h63 : s.list.length + 1 ≤ maxLen := by unfold maxLen; omega
  have hbb : b + 1 ≤ (w.alloc (.cells #[.int .i64 3, .string ⟨#[]⟩, .string ⟨#[]⟩, .string ⟨s.text.toArray⟩, .slice none 0 0] 46)).drew.heap.size := by simp; omega
  have H63 := hide h63
  have HBB := hide hbb
  have e0 : ((s.text.length : Int) == 0) = false := by rw [beq_eq_false_iff_ne]; omega
  unfold cellsOf at hc
  obtain ⟨i0, hi, hz0, hz1, hz2⟩ := info_parts infoEv
  clear h h63 hbb hm0
  go_enter Tryd.func49, Tryd.ntmps49
  go_wp2
  go_region_law (refine step_append_lies _ rfl (.tmp 12) (.tmp 19) 25 rfl (b + 1) 46 i0 _ 5 80 Tryd.underlying25 hi hz0 hz1 hz2 rfl (by decide) (.slice L.la s.list.length L.lc) s.list.length (evsRow L.es) (by simp [Act.eval]) (unhide HO) ⟨w.heap.size, 0, none⟩ 1 1 (evCells ⟨3, [], [], s.text, []⟩ (.slice none 0 0)) (by simp [Act.eval]) rfl (World.news_of_block (unhide HB)) (evCells_one _ _ _ _) (by decide) (unhide H63) (by omega) (unhide HBB) (w.heap.size + 1) (by simp) ?_; intro g cap w1 hown hgrow hat hlt1; obtain ⟨hr, hfr⟩ := cell_of_blk ((unhide HM).rd.grown (r := lstRow s L) hgrow (by simp [rowsOf])); unfold cellsOf at hr)
  all_goals
    go_wp2
    go_end0
    have hes : Mk.endText s = { s with list := s.list ++ [⟨3, [], [], s.text, []⟩], text := [] } := by unfold Mk.endText; rw [if_neg (by omega)]
    rw [hes]
    exact ⟨rfl, _, ((unhide HM).pushNil ⟨3, [], [], s.text, []⟩ rfl hown hgrow (by simpa using hat)).dropText, rfl, rfl⟩

theorem endText_any {w : World} {b : Nat} {s : St} {L : Lay} (h : RdL w b s L) (hx : s.text.length ≤ 1000000000000) (hl : s.list.length ≤ 1000000000000) :
    Calls Tryd.prog 49 #[.pointer (some ⟨b, 24, none⟩)] w fun e w' => e = .returned (.tuple #[]) ∧ ∃ L', Mv w b (foot s L) w' (Mk.endText s) L' ∧ L'.aa = L.aa ∧ L'.ac = L.ac := by
  by_cases ht : s.text.length = 0
  · have hes : Mk.endText s = s := by unfold Mk.endText; rw [if_pos ht]
    rw [hes]
    have hc := h.cell
    have e0 : ((s.text.length : Int) == 0) = true := by simp [ht]
    have HM := hide h
    unfold cellsOf at hc
    clear h hes ht
    go_enter Tryd.func49, Tryd.ntmps49
    go_wp2
    refine bodyPost_ret (results_none rfl _ _ _) rfl ?_
    exact ⟨rfl, L, (unhide HM).start, rfl, rfl⟩
  · exact endText_some h (by omega) hx hl

theorem Fr.box {w w' : World} {b : Nat} {f f' : List Nat} {o : Obj} {W : World} (h : Fr W w' b f f') (hW : W = w.alloc o) (hb : b < w.heap.size) (hf : ∀ k ∈ f, k < w.heap.size) : w'.heap[w.heap.size]? = some o := by
  subst hW
  rw [h.block w.heap.size (by simp) (by omega) (fun hm => by have := hf _ hm; omega)]
  exact heap_alloc_new w o

set_option maxHeartbeats 1000000 in
set_option maxRecDepth 100000 in
theorem add_nil {w : World} {b : Nat} {s : St} {L : Lay} (h : RdL w b s L) (ev : Ev) (he : ev.attrs = []) (hx : s.text.length ≤ 1000000000000) (hl : s.list.length ≤ 1000000000) :
    Calls Tryd.prog 80 #[.pointer (some ⟨b, 24, none⟩), .agg #[.int .i64 ev.kind, .string ⟨ev.name.toArray⟩, .string ⟨ev.space.toArray⟩, .string ⟨ev.val.toArray⟩, .slice none 0 0]] w fun e w' => e = .returned (.tuple #[]) ∧ ∃ L', Mv w b (foot s L) w' (Mk.add s ev) L' := by
  have hm0 := (h.start).alloc (.cells #[.int .i64 ev.kind, .string ⟨ev.name.toArray⟩, .string ⟨ev.space.toArray⟩, .string ⟨ev.val.toArray⟩, .slice none 0 0] 46)
  have HE := hide (endText_any hm0.rd hx (by omega))
  have HM0 := hide hm0
  have HL := hide h.lt
  have HF := hide h.foot_lt
  obtain ⟨i0, hi, hz0, hz1, hz2⟩ := info_parts infoEv
  clear h hm0
  go_enter Tryd.func80, Tryd.ntmps80
  go_wp2_with fail
  refine (unhide HE).mono ?_
  rintro e w1 ⟨rfl, L1, hm1, -, -⟩
  have hb1 := Fr.box hm1.fr rfl (unhide HL) (fun k hk => (unhide HF k hk).2)
  have hc := hm1.rd.cell
  have hf := hm1.rd.frozen
  have hq : ∀ i, w1.cell? ⟨w.heap.size, i, none⟩ = [.int .i64 ev.kind, .string ⟨ev.name.toArray⟩, .string ⟨ev.space.toArray⟩, .string ⟨ev.val.toArray⟩, .slice none 0 0][i]? := fun i => by simp [World.cell?, hb1]
  have hlen : (Mk.endText s).list.length ≤ 1000000000 + 1 := by unfold Mk.endText; split <;> simp <;> omega
  have hsz : w.heap.size + 1 ≤ w1.heap.size := by have := hm1.fr.size; simpa using this
  have hm2 := (hm1.alloc (.cells #[.int .i64 ev.kind, .string ⟨ev.name.toArray⟩, .string ⟨ev.space.toArray⟩, .string ⟨ev.val.toArray⟩, .slice none 0 0] 46)).drew
  have HO := hide (hm2.rd.rows.own (lstRow (Mk.endText s) L1) (by simp [rowsOf]))
  have HB := hide (show (w1.alloc (.cells #[.int .i64 ev.kind, .string ⟨ev.name.toArray⟩, .string ⟨ev.space.toArray⟩, .string ⟨ev.val.toArray⟩, .slice none 0 0] 46)).drew.heap[w1.heap.size]? = _ from heap_alloc_new w1 _)
  have H63 := hide (show (Mk.endText s).list.length + 1 ≤ maxLen by unfold maxLen; omega)
  have HBB := hide (show b + 1 ≤ (w1.alloc (.cells #[.int .i64 ev.kind, .string ⟨ev.name.toArray⟩, .string ⟨ev.space.toArray⟩, .string ⟨ev.val.toArray⟩, .slice none 0 0] 46)).drew.heap.size by have := hm1.rd.lt; simp; omega)
  have HM := hide ((unhide HM0).call hm2)
  have hlt1 := hm1.rd.lt
  unfold cellsOf at hc
  clear hm1 hm2 hb1 HE HM0
  go_wp2
  go_region_law (refine step_append_lies _ rfl (.tmp 10) (.tmp 12) 25 rfl (b + 1) 46 i0 _ 5 80 Tryd.underlying25 hi hz0 hz1 hz2 rfl (by decide) (.slice L1.la (Mk.endText s).list.length L1.lc) (Mk.endText s).list.length (evsRow L1.es) (by simp [Act.eval]) (unhide HO) ⟨w1.heap.size, 0, none⟩ 1 1 (evCells ev (.slice none 0 0)) (by simp [Act.eval]) rfl (World.news_of_block (unhide HB)) (evCells_one _ _ _ _) (by decide) (unhide H63) (by omega) (unhide HBB) (w1.heap.size + 1) (by simp) ?_; intro g cap w2 hown hgrow hat hlt2; obtain ⟨hr, hfr⟩ := cell_of_blk ((unhide HM).rd.grown (r := lstRow (Mk.endText s) L1) hgrow (by simp [rowsOf])); unfold cellsOf at hr)
  all_goals
    go_wp2
    go_end0
    exact ⟨rfl, _, (unhide HM).pushNil ev he hown hgrow (by simpa using hat)⟩

set_option maxHeartbeats 1000000 in
set_option maxRecDepth 100000 in
theorem add_moved {w : World} {b : Nat} {s : St} {L : Lay} (h : RdL w b s L) (ev : Ev) (he : ev.attrs = s.attrs) (ham : s.am = false) (hx : s.text.length ≤ 1000000000000) (hl : s.list.length ≤ 1000000000) :
    Calls Tryd.prog 80 #[.pointer (some ⟨b, 24, none⟩), .agg #[.int .i64 ev.kind, .string ⟨ev.name.toArray⟩, .string ⟨ev.space.toArray⟩, .string ⟨ev.val.toArray⟩, .slice L.aa s.attrs.length L.ac]] w fun e w' => e = .returned (.tuple #[]) ∧ ∃ L', Mv w b (foot s L) w' { Mk.add s ev with am := true } L' := by
  have hm0 := (h.start).alloc (.cells #[.int .i64 ev.kind, .string ⟨ev.name.toArray⟩, .string ⟨ev.space.toArray⟩, .string ⟨ev.val.toArray⟩, .slice L.aa s.attrs.length L.ac] 46)
  have HE := hide (endText_any hm0.rd hx (by omega))
  have HM0 := hide hm0
  have HL := hide h.lt
  have HF := hide h.foot_lt
  obtain ⟨i0, hi, hz0, hz1, hz2⟩ := info_parts infoEv
  have hatt : (Mk.endText s).attrs = s.attrs := by unfold Mk.endText; split <;> rfl
  have ham' : (Mk.endText s).am = false := by unfold Mk.endText; split <;> exact ham
  have HA := hide hatt
  have HA' := hide ham'
  clear h hm0 hatt ham'
  go_enter Tryd.func80, Tryd.ntmps80
  go_wp2_with fail
  refine (unhide HE).mono ?_
  rintro e w1 ⟨rfl, L1, hm1, ha1, ha2⟩
  have hb1 := Fr.box hm1.fr rfl (unhide HL) (fun k hk => (unhide HF k hk).2)
  rw [← ha1, ← ha2] at hb1
  have hc := hm1.rd.cell
  have hf := hm1.rd.frozen
  have hq : ∀ i, w1.cell? ⟨w.heap.size, i, none⟩ = [.int .i64 ev.kind, .string ⟨ev.name.toArray⟩, .string ⟨ev.space.toArray⟩, .string ⟨ev.val.toArray⟩, .slice L1.aa s.attrs.length L1.ac][i]? := fun i => by simp [World.cell?, hb1]
  have hlen : (Mk.endText s).list.length ≤ 1000000000 + 1 := by unfold Mk.endText; split <;> simp <;> omega
  have hsz : w.heap.size + 1 ≤ w1.heap.size := by have := hm1.fr.size; simpa using this
  have hm2 := (hm1.alloc (.cells #[.int .i64 ev.kind, .string ⟨ev.name.toArray⟩, .string ⟨ev.space.toArray⟩, .string ⟨ev.val.toArray⟩, .slice L1.aa s.attrs.length L1.ac] 46)).drew
  have HO := hide (hm2.rd.rows.own (lstRow (Mk.endText s) L1) (by simp [rowsOf]))
  have HB := hide (show (w1.alloc (.cells #[.int .i64 ev.kind, .string ⟨ev.name.toArray⟩, .string ⟨ev.space.toArray⟩, .string ⟨ev.val.toArray⟩, .slice L1.aa s.attrs.length L1.ac] 46)).drew.heap[w1.heap.size]? = _ from heap_alloc_new w1 _)
  have H63 := hide (show (Mk.endText s).list.length + 1 ≤ maxLen by unfold maxLen; omega)
  have HBB := hide (show b + 1 ≤ (w1.alloc (.cells #[.int .i64 ev.kind, .string ⟨ev.name.toArray⟩, .string ⟨ev.space.toArray⟩, .string ⟨ev.val.toArray⟩, .slice L1.aa s.attrs.length L1.ac] 46)).drew.heap.size by have := hm1.rd.lt; simp; omega)
  have HM := hide ((unhide HM0).call hm2)
  have hlt1 := hm1.rd.lt
  unfold cellsOf at hc
  clear hm1 hm2 hb1 HE HM0 ha1 ha2
  go_wp2
  go_region_law (refine step_append_lies _ rfl (.tmp 10) (.tmp 12) 25 rfl (b + 1) 46 i0 _ 5 80 Tryd.underlying25 hi hz0 hz1 hz2 rfl (by decide) (.slice L1.la (Mk.endText s).list.length L1.lc) (Mk.endText s).list.length (evsRow L1.es) (by simp [Act.eval]) (unhide HO) ⟨w1.heap.size, 0, none⟩ 1 1 (evCells ev (.slice L1.aa s.attrs.length L1.ac)) (by simp [Act.eval]) rfl (World.news_of_block (unhide HB)) (evCells_one _ _ _ _) (by decide) (unhide H63) (by omega) (unhide HBB) (w1.heap.size + 1) (by simp) ?_; intro g cap w2 hown hgrow hat hlt2; obtain ⟨hr, hfr⟩ := cell_of_blk ((unhide HM).rd.grown (r := lstRow (Mk.endText s) L1) hgrow (by simp [rowsOf])); unfold cellsOf at hr)
  all_goals
    go_wp2
    go_end0
    rw [← unhide HA] at hown
    exact ⟨rfl, _, (unhide HM).pushMoved ev (he.trans (unhide HA).symm) (unhide HA') hown hgrow (by simpa using hat)⟩
end Go.Proofs.YtkkakfocjbnomaaDoor
