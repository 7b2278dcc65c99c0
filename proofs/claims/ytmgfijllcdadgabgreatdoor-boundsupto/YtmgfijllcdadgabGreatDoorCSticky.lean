/- Sticky -/
import Derived.Test.YtmgfijllcdadgabGreatDoorCAgain
namespace Go.Proofs.YtmgfijllcdadgabGreatDoor
set_option linter.unusedVariables false
set_option linter.unusedSimpArgs false
open Go.RowKit
open Mk (St Bs Ev Att)

theorem Feed_over {w : World} {b : Nat} {s : St} {L : Lay} (h : RdL w b s L) (e1 : s.ended ≠ 0) (a : Option Addr) (n c : Nat) :
    Calls Tryz.prog 30 #[.pointer (some ⟨b, 0, none⟩), .slice a n c] w fun e w' => e = .returned (.tuple #[.slice none 0 0, .int .i64 s.ended]) ∧ ∃ m, w' = w.drewN m := by
  have hc := h.cell
  have hlt := h.lt
  have e2 : (s.ended != 0) = true := by simpa using e1
  unfold cellsOf at hc
  clear h e1
  go_enter Tryz.func30, Tryz.ntmps30
  go_wp2
  go_quiet (fail)
  go_wp2
  go_ret2
  exact ⟨rfl, _, rfl⟩
theorem Close_over {w : World} {b : Nat} {s : St} {L : Lay} (h : RdL w b s L) (e1 : s.ended ≠ 0) :
    Calls Tryz.prog 32 #[.pointer (some ⟨b, 0, none⟩)] w fun e w' => e = .returned (.int .i64 s.ended) ∧ w' = w := by
  have hc := h.cell
  have hlt := h.lt
  have e2 : (s.ended != 0) = true := by simpa using e1
  unfold cellsOf at hc
  clear h e1
  go_enter Tryz.func32, Tryz.ntmps32
  go_wp2
  go_ret
  exact ⟨rfl, rfl⟩
theorem rest_over {w : World} {b : Nat} {s : St} {L : Lay} (h : RdL w b s L) (e1 : s.ended ≠ 0) : Calls Tryz.prog 34 #[.pointer (some ⟨b, 0, none⟩)] w fun e w' => e = .returned (.slice none 0 0) ∧ w' = w := by
  have hc := h.cell
  have hlt := h.lt
  have e2 : (s.ended != 0) = true := by simpa using e1
  unfold cellsOf at hc
  clear h e1
  go_enter Tryz.func34, Tryz.ntmps34
  go_wp2
  go_ret
  exact ⟨rfl, rfl⟩

theorem below_rd {w w' : World} {b : Nat} {s : St} {L : Lay} (h : RdL w b s L) (hb : Below w.heap.size w w') : RdL w' b s L :=
  h.keep fun k hk => hb.block k (by
    rcases hk with rfl | hk
    · exact h.lt
    · exact (h.foot_lt _ hk).2)

set_option maxHeartbeats 2000000 in
set_option maxRecDepth 100000 in
theorem after_any {w : World} {b : Nat} {s : St} {L : Lay} (h : RdL w b s L) (e1 : s.ended ≠ 0) (ho : s.opn.length ≤ 1000000000) (strs : List Bs) (la : Option Addr) (lc : Nat) (hS : StrsAt w strs la) (hl : strs.length ≤ 1120000) :
    Calls Tryz.prog 31 #[.pointer (some ⟨b, 0, none⟩), .int .i64 s.ended, .slice la strs.length lc] w fun e w' => e = .returned (.bool true) ∧ Below w.heap.size w w' := by
  have HM := hide h
  have HA := hide (fun w' (hb : Below w.heap.size w w') => at_any (below_rd h hb))
  have HP := hide (fun w' (hb : Below w.heap.size w w') => place_any (below_rd h hb))
  have HO := hide (fun w' (hb : Below w.heap.size w w') => open_any (below_rd h hb) ho)
  have HS := hide hS
  have HE := hide e1
  clear h hS e1
  go_enter Tryz.func31, Tryz.ntmps31
  go_wp2_with (go_at_call 39; refine (unhide HA _ (Below.refl _ _)).mono ?_; rintro e w' ⟨rfl, hw⟩; obtain rfl := hw.symm)
  refine (unhide HP _ (Below.refl _ _)).mono ?_
  rintro e w' ⟨rfl, n1, rfl⟩
  go_wp2_with fail
  refine (unhide HO _ (below_drewN (Below.refl _ _) n1)).mono ?_
  rintro e w1 ⟨oa, oc, rfl, hown, hb1⟩
  have hbw1 : Below w.heap.size w w1 := (below_drewN (Below.refl _ _) n1).trans hb1
  have hs1 := hbw1.size
  have HN1 : Hid (Nms w.heap.size w1 oa s.opn.length oc s.opn) := hown
  clear hown hb1
  go_wp2_with fail
  go_loopw [11] (fun s11 w' => ∃ i : Nat, s11 = .int .i64 i ∧ i ≤ strs.length ∧ Below w1.heap.size w1 w') (fun i _ => strs.length - (intOf i).toNat)
  case atStart => exact ⟨0, rfl, by omega, Below.refl _ _⟩
  case round =>
    obtain ⟨i, rfl, hi, hb0⟩ := hrel
    have hb : Below w.heap.size w wr := hbw1.trans (hb0.mono hs1)
    by_cases hlt : i < strs.length
    · have e1 : decide ((i : Int) < (strs.length : Int)) = true := by simp; omega
      obtain ⟨cg, co, rfl, hcg, hcell⟩ := (unhide HS).below (Nat.le_refl _) hb i hlt
      obtain ⟨W1, c, hconv, hbW, hW1s, hcells⟩ := conv_bytes wr strs[i]
      have hbs := hb.size
      have hbw1 : Below w.heap.size w W1 := hb.trans (hbW.mono hbs)
      have hbz : Below w1.heap.size w1 W1 := hb0.trans (hbW.mono hb0.size)
      have HF := hide (Feed_over (below_rd (unhide HM) hbw1) (unhide HE) (some ⟨wr.heap.size, 0, none⟩) strs[i].length c)
      have HC := hide (fun m => Close_over (w := W1.drewN m) (below_rd (unhide HM) (below_drewN hbw1 m)) (unhide HE))
      have HR := hide (fun m => rest_over (w := W1.drewN m) (below_rd (unhide HM) (below_drewN hbw1 m)) (unhide HE))
      have e2 : (s.ended != s.ended) = false := by simp
      clear hcells hb HS HA HP HO HN1
      go_wp2_with (first
        | (go_at_call 30; refine (unhide HF).mono ?_; rintro e w' ⟨rfl, m, rfl⟩)
        | (go_at_call 34; refine (unhide HR _).mono ?_; rintro e w' ⟨rfl, hw⟩; obtain rfl := hw.symm)
        | (go_at_call 32; refine (unhide HC _).mono ?_; rintro e w' ⟨rfl, hw⟩; obtain rfl := hw.symm))
      exact ⟨⟨i + 1, by simp, by omega, below_drewN hbz m⟩, by simp [intOf] <;> omega⟩
    · have e1 : decide ((i : Int) < (strs.length : Int)) = false := by simp; omega
      have HA1 := hide (unhide HA _ hb)
      have HP1 := hide (unhide HP _ hb)
      have hbs := hb.size
      have e2 : (s.at_ == s.at_) = true := by simp
      have e3 : (s.line == s.line) = true := by simp
      have e4 : (s.column == s.column) = true := by simp
      clear HS HA HP
      go_wp2_with (go_at_call 39; refine (unhide HA1).mono ?_; rintro e w' ⟨rfl, hw⟩; obtain rfl := hw.symm)
      refine (unhide HP1).mono ?_
      rintro e w' ⟨rfl, n2, rfl⟩
      go_wp2_with fail
      refine (unhide HO _ (below_drewN hb n2)).mono ?_
      rintro e w3 ⟨oa3, oc3, rfl, hown3, hb3⟩
      have hb03 : Below w1.heap.size w1 w3 := (below_drewN hb0 n2).trans (hb3.mono (by rw [heap_drewN]; exact hb0.size))
      have HSN := hide (sameNames_eq (w := w3) (show Nms _ w3 oa3 s.opn.length oc3 s.opn from hown3) ((unhide HN1).keep fun k _ hk => hb03.block k hk))
      have hfin : Below w.heap.size w w3 := hbw1.trans (hb03.mono hs1)
      clear hown3 hb3 hb03 HN1 HO
      go_wp2_with fail
      refine (unhide HSN).mono ?_
      rintro e w4 ⟨rfl, n4, rfl⟩
      go_wp2
      go_ret
      exact ⟨rfl, below_drewN hfin n4⟩

theorem feed_end {s : St} (h : s.ended = 0) (l : Bs) : (Mk.feed s l).1.ended = (Mk.feed s l).2.2 := by
  unfold Mk.feed
  rw [if_pos h]
  unfold Mk.take Mk.endText
  split <;> rfl

set_option maxHeartbeats 2000000 in
set_option maxRecDepth 100000 in
theorem sticky_any (d a t : Int) (nm : Bool) (d1 : 1 ≤ d) (d2 : d ≤ 64) (a1 : 0 ≤ a) (a2 : a ≤ 32) (t1 : 8 ≤ t) (t2 : t ≤ 1024) (text : Bs) (hT : text.length ≤ 1120000) (strs : List Bs) (la : Option Addr) (lc : Nat) (hl : strs.length ≤ 1120000) (w : World) (hS : StrsAt w strs la) (hG : Gl w) (hs : 6 < w.heap.size) :
    Calls Tryz.prog 10 #[.agg #[.int .i64 d, .int .i64 a, .int .i64 t, .bool nm], .string ⟨text.toArray⟩, .slice la strs.length lc] w fun e w' => e = .returned (.bool true) ∧ Below w.heap.size w w' := by
  have HX := hide (fun w hG hs => run_any d a t nm d1 d2 a1 a2 t1 t2 text [] none 0 hT (by decide) w (fun j hj => by cases hj) (fun c hc => by cases hc) hG hs)
  have q1 := runL_eq d a t nm text []
  have HINV := hide (inv_make d a t nm a2)
  have HT := hide (fun v q hv w hG hs => told_any d a t nm d1 d2 a1 a2 t1 t2 v hv _ _ _ q text (told_ok d a t nm text) w hG hs)
  rw [q1.1, q1.2.1, q1.2.2.1, q1.2.2.2] at HX
  have HN := hide (fun w => new_any d a t nm d1 d2 a1 a2 t1 t2 w)
  clear q1
  generalize join [] (out (Mk.feedAll (Mk.make_ d a t nm) text).list (Mk.feedAll (Mk.make_ d a t nm) text).text) = evs at *
  generalize (Mk.close (Mk.feedAll (Mk.make_ d a t nm) text)).2 = en at *
  generalize (Mk.feedAll (Mk.make_ d a t nm) text).ended = err at *
  generalize (Mk.feedAll (Mk.make_ d a t nm) text).at_ = at_ at *
  have HG := hide hG
  have HS := hide hS
  clear hG hS d1 d2 a1 a2 t1 t2
  go_enter Tryz.func10, Tryz.ntmps10
  go_wp2_with fail
  have hb0 := (Below.refl w.heap.size w).alloc (Nat.le_refl _) (.cells #[.int .i64 d, .int .i64 a, .int .i64 t, .bool nm] 25 (0, 0))
  refine (unhide HN _).mono ?_
  rintro e w1 ⟨b, rfl, hb, hb1, hrd⟩
  simp at hb
  have hx1 : w1.heap[w.heap.size]? = some (.cells #[.int .i64 d, .int .i64 a, .int .i64 t, .bool nm] 25 (0, 0)) := by
    rw [hb1.block _ (by simp)]
    exact heap_alloc_new w _
  have hsz1 : w.heap.size < w1.heap.size := (Array.getElem?_eq_some_iff.1 hx1).1
  have hc1 : ∀ j, w1.cell? ⟨w.heap.size, j, none⟩ = [.int .i64 d, .int .i64 a, .int .i64 t, .bool nm][j]? := fun j => by simp [World.cell?, hx1]
  have hbw1 : Below w.heap.size w w1 := hb0.trans (hb1.mono (by simp))
  have HRD := hide hrd
  clear hb1 hb0 hrd HN
  go_wp2_with fail
  refine (unhide HX _ ((unhide HG).below hs hbw1) (by omega)).mono ?_
  rintro e w2 ⟨v2, fp2, u2, rfl, hg2, hf2, hb2, -⟩
  obtain ⟨x2, c2, rfl⟩ := hg2.slice
  have hst := lay_out w2 (.slice x2 evs.length c2) err en at_ u2 ⟨_, _, _, rfl⟩
  have hy1 : w2.heap[w.heap.size]? = some (.cells #[.int .i64 d, .int .i64 a, .int .i64 t, .bool nm] 25 (0, 0)) := by
    rw [hb2.block _ hsz1]; exact hx1
  have hs2 := hb2.size
  have hd1 : ∀ o j, (w2.alloc o).cell? ⟨w.heap.size, j, none⟩ = [.int .i64 d, .int .i64 a, .int .i64 t, .bool nm][j]? := fun o j => by simp only [World.cell?]; rw [Below.heap_alloc _ _ _ (by omega), hy1]; simp
  have hbw2 : Below w.heap.size w w2 := hbw1.trans (hb2.mono (by omega))
  have HRD2 := hide (below_rd (unhide HRD) hb2)
  clear hg2 hf2 hb2 hc1 hx1 hbw1 HX HRD
  go_wp2_with fail
  have hb4 := hbw2.alloc (by omega) (.cells (outCells (.slice x2 evs.length c2) err en at_ u2) 38 (0, 0))
  have hrd4 := below_rd (unhide HRD2) ((Below.refl w2.heap.size w2).alloc (Nat.le_refl _) (.cells (outCells (.slice x2 evs.length c2) err en at_ u2) 38 (0, 0)))
  refine (unhide HT (.slice x2 evs.length c2) u2 ⟨_, _, _, rfl⟩ _ ((unhide HG).below hs hb4) (by simp; omega)).mono ?_
  rintro e w3 ⟨rfl, hb5⟩
  have hrd5 := below_rd hrd4 hb5
  have hbw3 : Below w.heap.size w w3 := hb4.trans (hb5.mono (by simp; omega))
  have hs3 := hb5.size
  simp at hs3
  obtain ⟨W1, c, hconv, hbW, hW1s, hcells⟩ := conv_bytes w3 text
  have hrdW := below_rd hrd5 hbW
  have hbwW : Below w.heap.size w W1 := hbw3.trans (hbW.mono (by omega))
  have hbl5 := hrd5.lt
  have HF := hide (Feed_any hrdW (unhide HINV) text (by omega) ((unhide HG).below hs hbwW) (by omega) (by simp [Mk.make_]) (by simp [Mk.make_]) w3.heap.size c (by omega) (by omega) (by rw [foot_L0]; simp; omega) hcells)
  have hfe := feed_end (s := Mk.make_ d a t nm) rfl text
  have HBW := hide hbwW
  clear hrd4 hrd5 hrdW hb4 hb5 hcells hbW hbwW hbw3 hbw2 hd1 hst hy1 HT HRD2
  go_wp2_with fail
  refine (unhide HF).mono ?_
  rintro e w4 ⟨v4, fp4, L4, rfl, hg4, ⟨va, vn, vc, rfl⟩, hM, hf4⟩
  have hbw4 : Below w.heap.size w w4 := (unhide HBW).trans ⟨hM.fr.os, hM.fr.tape, hM.fr.output, hM.fr.size, fun k hk => hM.fr.block k (by omega) (by omega) (by rw [foot_L0]; simp; omega)⟩
  clear hg4 hf4 HF hconv
  rw [← hfe]
  clear hfe
  have hol : (Mk.feed (Mk.make_ d a t nm) text).1.opn.length ≤ 1000000000 := by have := (inv_feed (unhide HINV) text).ho; omega
  generalize (Mk.feed (Mk.make_ d a t nm) text).1 = s1 at *
  have HR4 := hide hM.rd
  have hs4 := hbw4.size
  clear hM
  by_cases e1 : s1.ended = 0
  · have e2 : (s1.ended != 0) = false := by simpa using e1
    have HC := hide (close_any (unhide HR4))
    have hlt4 := (unhide HR4).lt
    cases e3 : Mk.isDocument s1
    · have hr : Mk.close s1 = ({ s1 with ended := 9 }, 9) := by simp [Mk.close, e1, e3]
      rw [hr] at HC
      clear hr
      go_wp2_with fail
      refine (unhide HC).mono ?_
      rintro e w5 ⟨rfl, L5, hM5⟩
      have hbw5 : Below w.heap.size w w5 := hbw4.trans ⟨hM5.fr.os, hM5.fr.tape, hM5.fr.output, hM5.fr.size, fun k hk => hM5.fr.block k (by omega) (by omega) (fun hm => by have := ((unhide HR4).foot_lt _ hm).1; omega)⟩
      have HAf := hide (after_any hM5.rd (by simp) hol strs la lc ((unhide HS).below (Nat.le_refl _) hbw5) hl)
      have hs5 := hbw5.size
      clear hM5
      go_wp2_with fail
      refine (unhide HAf).mono ?_
      rintro e w6 ⟨rfl, hb6⟩
      go_wp2
      go_ret
      exact ⟨rfl, hbw5.trans (hb6.mono hs5)⟩
    · have hr : Mk.close s1 = ({ s1 with ended := 10 }, 0) := by simp [Mk.close, e1, e3]
      rw [hr] at HC
      clear hr
      go_wp2_with fail
      refine (unhide HC).mono ?_
      rintro e w5 ⟨rfl, L5, hM5⟩
      have hbw5 : Below w.heap.size w w5 := hbw4.trans ⟨hM5.fr.os, hM5.fr.tape, hM5.fr.output, hM5.fr.size, fun k hk => hM5.fr.block k (by omega) (by omega) (fun hm => by have := ((unhide HR4).foot_lt _ hm).1; omega)⟩
      have HAf := hide (after_any hM5.rd (by simp) hol strs la lc ((unhide HS).below (Nat.le_refl _) hbw5) hl)
      have hs5 := hbw5.size
      clear hM5
      go_wp2_with fail
      refine (unhide HAf).mono ?_
      rintro e w6 ⟨rfl, hb6⟩
      go_wp2
      go_ret
      exact ⟨rfl, hbw5.trans (hb6.mono hs5)⟩
  · have e2 : (s1.ended != 0) = true := by simpa using e1
    have HAf := hide (after_any (unhide HR4) e1 hol strs la lc ((unhide HS).below (Nat.le_refl _) hbw4) hl)
    go_wp2_with fail
    refine (unhide HAf).mono ?_
    rintro e w6 ⟨rfl, hb6⟩
    go_wp2
    go_ret
    exact ⟨rfl, hbw4.trans (hb6.mono hs4)⟩
end Go.Proofs.YtmgfijllcdadgabGreatDoor
