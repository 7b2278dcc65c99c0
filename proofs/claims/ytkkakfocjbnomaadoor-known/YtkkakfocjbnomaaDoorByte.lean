/-
  CONTRACTS of package reader: one byte.
-/
import Derived.Test.YtkkakfocjbnomaaDoorDisp
import Derived.Test.YtkkakfocjbnomaaDoorInv
namespace Go.Proofs.YtkkakfocjbnomaaDoor
set_option linter.unusedVariables false
set_option linter.unusedSimpArgs false
open Go.RowKit
open Mk (St Bs Ev Att)

theorem readByte_any {w : World} {b : Nat} {s : St} {L : Lay} (h : RdL w b s L) (hB : Bd s) (x : Int) (h0 : 0 ≤ x) (h1 : x ≤ 255) (hl2 : s.list.length + 2 ≤ 100000000) (hil : (Mk.innermost s).length ≤ 100000000) (hG : Gl w) (hb2 : 1 < b) :
    Calls Tryd.prog 36 #[.pointer (some ⟨b, 0, none⟩), .int .u8 x] w (Does w b s L (Mk.readByte s x)) := by
  have hc := h.cell
  have hlt := h.lt
  unfold cellsOf at hc
  have hm := h.start.alloc (.cells #[.int .i64 s.rp, .string ⟨s.rn.toArray⟩, .int .i64 s.rc] 70)
  have hG2 : Gl (w.alloc (.cells #[.int .i64 s.rp, .string ⟨s.rn.toArray⟩, .int .i64 s.rc] 70)) := hG.below (by omega) ((Below.refl _ _).alloc (Nat.le_refl _) _)
  have HM := hide hm
  have HO := hide (fun w => isOpen_any s.rp s.rn s.rc w)
  by_cases pl : 0 < s.pl
  · have HX := hide (readPart_any h x h0 h1 hB.pt pl (Nat.le_trans hB.hx (by decide)) (Nat.le_trans hB.ht (by decide)) hB.c0 (Int.le_trans hB.c1 (by decide)))
    have hr : Mk.readByte s x = Mk.readPart s x := by simp [Mk.readByte, pl]
    rw [hr]
    clear hr h hB hm hG hG2 HO HM
    go_enter Tryd.func36, Tryd.ntmps36
    go_wp2_with (go_at_call 39; refine (unhide HX).mono ?_; rintro e w1 ⟨rfl, L1, hm1⟩; have HM1 := hide hm1; clear hm1)
    go_ret
    exact ⟨rfl, L1, unhide HM1⟩
  have epl : decide (0 < s.pl) = false := by simpa using pl
  by_cases eo1 : Mk.isOpen s.rp = true
  · have eo : Mk.isOpen s.rp = true := eo1
    clear eo1
    have HX := hide (readReference_any hm.rd x h0 h1 hG2 hb2 (Nat.le_trans hB.rn (by decide)) hB.r0 hB.r1 (Nat.le_trans hB.hx (by decide)) (Nat.le_trans hB.ht (by decide)) hB.c0 (Int.le_trans hB.c1 (by decide)) (fun r hr => ⟨(inv_refs h0 hB.r0 hr).1, (inv_refs h0 hB.r0 hr).2.1⟩))
    have hr : Mk.readByte s x = Mk.readReference s x := by simp [Mk.readByte, pl, eo]
    rw [hr]
    rw [eo] at HO
    clear hr h hB hm hG hG2 pl
    go_enter Tryd.func36, Tryd.ntmps36
    go_wp2_with (first | (go_at_call 40; refine (unhide HO _).mono ?_; rintro e w2 ⟨rfl, rfl⟩) | (go_at_call 41; refine (unhide HX).mono ?_; rintro e w1 ⟨rfl, L1, hm1⟩; have HM1 := hide hm1; clear hm1))
    go_ret
    exact ⟨rfl, L1, (unhide HM).call (unhide HM1)⟩
  have eo : Mk.isOpen s.rp = false := by simpa using eo1
  clear eo1
  rw [eo] at HO
  by_cases p : s.state = 0
  ·
    have HX := hide (readOutside_any hm.rd x)
    have hr : Mk.readByte s x = Mk.readOutside s x := by simp [Mk.readByte, pl, eo, p]
    rw [hr]
    clear hr h hB hm hG hG2 pl
    go_enter Tryd.func36, Tryd.ntmps36
    go_wp2_with (first | (go_at_call 40; refine (unhide HO _).mono ?_; rintro e w2 ⟨rfl, rfl⟩) | (go_at_call 42; refine (unhide HX).mono ?_; rintro e w1 ⟨rfl, L1, hm1⟩; have HM1 := hide hm1; clear hm1))
    go_ret
    exact ⟨rfl, L1, (unhide HM).call (unhide HM1)⟩
  have e0 : (s.state == 0) = false := by rw [beq_eq_false_iff_ne]; exact p
  clear p
  by_cases p : s.state = 1
  ·
    have HX := hide (readContent_any hm.rd hB x h0 h1)
    have hr : Mk.readByte s x = Mk.readContent s x := by simp [Mk.readByte, pl, eo, e0, p]
    rw [hr]
    clear hr h hB hm hG hG2 pl
    go_enter Tryd.func36, Tryd.ntmps36
    go_wp2_with (first | (go_at_call 40; refine (unhide HO _).mono ?_; rintro e w2 ⟨rfl, rfl⟩) | (go_at_call 43; refine (unhide HX).mono ?_; rintro e w1 ⟨rfl, L1, hm1⟩; have HM1 := hide hm1; clear hm1))
    go_ret
    exact ⟨rfl, L1, (unhide HM).call (unhide HM1)⟩
  have e1 : (s.state == 1) = false := by rw [beq_eq_false_iff_ne]; exact p
  clear p
  by_cases p : s.state = 2
  ·
    have HX := hide (readSection_any hm.rd hB x h0 h1)
    have hr : Mk.readByte s x = Mk.readSection s x := by simp [Mk.readByte, pl, eo, e0, e1, p]
    rw [hr]
    clear hr h hB hm hG hG2 pl
    go_enter Tryd.func36, Tryd.ntmps36
    go_wp2_with (first | (go_at_call 40; refine (unhide HO _).mono ?_; rintro e w2 ⟨rfl, rfl⟩) | (go_at_call 44; refine (unhide HX).mono ?_; rintro e w1 ⟨rfl, L1, hm1⟩; have HM1 := hide hm1; clear hm1))
    go_ret
    exact ⟨rfl, L1, (unhide HM).call (unhide HM1)⟩
  have e2 : (s.state == 2) = false := by rw [beq_eq_false_iff_ne]; exact p
  clear p
  by_cases p : s.state = 7
  ·
    have HX := hide (readComment_any hm.rd hB x h0 h1)
    have hr : Mk.readByte s x = Mk.readComment s x := by simp [Mk.readByte, pl, eo, e0, e1, e2, p]
    rw [hr]
    clear hr h hB hm hG hG2 pl
    go_enter Tryd.func36, Tryd.ntmps36
    go_wp2_with (first | (go_at_call 40; refine (unhide HO _).mono ?_; rintro e w2 ⟨rfl, rfl⟩) | (go_at_call 45; refine (unhide HX).mono ?_; rintro e w1 ⟨rfl, L1, hm1⟩; have HM1 := hide hm1; clear hm1))
    go_ret
    exact ⟨rfl, L1, (unhide HM).call (unhide HM1)⟩
  have e7 : (s.state == 7) = false := by rw [beq_eq_false_iff_ne]; exact p
  clear p
  by_cases p : s.state = 11
  ·
    have HX := hide (readInstruction_any hm.rd hB x h0 h1)
    have hr : Mk.readByte s x = Mk.readInstruction s x := by simp [Mk.readByte, pl, eo, e0, e1, e2, e7, p]
    rw [hr]
    clear hr h hB hm hG hG2 pl
    go_enter Tryd.func36, Tryd.ntmps36
    go_wp2_with (first | (go_at_call 40; refine (unhide HO _).mono ?_; rintro e w2 ⟨rfl, rfl⟩) | (go_at_call 46; refine (unhide HX).mono ?_; rintro e w1 ⟨rfl, L1, hm1⟩; have HM1 := hide hm1; clear hm1))
    go_ret
    exact ⟨rfl, L1, (unhide HM).call (unhide HM1)⟩
  have e11 : (s.state == 11) = false := by rw [beq_eq_false_iff_ne]; exact p
  clear p
  by_cases p : s.state = 17
  ·
    have HX := hide (readValue_any hm.rd hB x h0 h1)
    have hr : Mk.readByte s x = Mk.readValue s x := by simp [Mk.readByte, pl, eo, e0, e1, e2, e7, e11, p]
    rw [hr]
    clear hr h hB hm hG hG2 pl
    go_enter Tryd.func36, Tryd.ntmps36
    go_wp2_with (first | (go_at_call 40; refine (unhide HO _).mono ?_; rintro e w2 ⟨rfl, rfl⟩) | (go_at_call 47; refine (unhide HX).mono ?_; rintro e w1 ⟨rfl, L1, hm1⟩; have HM1 := hide hm1; clear hm1))
    go_ret
    exact ⟨rfl, L1, (unhide HM).call (unhide HM1)⟩
  have e17 : (s.state == 17) = false := by rw [beq_eq_false_iff_ne]; exact p
  clear p
  have HX := hide (readMark_any hm.rd hB x h0 h1 hl2 hil)
  have hr : Mk.readByte s x = Mk.readMark s x := by simp [Mk.readByte, pl, eo, e0, e1, e2, e7, e11, e17]
  rw [hr]
  clear hr h hB hm hG hG2 pl
  go_enter Tryd.func36, Tryd.ntmps36
  go_wp2_with (first | (go_at_call 40; refine (unhide HO _).mono ?_; rintro e w2 ⟨rfl, rfl⟩) | (go_at_call 48; refine (unhide HX).mono ?_; rintro e w1 ⟨rfl, L1, hm1⟩; have HM1 := hide hm1; clear hm1))
  go_ret
  exact ⟨rfl, L1, (unhide HM).call (unhide HM1)⟩


theorem movePlace_any {w : World} {b : Nat} {s : St} {L : Lay} (h : RdL w b s L) (x : Int) (l0 : 0 ≤ s.line) (l1 : s.line ≤ 1000000000) (c0 : 0 ≤ s.column) (c1 : s.column ≤ 1000000000) :
    Calls Tryd.prog 37 #[.pointer (some ⟨b, 0, none⟩), .int .u8 x] w fun e w' => e = .returned (.tuple #[]) ∧ Mv w b (foot s L) w' (Mk.movePlace s x) L := by
  have hc := h.cell
  have hf := h.frozen
  have hlt := h.lt
  have HM := hide h
  unfold cellsOf at hc
  clear h
  cases e1 : (x == 10)
  · cases e2 : (s.pl == 0)
    · have hr : Mk.movePlace s x = s := by simp [Mk.movePlace, e1, e2]
      rw [hr]
      clear hr
      go_enter Tryd.func37, Tryd.ntmps37
      go_wp2
      go_end0
      exact ⟨rfl, (unhide HM).start⟩
    · have hr : Mk.movePlace s x = { s with column := s.column + 1 } := by simp [Mk.movePlace, e1, e2]
      rw [hr]
      clear hr
      go_enter Tryd.func37, Tryd.ntmps37
      go_wp2
      go_end0
      exact ⟨rfl, (unhide HM).start.store 23 _ _ rfl rfl rfl⟩
  · have hr : Mk.movePlace s x = { s with line := s.line + 1, column := 1 } := by simp [Mk.movePlace, e1]
    rw [hr]
    clear hr
    go_enter Tryd.func37, Tryd.ntmps37
    go_wp2
    go_end0
    exact ⟨rfl, ((unhide HM).start.store 22 _ { s with line := s.line + 1 } rfl rfl rfl).store 23 _ _ rfl rfl rfl⟩

theorem read_any {w : World} {b k : Nat} {s : St} {L : Lay} (h : RdL w b s L) (hI : Inv k s) (hk : k ≤ 80000000) (x : Int) (h0 : 0 ≤ x) (h1 : x ≤ 255) (hG : Gl w) (hb2 : 1 < b) :
    Calls Tryd.prog 29 #[.pointer (some ⟨b, 0, none⟩), .int .u8 x] w (Does w b s L (Mk.read s x)) := by
  have hc := h.cell
  have hf := h.frozen
  have hlt := h.lt
  have hfl := h.foot_lt
  have hmt := h.start.store 21 (.bool true) { s with ret := true } rfl rfl rfl
  have hmf := h.start.store 21 (.bool false) { s with ret := false } rfl rfl rfl
  have hGt := hmt.gl hG hb2 (by omega) (fun k hk => (hfl k hk).1)
  have hGf := hmf.gl hG hb2 (by omega) (fun k hk => (hfl k hk).1)
  have hl := hI.hl
  have hin := innermost_len hI
  have HT := hide (readByte_any hmt.rd (Inv.bd (s := { s with ret := true }) (k := k) { hI with } (by omega)) 10 (by decide) (by decide) (by show s.list.length + 2 ≤ _; omega) (by show (Mk.innermost s).length ≤ _; omega) hGt hb2)
  have HF := hide (readByte_any hmf.rd (Inv.bd (s := { s with ret := false }) (k := k) { hI with } (by omega)) x h0 h1 (by show s.list.length + 2 ≤ _; omega) (by show (Mk.innermost s).length ≤ _; omega) hGf hb2)
  have it := inv_readByte (k := k) (s := { s with ret := true }) { hI with } 10 (by decide) (by decide)
  have if_ := inv_readByte (k := k) (s := { s with ret := false }) { hI with } x h0 h1
  have HPT := hide (fun (W : World) (L' : Lay) (hW : RdL W b (Mk.readByte { s with ret := true } 10).1 L') => movePlace_any hW 10 it.l0 (by have := it.l1; omega) it.cl0 (by have := it.cl1; omega))
  have HPF := hide (fun (W : World) (L' : Lay) (hW : RdL W b (Mk.readByte { s with ret := false } x).1 L') => movePlace_any hW x if_.l0 (by have := if_.l1; omega) if_.cl0 (by have := if_.cl1; omega))
  have HMT := hide hmt
  have HMF := hide hmf
  have hRT : Mk.readOn { s with ret := true } 10 = if (Mk.readByte { s with ret := true } 10).2 = 0 then (Mk.movePlace (Mk.readByte { s with ret := true } 10).1 10, 0) else Mk.readByte { s with ret := true } 10 := rfl
  have hRF : Mk.readOn { s with ret := false } x = if (Mk.readByte { s with ret := false } x).2 = 0 then (Mk.movePlace (Mk.readByte { s with ret := false } x).1 x, 0) else Mk.readByte { s with ret := false } x := rfl
  unfold cellsOf at hc
  clear h hI hG hmt hmf hGt hGf hfl hl hin it if_
  generalize Mk.readByte { s with ret := true } 10 = rt at *
  generalize Mk.readByte { s with ret := false } x = rf at *
  obtain ⟨rt1, rt2⟩ := rt
  obtain ⟨rf1, rf2⟩ := rf
  cases e1 : (x == 10)
  · have n1 : x ≠ 10 := by simpa using e1
    cases e2 : (x == 13)
    · have n2 : x ≠ 13 := by simpa using e2
      have hr : Mk.read s x = Mk.readOn { s with ret := false } x := by simp [Mk.read, n1, n2]
      rw [hr, hRF]
      clear hr n1 n2 HT HPT hRT hRF
      cases e3 : (rf2 == 0)
      · have n3 : rf2 ≠ 0 := by simpa using e3
        rw [if_neg n3]
        clear n3
        go_enter Tryd.func29, Tryd.ntmps29
        go_wp2_with (go_at_call 36; refine (unhide HF).mono ?_; rintro e w1 ⟨rfl, L1, hm1⟩; have HM1 := hide hm1; clear hm1)
        go_ret
        exact ⟨rfl, L1, (unhide HMF).call (unhide HM1)⟩
      · have n3 : rf2 = 0 := by simpa using e3
        rw [if_pos n3]
        subst n3
        go_enter Tryd.func29, Tryd.ntmps29
        go_wp2_with (first
          | (go_at_call 36; refine (unhide HF).mono ?_; rintro e w1 ⟨rfl, L1, hm1⟩; have HM1 := hide hm1; clear hm1)
          | (go_at_call 37; refine (unhide HPF _ _ (unhide HM1).rd).mono ?_; rintro e w2 ⟨rfl, hm2⟩; have HM2 := hide hm2; clear hm2))
        go_ret
        exact ⟨rfl, L1, ((unhide HMF).call (unhide HM1)).call (unhide HM2)⟩
    · have n2 : x = 13 := by simpa using e2
      have hr : Mk.read s x = Mk.readOn { s with ret := true } 10 := by simp [Mk.read, n2]
      rw [hr, hRT]
      clear hr n1 n2 HF HPF hRT hRF
      cases e3 : (rt2 == 0)
      · have n3 : rt2 ≠ 0 := by simpa using e3
        rw [if_neg n3]
        clear n3
        go_enter Tryd.func29, Tryd.ntmps29
        go_wp2_with (go_at_call 36; refine (unhide HT).mono ?_; rintro e w1 ⟨rfl, L1, hm1⟩; have HM1 := hide hm1; clear hm1)
        go_ret
        exact ⟨rfl, L1, (unhide HMT).call (unhide HM1)⟩
      · have n3 : rt2 = 0 := by simpa using e3
        rw [if_pos n3]
        subst n3
        go_enter Tryd.func29, Tryd.ntmps29
        go_wp2_with (first
          | (go_at_call 36; refine (unhide HT).mono ?_; rintro e w1 ⟨rfl, L1, hm1⟩; have HM1 := hide hm1; clear hm1)
          | (go_at_call 37; refine (unhide HPT _ _ (unhide HM1).rd).mono ?_; rintro e w2 ⟨rfl, hm2⟩; have HM2 := hide hm2; clear hm2))
        go_ret
        exact ⟨rfl, L1, ((unhide HMT).call (unhide HM1)).call (unhide HM2)⟩
  · have n1 : x = 10 := by simpa using e1
    have e2 : (x == 13) = false := by simp [n1]
    cases e4 : s.ret
    · have hr : Mk.read s x = Mk.readOn { s with ret := false } x := by simp [Mk.read, n1, e4]
      rw [hr, hRF]
      clear hr n1 HT HPT hRT hRF
      cases e3 : (rf2 == 0)
      · have n3 : rf2 ≠ 0 := by simpa using e3
        rw [if_neg n3]
        clear n3
        go_enter Tryd.func29, Tryd.ntmps29
        go_wp2_with (go_at_call 36; refine (unhide HF).mono ?_; rintro e w1 ⟨rfl, L1, hm1⟩; have HM1 := hide hm1; clear hm1)
        go_ret
        exact ⟨rfl, L1, (unhide HMF).call (unhide HM1)⟩
      · have n3 : rf2 = 0 := by simpa using e3
        rw [if_pos n3]
        subst n3
        go_enter Tryd.func29, Tryd.ntmps29
        go_wp2_with (first
          | (go_at_call 36; refine (unhide HF).mono ?_; rintro e w1 ⟨rfl, L1, hm1⟩; have HM1 := hide hm1; clear hm1)
          | (go_at_call 37; refine (unhide HPF _ _ (unhide HM1).rd).mono ?_; rintro e w2 ⟨rfl, hm2⟩; have HM2 := hide hm2; clear hm2))
        go_ret
        exact ⟨rfl, L1, ((unhide HMF).call (unhide HM1)).call (unhide HM2)⟩
    · have hr : Mk.read s x = ({ s with ret := false }, 0) := by simp [Mk.read, n1, e4]
      rw [hr]
      clear hr n1 HT HF HPT HPF hRT hRF
      go_enter Tryd.func29, Tryd.ntmps29
      go_wp2
      go_ret
      exact ⟨rfl, L, unhide HMF⟩
end Go.Proofs.YtkkakfocjbnomaaDoor
