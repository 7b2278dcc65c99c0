/-
  CONTRACTS of package reader: content.
-/
import Derived.Test.YtkkakfocjbnomaaDoorAsides
namespace Go.Proofs.YtkkakfocjbnomaaDoor
set_option linter.unusedVariables false
set_option linter.unusedSimpArgs false
open Go.RowKit
open Mk (St Bs Ev Att)

theorem readOutside_any {w : World} {b : Nat} {s : St} {L : Lay} (h : RdL w b s L) (x : Int) :
    Calls Tryd.prog 42 #[.pointer (some ⟨b, 0, none⟩), .int .u8 x] w (Does w b s L (Mk.readOutside s x)) := by
  have hc := h.cell
  have hf := h.frozen
  have hlt := h.lt
  have HM := hide h
  unfold cellsOf at hc
  clear h
  cases es : Mk.isSpace x
  · cases e1 : (x == 60)
    · have hr : Mk.readOutside s x = (s, 3) := by simp [Mk.readOutside, es, e1]
      rw [hr]
      go_enter Tryd.func42, Tryd.ntmps42
      go_wp2_with (go_at_call 55; refine (isSpace_any _ _).mono ?_; rintro e w1 ⟨rfl, rfl⟩)
      go_ret
      exact ⟨rfl, L, (unhide HM).start⟩
    · have hr : Mk.readOutside s x = ({ s with state := 3 }, 0) := by simp [Mk.readOutside, es, e1]
      rw [hr]
      go_enter Tryd.func42, Tryd.ntmps42
      go_wp2_with (go_at_call 55; refine (isSpace_any _ _).mono ?_; rintro e w1 ⟨rfl, rfl⟩)
      go_ret
      exact ⟨rfl, L, (unhide HM).start.store 4 _ _ rfl rfl rfl⟩
  · have hr : Mk.readOutside s x = (s, 0) := by simp [Mk.readOutside, es]
    rw [hr]
    go_enter Tryd.func42, Tryd.ntmps42
    go_wp2_with (go_at_call 55; refine (isSpace_any _ _).mono ?_; rintro e w1 ⟨rfl, rfl⟩)
    go_ret
    exact ⟨rfl, L, (unhide HM).start⟩

theorem readContent_any {w : World} {b : Nat} {s : St} {L : Lay} (h : RdL w b s L) (hB : Bd s) (x : Int) (h0 : 0 ≤ x) (h1 : x ≤ 255) :
    Calls Tryd.prog 43 #[.pointer (some ⟨b, 0, none⟩), .int .u8 x] w (Does w b s L (Mk.readContent s x)) := by
  have hc := h.cell
  have hf := h.frozen
  have hlt := h.lt
  have hm := h.start.store 14 (.int .i64 0) { s with brackets := 0 } rfl rfl rfl
  have hm1 := (hm.store 14 (.int .i64 2) { s with brackets := 2 } rfl rfl rfl)
  have hm2 := (hm1.store 14 (.int .i64 1) { s with brackets := 1 } rfl rfl rfl)
  have HM := hide hm
  have HM1 := hide hm1
  have HM2 := hide hm2
  have HC := hide (rc_any hm.rd { hB with } x h0 h1)
  have HC1 := hide (rc_any hm1.rd { hB with } x h0 h1)
  have HC2 := hide (rc_any hm2.rd { hB with } x h0 h1)
  unfold cellsOf at hc
  clear h hm hm1 hm2 hB
  cases e1 : (x == 60)
  · cases e2 : (x == 38)
    · cases e3 : (x == 62)
      · cases e4 : (x == 93)
        · have hr : Mk.readContent s x = Mk.readCharacter { s with brackets := 0 } x := by simp only [Mk.readContent, e1, e2, e3, e4]; rfl
          rw [hr]
          clear hr HC1 HC2
          go_enter Tryd.func43, Tryd.ntmps43
          go_wp2_with (go_at_call 57; refine (unhide HC).mono ?_; rintro e w1 ⟨rfl, L1, hm1⟩; have HX := hide hm1; clear hm1)
          go_ret
          exact ⟨rfl, L1, (unhide HM).call (unhide HX)⟩
        · cases e5 : (s.brackets == 0)
          · have hr : Mk.readContent s x = Mk.readCharacter { s with brackets := 2 } x := by simp only [Mk.readContent, e1, e2, e3, e4, e5]; rfl
            rw [hr]
            clear hr HC HC2
            go_enter Tryd.func43, Tryd.ntmps43
            go_wp2_with (go_at_call 57; refine (unhide HC1).mono ?_; rintro e w1 ⟨rfl, L1, hm1⟩; have HX := hide hm1; clear hm1)
            go_ret
            exact ⟨rfl, L1, (unhide HM1).call (unhide HX)⟩
          · have hr : Mk.readContent s x = Mk.readCharacter { s with brackets := 1 } x := by simp only [Mk.readContent, e1, e2, e3, e4, e5]; rfl
            rw [hr]
            clear hr HC HC1
            go_enter Tryd.func43, Tryd.ntmps43
            go_wp2_with (go_at_call 57; refine (unhide HC2).mono ?_; rintro e w1 ⟨rfl, L1, hm1⟩; have HX := hide hm1; clear hm1)
            go_ret
            exact ⟨rfl, L1, (unhide HM2).call (unhide HX)⟩
      · cases e5 : (s.brackets == 2)
        · have hr : Mk.readContent s x = Mk.readCharacter { s with brackets := 0 } x := by simp only [Mk.readContent, e1, e2, e3, e5]; rfl
          rw [hr]
          clear hr HC1 HC2
          go_enter Tryd.func43, Tryd.ntmps43
          go_wp2_with (go_at_call 57; refine (unhide HC).mono ?_; rintro e w1 ⟨rfl, L1, hm1⟩; have HX := hide hm1; clear hm1)
          go_ret
          exact ⟨rfl, L1, (unhide HM).call (unhide HX)⟩
        · have hr : Mk.readContent s x = ({ s with brackets := 0 }, 3) := by simp only [Mk.readContent, e1, e2, e3, e5]; rfl
          rw [hr]
          clear hr HC HC1 HC2
          go_enter Tryd.func43, Tryd.ntmps43
          go_wp2
          go_ret
          exact ⟨rfl, L, unhide HM⟩
    · have hr : Mk.readContent s x = (Mk.setRef { s with brackets := 0 } ⟨1, [], 0⟩, 0) := by simp only [Mk.readContent, e1, e2]; rfl
      rw [hr]
      clear hr HC HC1 HC2 HM1 HM2
      go_enter Tryd.func43, Tryd.ntmps43
      go_wp2_with (go_at_call 56; refine (refBegin_any _).mono ?_; rintro e w1 ⟨rfl, hbel⟩; have hmb := (unhide HM).below hbel; have hcb := hmb.rd.cell; have hfb := hmb.rd.frozen; have hltb := hmb.rd.lt; have HMB := hide hmb; clear hmb; unfold cellsOf at hcb)
      go_ret
      exact ⟨rfl, L, (((unhide HMB).store 18 (.int .i64 1) { s with brackets := 0, rp := 1 } rfl rfl rfl).store 19 (.string ⟨#[]⟩) { s with brackets := 0, rp := 1, rn := [] } rfl rfl rfl).store 20 _ _ rfl rfl rfl⟩
  · have hr : Mk.readContent s x = ({ s with brackets := 0, state := 3 }, 0) := by simp only [Mk.readContent, e1]; rfl
    rw [hr]
    clear hr HC HC1 HC2
    go_enter Tryd.func43, Tryd.ntmps43
    go_wp2
    go_ret
    exact ⟨rfl, L, (unhide HM).store 4 _ _ rfl rfl rfl⟩

theorem pt_any {w : World} {b : Nat} {s : St} {L : Lay} (h : RdL w b s L) (hB : Bd s) (c : Int) (h0 : 0 ≤ c) (h1 : c ≤ 1114111) :
    Calls Tryd.prog 53 #[.pointer (some ⟨b, 0, none⟩), .int .i64 c] w fun e w' => e = .returned (.tuple #[]) ∧ ∃ L', Mv w b (foot s L) w' (Mk.put s c) L' :=
  put_any h c h0 h1 (Nat.le_trans hB.hx (by decide)) (Nat.le_trans hB.ht (by decide)) hB.c0 (Int.le_trans hB.c1 (by decide))

theorem readSection_any {w : World} {b : Nat} {s : St} {L : Lay} (h : RdL w b s L) (hB : Bd s) (x : Int) (h0 : 0 ≤ x) (h1 : x ≤ 255) :
    Calls Tryd.prog 44 #[.pointer (some ⟨b, 0, none⟩), .int .u8 x] w (Does w b s L (Mk.readSection s x)) := by
  have hc := h.cell
  have hf := h.frozen
  have hlt := h.lt
  have hh := hB.hh
  have HM := hide h
  have HC := hide (rc_any h hB x h0 h1)
  have HP := hide (pt_any h hB 93 (by decide) (by decide))
  have happ := app_list s.held 93
  unfold cellsOf at hc
  clear h hB
  cases e1 : (x == 62)
  · have n1 : x ≠ 62 := by simpa using e1
    cases e2 : (x == 93)
    · have n2 : x ≠ 93 := by simpa using e2
      have hr : Mk.readSection s x = Mk.readCharacter s x := by simp [Mk.readSection, n1, n2]
      rw [hr]
      clear hr n1 n2 HP happ
      go_enter Tryd.func44, Tryd.ntmps44
      go_wp2_with (go_at_call 57; refine (unhide HC).mono ?_; rintro e w1 ⟨rfl, L1, hm1⟩; have HX := hide hm1; clear hm1)
      go_ret
      exact ⟨rfl, L1, unhide HX⟩
    · have n2 : x = 93 := by simpa using e2
      cases e3 : (s.held == [93, 93])
      · have n3 : s.held ≠ [93, 93] := by simpa using e3
        have hr : Mk.readSection s x = ({ s with held := s.held ++ [93] }, 0) := by simp [Mk.readSection, n2, n3]
        rw [hr]
        clear hr n1 n2 n3 HP HC
        go_enter Tryd.func44, Tryd.ntmps44
        go_wp2
        go_ret
        exact ⟨rfl, L, (unhide HM).start.store 13 _ _ rfl rfl rfl⟩
      · have n3 : s.held = [93, 93] := by simpa using e3
        have hr : Mk.readSection s x = (Mk.put s 93, 0) := by simp [Mk.readSection, n2, n3]
        rw [hr]
        clear hr n1 n2 n3 HC happ
        go_enter Tryd.func44, Tryd.ntmps44
        go_wp2_with (go_at_call 53; refine (unhide HP).mono ?_; rintro e w1 ⟨rfl, L1, hm1⟩; have HX := hide hm1; clear hm1)
        go_ret
        exact ⟨rfl, L1, unhide HX⟩
  · have n1 : x = 62 := by simpa using e1
    have e2 : (x == 93) = false := by simp [n1]
    cases e3 : (s.held == [93, 93])
    · have n3 : s.held ≠ [93, 93] := by simpa using e3
      have hr : Mk.readSection s x = Mk.readCharacter s x := by simp [Mk.readSection, n1, n3]
      rw [hr]
      clear hr n1 n3 HP happ
      go_enter Tryd.func44, Tryd.ntmps44
      go_wp2_with (go_at_call 57; refine (unhide HC).mono ?_; rintro e w1 ⟨rfl, L1, hm1⟩; have HX := hide hm1; clear hm1)
      go_ret
      exact ⟨rfl, L1, unhide HX⟩
    · have n3 : s.held = [93, 93] := by simpa using e3
      have hr : Mk.readSection s x = ({ s with held := [], state := 1 }, 0) := by simp [Mk.readSection, n1, n3]
      rw [hr]
      clear hr n1 n3 HP HC happ
      go_enter Tryd.func44, Tryd.ntmps44
      go_wp2
      go_ret
      exact ⟨rfl, L, ((unhide HM).start.store 13 (.string ⟨#[]⟩) { s with held := [] } rfl rfl rfl).store 4 _ _ rfl rfl rfl⟩

theorem beginStart_any {w : World} {b : Nat} {s : St} {L : Lay} (h : RdL w b s L) (hB : Bd s) (x : Int) (h0 : 0 ≤ x) (h1 : x ≤ 255) :
    Calls Tryd.prog 83 #[.pointer (some ⟨b, 0, none⟩), .int .u8 x] w (Does w b s L (Mk.beginStart s x)) := by
  have hc := h.cell
  have hf := h.frozen
  have hlt := h.lt
  have ho := hB.ho
  have HM := hide h
  have HP := hide (fun n => pt_any ((h.start.drewN n).store 4 (.int .i64 12) { s with state := 12 } rfl rfl rfl).rd { hB with } x h0 (by omega))
  unfold cellsOf at hc
  clear h hB
  by_cases e1 : s.od ≤ s.opn.length
  · have hr : Mk.beginStart s x = (s, 7) := by simp [Mk.beginStart, e1]
    rw [hr]
    clear hr HP
    go_enter Tryd.func83, Tryd.ntmps83
    go_wp2
    go_quiet (fail)
    go_wp2
    go_ret
    exact ⟨rfl, L, (unhide HM).start.drewN _⟩
  · have hr : Mk.beginStart s x = (Mk.put { s with state := 12 } x, 0) := by simp [Mk.beginStart, e1]
    rw [hr]
    have e2 : decide (s.od ≤ (s.opn.length : Int)) = false := by simp; omega
    clear hr
    go_enter Tryd.func83, Tryd.ntmps83
    go_wp2
    go_quiet (fail)
    go_wp2_with (go_at_call 53; refine (unhide HP _).mono ?_; rintro e w1 ⟨rfl, L1, hm1⟩; have HX := hide hm1; clear hm1)
    go_ret
    exact ⟨rfl, L1, (((unhide HM).start.drewN _).store 4 (.int .i64 12) { s with state := 12 } rfl rfl rfl).call (unhide HX)⟩
end Go.Proofs.YtkkakfocjbnomaaDoor
