/-
  CONTRACTS of package reader: tags (3).
-/
import Derived.Test.YtkkakfocjbnomaaDoorTags2
import Derived.Test.YtkkakfocjbnomaaDoorInstr
namespace Go.Proofs.YtkkakfocjbnomaaDoor
set_option linter.unusedVariables false
set_option linter.unusedSimpArgs false
open Go.RowKit
open Mk (St Bs Ev Att)

theorem readStartName_any {w : World} {b : Nat} {s : St} {L : Lay} (h : RdL w b s L) (hB : Bd s) (x : Int) (h0 : 0 ≤ x) (h1 : x ≤ 255) (hl2 : s.list.length + 2 ≤ 100000000) :
    Calls Tryd.prog 89 #[.pointer (some ⟨b, 0, none⟩), .int .u8 x] w (Does w b s L (Mk.readStartName s x)) := by
  have hc := h.cell
  have hf := h.frozen
  have hlt := h.lt
  have HM := hide h
  have HN := hide (ln_any h hB x h0 h1)
  have HT := hide (takeToken_any h)
  have HB := hide hB
  unfold cellsOf at hc
  clear h hB
  cases ei : Mk.inName x
  · have hr : Mk.readStartName s x = Mk.readStartGap { Mk.dropToken s with name := s.token } x := by simp [Mk.readStartName, ei]
    rw [hr]
    clear hr HN hc hf
    go_enter Tryd.func89, Tryd.ntmps89
    go_wp2_with (go_at_call 84; refine (inName_any _ _).mono ?_; rintro e w1 ⟨rfl, rfl⟩)
    refine (unhide HT).mono ?_
    rintro e w1 ⟨rfl, L1, hm1⟩
    have hc1 := hm1.rd.cell
    have hf1 := hm1.rd.frozen
    have hlt1 := hm1.rd.lt
    have hm2 := hm1.store 9 (.string ⟨s.token.toArray⟩) { Mk.dropToken s with name := s.token } rfl rfl rfl
    have HG := hide (readStartGap_any hm2.rd { unhide HB with ht := by simp [Mk.dropToken], c0 := by simp [Mk.dropToken], c1 := by simp [Mk.dropToken] } hl2 x)
    have HM2 := hide hm2
    unfold cellsOf at hc1
    clear hm1 hm2 HB
    go_wp2_with (go_at_call 94; refine (unhide HG).mono ?_; rintro e w1 ⟨rfl, L1, hm1⟩; have HX := hide hm1; clear hm1)
    go_ret
    exact ⟨rfl, L1, (unhide HM2).call (unhide HX)⟩
  · have hr : Mk.readStartName s x = Mk.lengthenName s x := by simp [Mk.readStartName, ei]
    rw [hr]
    clear hr HT hc hf HB
    go_enter Tryd.func89, Tryd.ntmps89
    go_wp2_with (first | (go_at_call 84; refine (inName_any _ _).mono ?_; rintro e w1 ⟨rfl, rfl⟩) | (go_at_call 85; refine (unhide HN).mono ?_; rintro e w1 ⟨rfl, L1, hm1⟩; have HX := hide hm1; clear hm1))
    go_ret
    exact ⟨rfl, L1, unhide HX⟩

theorem readStartSpace_any {w : World} {b : Nat} {s : St} {L : Lay} (h : RdL w b s L) (hB : Bd s) (x : Int) (h0 : 0 ≤ x) (h1 : x ≤ 255) (hl2 : s.list.length + 2 ≤ 100000000) :
    Calls Tryd.prog 90 #[.pointer (some ⟨b, 0, none⟩), .int .u8 x] w (Does w b s L (Mk.readStartSpace s x)) := by
  have hc := h.cell
  have hf := h.frozen
  have hlt := h.lt
  have HM := hide h
  have HG := hide (readStartGap_any h hB hl2 x)
  have HP := hide (fun n => pt_any ((h.start.drewN n).store 4 (.int .i64 14) { s with state := 14 } rfl rfl rfl).rd { hB with } x h0 (by omega))
  have ha := hB.ha
  unfold cellsOf at hc
  clear h hB
  cases ei : Mk.beginsName x
  · have hr : Mk.readStartSpace s x = Mk.readStartGap s x := by simp [Mk.readStartSpace, ei]
    rw [hr]
    clear hr HP hc hf
    go_enter Tryd.func90, Tryd.ntmps90
    go_wp2_with (first | (go_at_call 82; refine (beginsName_any _ _).mono ?_; rintro e w1 ⟨rfl, rfl⟩) | (go_at_call 94; refine (unhide HG).mono ?_; rintro e w1 ⟨rfl, L1, hm1⟩; have HX := hide hm1; clear hm1))
    go_ret
    exact ⟨rfl, L1, unhide HX⟩
  · by_cases e1 : s.oa ≤ s.attrs.length
    · have hr : Mk.readStartSpace s x = (s, 7) := by simp [Mk.readStartSpace, ei, e1]
      rw [hr]
      clear hr HP HG
      go_enter Tryd.func90, Tryd.ntmps90
      go_wp2_with (go_at_call 82; refine (beginsName_any _ _).mono ?_; rintro e w1 ⟨rfl, rfl⟩)
      go_quiet (fail)
      go_wp2
      go_ret
      exact ⟨rfl, L, (unhide HM).start.drewN _⟩
    · have hr : Mk.readStartSpace s x = (Mk.put { s with state := 14 } x, 0) := by simp [Mk.readStartSpace, ei, e1]
      rw [hr]
      have e2 : decide (s.oa ≤ (s.attrs.length : Int)) = false := by simp; omega
      clear hr HG
      go_enter Tryd.func90, Tryd.ntmps90
      go_wp2_with (go_at_call 82; refine (beginsName_any _ _).mono ?_; rintro e w1 ⟨rfl, rfl⟩)
      go_quiet (fail)
      go_wp2_with (go_at_call 53; refine (unhide HP _).mono ?_; rintro e w1 ⟨rfl, L1, hm1⟩; have HX := hide hm1; clear hm1)
      go_ret
      exact ⟨rfl, L1, (((unhide HM).start.drewN _).store 4 (.int .i64 14) { s with state := 14 } rfl rfl rfl).call (unhide HX)⟩

theorem readSlash_any {w : World} {b : Nat} {s : St} {L : Lay} (h : RdL w b s L) (hB : Bd s) (x : Int) (h0 : 0 ≤ x) (h1 : x ≤ 255) (hl2 : s.list.length + 2 ≤ 100000000) :
    Calls Tryd.prog 95 #[.pointer (some ⟨b, 0, none⟩), .int .u8 x] w (Does w b s L (Mk.readSlash s x)) := by
  have hc := h.cell
  have hf := h.frozen
  have hlt := h.lt
  have HM := hide h
  have HT := hide (tellStart_any h hB)
  have hbd := tellStart_bd hB hl2
  unfold cellsOf at hc
  clear h hB
  cases e1 : (x == 62)
  · have e1' : (x != 62) = true := by simp at e1 ⊢; exact e1
    have hr : Mk.readSlash s x = (s, 3) := by simp only [Mk.readSlash, e1']; rfl
    rw [hr]
    clear hr HT hbd
    go_enter Tryd.func95, Tryd.ntmps95
    go_wp2
    go_ret
    exact ⟨rfl, L, (unhide HM).start⟩
  · have e1' : (x != 62) = false := by simp at e1 ⊢; exact e1
    have hr : Mk.readSlash s x = ({ Mk.tellEnd (Mk.tellStart s) s.name with name := [] }, 0) := by simp only [Mk.readSlash, e1']; rfl
    rw [hr]
    obtain ⟨hb1, ho1, hn1, -⟩ := hbd
    clear hr hc hf
    go_enter Tryd.func95, Tryd.ntmps95
    go_wp2_with fail
    refine (unhide HT).mono ?_
    rintro e w1 ⟨rfl, L1, hm1⟩
    have hc1 := hm1.rd.cell
    have hf1 := hm1.rd.frozen
    have hlt1 := hm1.rd.lt
    have HE := hide (tellEnd_any hm1.rd hb1 s.name)
    have HM1 := hide hm1
    unfold cellsOf at hc1
    clear hm1 hb1 ho1 HT HM
    go_wp2_with fail
    refine (unhide HE).mono ?_
    rintro e w2 ⟨rfl, L2, hm2⟩
    have hc2 := hm2.rd.cell
    have hf2 := hm2.rd.frozen
    have hlt2 := hm2.rd.lt
    have HM2 := hide hm2
    unfold cellsOf at hc2
    clear hm2 HE hc1 hf1
    go_wp2
    go_ret
    exact ⟨rfl, L2, ((unhide HM1).call (unhide HM2)).store 9 _ _ rfl rfl rfl⟩

theorem readAttrSpace_any {w : World} {b : Nat} {s : St} {L : Lay} (h : RdL w b s L) (hB : Bd s) (x : Int) (h0 : 0 ≤ x) (h1 : x ≤ 255) :
    Calls Tryd.prog 92 #[.pointer (some ⟨b, 0, none⟩), .int .u8 x] w (Does w b s L (Mk.readAttrSpace s x)) := by
  have hc := h.cell
  have hf := h.frozen
  have hlt := h.lt
  have HM := hide h
  unfold cellsOf at hc
  clear h hB
  cases es : Mk.isSpace x
  · cases e1 : (x == 61)
    · have hr : Mk.readAttrSpace s x = (s, 3) := by simp [Mk.readAttrSpace, es, e1]
      rw [hr]
      clear hr
      go_enter Tryd.func92, Tryd.ntmps92
      go_wp2_with (go_at_call 55; refine (isSpace_any _ _).mono ?_; rintro e w1 ⟨rfl, rfl⟩)
      go_ret
      exact ⟨rfl, L, (unhide HM).start⟩
    · have hr : Mk.readAttrSpace s x = ({ s with state := 16 }, 0) := by simp [Mk.readAttrSpace, es, e1]
      rw [hr]
      clear hr
      go_enter Tryd.func92, Tryd.ntmps92
      go_wp2_with (go_at_call 55; refine (isSpace_any _ _).mono ?_; rintro e w1 ⟨rfl, rfl⟩)
      go_ret
      exact ⟨rfl, L, (unhide HM).start.store 4 _ _ rfl rfl rfl⟩
  · have hr : Mk.readAttrSpace s x = ({ s with state := 15 }, 0) := by simp [Mk.readAttrSpace, es]
    rw [hr]
    clear hr
    go_enter Tryd.func92, Tryd.ntmps92
    go_wp2_with (go_at_call 55; refine (isSpace_any _ _).mono ?_; rintro e w1 ⟨rfl, rfl⟩)
    go_ret
    exact ⟨rfl, L, (unhide HM).start.store 4 _ _ rfl rfl rfl⟩

theorem readEquals_any {w : World} {b : Nat} {s : St} {L : Lay} (h : RdL w b s L) (hB : Bd s) (x : Int) (h0 : 0 ≤ x) (h1 : x ≤ 255) :
    Calls Tryd.prog 93 #[.pointer (some ⟨b, 0, none⟩), .int .u8 x] w (Does w b s L (Mk.readEquals s x)) := by
  have hc := h.cell
  have hf := h.frozen
  have hlt := h.lt
  have HM := hide h
  unfold cellsOf at hc
  clear h hB
  cases es : Mk.isSpace x
  · cases e1 : (x == 34)
    · cases e2 : (x == 39)
      · have hr : Mk.readEquals s x = (s, 3) := by simp [Mk.readEquals, es, e1, e2]
        rw [hr]
        clear hr
        go_enter Tryd.func93, Tryd.ntmps93
        go_wp2_with (go_at_call 55; refine (isSpace_any _ _).mono ?_; rintro e w1 ⟨rfl, rfl⟩)
        go_ret
        exact ⟨rfl, L, (unhide HM).start⟩
      · have hr : Mk.readEquals s x = ({ s with quote := x, state := 17 }, 0) := by simp [Mk.readEquals, es, e1, e2]
        rw [hr]
        clear hr
        go_enter Tryd.func93, Tryd.ntmps93
        go_wp2_with (go_at_call 55; refine (isSpace_any _ _).mono ?_; rintro e w1 ⟨rfl, rfl⟩)
        go_ret
        exact ⟨rfl, L, ((unhide HM).start.store 12 (.int .u8 x) { s with quote := x } rfl rfl rfl).store 4 _ _ rfl rfl rfl⟩
    · have hr : Mk.readEquals s x = ({ s with quote := x, state := 17 }, 0) := by simp [Mk.readEquals, es, e1]
      rw [hr]
      clear hr
      go_enter Tryd.func93, Tryd.ntmps93
      go_wp2_with (go_at_call 55; refine (isSpace_any _ _).mono ?_; rintro e w1 ⟨rfl, rfl⟩)
      go_ret
      exact ⟨rfl, L, ((unhide HM).start.store 12 (.int .u8 x) { s with quote := x } rfl rfl rfl).store 4 _ _ rfl rfl rfl⟩
  · have hr : Mk.readEquals s x = (s, 0) := by simp [Mk.readEquals, es]
    rw [hr]
    clear hr
    go_enter Tryd.func93, Tryd.ntmps93
    go_wp2_with (go_at_call 55; refine (isSpace_any _ _).mono ?_; rintro e w1 ⟨rfl, rfl⟩)
    go_ret
    exact ⟨rfl, L, (unhide HM).start⟩

theorem readValue_any {w : World} {b : Nat} {s : St} {L : Lay} (h : RdL w b s L) (hB : Bd s) (x : Int) (h0 : 0 ≤ x) (h1 : x ≤ 255) :
    Calls Tryd.prog 47 #[.pointer (some ⟨b, 0, none⟩), .int .u8 x] w (Does w b s L (Mk.readValue s x)) := by
  have hc := h.cell
  have hf := h.frozen
  have hlt := h.lt
  have HM := hide h
  have HE := hide (endValue_any h hB)
  have HC := hide (rc_any h hB x h0 h1)
  have HC2 := hide (rc_any h hB 32 (by decide) (by decide))
  have HF := hide (fits_any h 1 hB.c0 (Int.le_trans hB.c1 (by decide)) (by decide) (by decide))
  unfold cellsOf at hc
  clear h hB
  cases e1 : (x == s.quote)
  · cases e2 : (x == 60)
    · cases e3 : (x == 38)
      · cases e4 : (x == 9)
        · cases e5 : (x == 10)
          · have hr : Mk.readValue s x = Mk.readCharacter s x := by simp [Mk.readValue, e1, e2, e3, e4, e5]
            rw [hr]
            clear hr HE HC2 HF
            go_enter Tryd.func47, Tryd.ntmps47
            go_wp2_with (go_at_call 57; refine (unhide HC).mono ?_; rintro e w1 ⟨rfl, L1, hm1⟩; have HX := hide hm1; clear hm1)
            go_ret
            exact ⟨rfl, L1, unhide HX⟩
          · have hr : Mk.readValue s x = Mk.readCharacter s 32 := by simp [Mk.readValue, e1, e2, e3, e4, e5]
            rw [hr]
            clear hr HE HC HF
            go_enter Tryd.func47, Tryd.ntmps47
            go_wp2_with (go_at_call 57; refine (unhide HC2).mono ?_; rintro e w1 ⟨rfl, L1, hm1⟩; have HX := hide hm1; clear hm1)
            go_ret
            exact ⟨rfl, L1, unhide HX⟩
        · have hr : Mk.readValue s x = Mk.readCharacter s 32 := by simp [Mk.readValue, e1, e2, e3, e4]
          rw [hr]
          clear hr HE HC HF
          go_enter Tryd.func47, Tryd.ntmps47
          go_wp2_with (go_at_call 57; refine (unhide HC2).mono ?_; rintro e w1 ⟨rfl, L1, hm1⟩; have HX := hide hm1; clear hm1)
          go_ret
          exact ⟨rfl, L1, unhide HX⟩
      · cases e4 : Mk.fits s 1
        · have hr : Mk.readValue s x = (s, 7) := by simp [Mk.readValue, e1, e2, e3, e4]
          rw [hr]
          rw [e4] at HF
          clear hr HE HC HC2
          go_enter Tryd.func47, Tryd.ntmps47
          go_wp2_with (go_at_call 60; refine (unhide HF).mono ?_; rintro e w' ⟨rfl, n, rfl⟩)
          go_ret
          exact ⟨rfl, L, (unhide HM).start.drewN _⟩
        · have hr : Mk.readValue s x = (Mk.setRef s ⟨1, [], 0⟩, 0) := by simp [Mk.readValue, e1, e2, e3, e4]
          rw [hr]
          rw [e4] at HF
          clear hr HE HC HC2
          go_enter Tryd.func47, Tryd.ntmps47
          go_wp2_with (first
            | (go_at_call 60; refine (unhide HF).mono ?_; rintro e w' ⟨rfl, n, rfl⟩)
            | (go_at_call 56; refine (refBegin_any _).mono ?_; rintro e w1 ⟨rfl, hbel⟩; have hmb := ((unhide HM).start.drewN n).below hbel; have hcb := hmb.rd.cell; have hfb := hmb.rd.frozen; have hltb := hmb.rd.lt; have HMB := hide hmb; clear hmb; unfold cellsOf at hcb))
          go_ret
          exact ⟨rfl, L, (((unhide HMB).store 18 (.int .i64 1) { s with rp := 1 } rfl rfl rfl).store 19 (.string ⟨#[]⟩) { s with rp := 1, rn := [] } rfl rfl rfl).store 20 _ _ rfl rfl rfl⟩
    · have hr : Mk.readValue s x = (s, 3) := by simp [Mk.readValue, e1, e2]
      rw [hr]
      clear hr HE HC HC2 HF
      go_enter Tryd.func47, Tryd.ntmps47
      go_wp2
      go_ret
      exact ⟨rfl, L, (unhide HM).start⟩
  · have hr : Mk.readValue s x = (Mk.endValue s, 0) := by simp [Mk.readValue, e1]
    rw [hr]
    clear hr HC HC2 HF
    go_enter Tryd.func47, Tryd.ntmps47
    go_wp2_with (go_at_call 61; refine (unhide HE).mono ?_; rintro e w1 ⟨rfl, L1, hm1⟩; have HX := hide hm1; clear hm1)
    go_ret
    exact ⟨rfl, L1, unhide HX⟩
end Go.Proofs.YtkkakfocjbnomaaDoor
