/-
  CONTRACTS of package reader: tags (4).
-/
import Derived.Test.YtkkakfocjbnomaaDoorTags3
namespace Go.Proofs.YtkkakfocjbnomaaDoor
set_option linter.unusedVariables false
set_option linter.unusedSimpArgs false
open Go.RowKit
open Mk (St Bs Ev Att)

theorem put_keep (s : St) (c : Int) : (Mk.put s c).am = s.am ∧ (Mk.put s c).attrs = s.attrs := by unfold Mk.put; split <;> exact ⟨rfl, rfl⟩

theorem lengthenAttrName_any {w : World} {b : Nat} {s : St} {L : Lay} (h : RdL w b s L) (hB : Bd s) (x : Int) (h0 : 0 ≤ x) (h1 : x ≤ 255) :
    Calls Tryd.prog 103 #[.pointer (some ⟨b, 0, none⟩), .int .u8 x] w (Does w b s L (Mk.lengthenAttrName s x)) := by
  have hc := h.cell
  have hf := h.frozen
  have hlt := h.lt
  have HM := hide h
  have HN := hide (ln_any h hB x h0 h1)
  have HB := hide hB
  unfold cellsOf at hc
  clear h hB
  cases ef : Mk.fits s 1
  · have hr : Mk.lengthenAttrName s x = (s, 7) := by simp [Mk.lengthenAttrName, ef]
    have hn : Mk.lengthenName s x = (s, 7) := by simp [Mk.lengthenName, ef]
    rw [hr]
    rw [hn] at HN
    clear hr hn hc hf
    go_enter Tryd.func103, Tryd.ntmps103
    go_wp2_with (go_at_call 85; refine (unhide HN).mono ?_; rintro e w1 ⟨rfl, L1, hm1⟩; have HX := hide hm1; clear hm1)
    go_ret
    exact ⟨rfl, L1, unhide HX⟩
  · have hn : Mk.lengthenName s x = (Mk.put s x, 0) := by simp [Mk.lengthenName, ef]
    rw [hn] at HN
    have hl := put_len s x
    have hk := put_keep s x
    have hb := unhide HB
    have c0 : 0 ≤ (Mk.put s x).count := by have := hb.c0; omega
    have c1 : (Mk.put s x).count ≤ 1000000000000 := by have := hb.c1; omega
    have am : (Mk.put s x).am = false := by rw [hk.1]; exact hb.am
    have ha : (Mk.put s x).attrs.length ≤ 100000000 := by rw [hk.2]; exact hb.ha
    have hrr : Mk.lengthenAttrName s x = (if (!Mk.fits (Mk.put s x) 1 && Mk.hasAttr (Mk.put s x) (Mk.put s x).token) then (Mk.put s x, 7) else (Mk.put s x, 0)) := by simp [Mk.lengthenAttrName, ef]
    rw [hrr]
    clear hn hl hk hb HB hrr ef
    generalize Mk.put s x = s1 at *
    cases e1 : Mk.fits s1 1
    · cases e2 : Mk.hasAttr s1 s1.token
      · rw [if_neg (by simp)]
        clear hc hf
        go_enter Tryd.func103, Tryd.ntmps103
        go_wp2_with fail
        refine (unhide HN).mono ?_
        rintro e w1 ⟨rfl, L1, hm1⟩
        have hc1 := hm1.rd.cell
        have hlt1 := hm1.rd.lt
        have HF := hide (fits_any hm1.rd 1 c0 c1 (by decide) (by decide))
        rw [e1] at HF
        have HH := hide (fun n => hasAttr_any (hm1.rd.drewN n) am ha s1.token)
        rw [e2] at HH
        have hcv := fun n => conv_row (w := w1.drewN n) ((hm1.rd.drewN n).rows.own (tokRow s1 L1) (by simp [rowsOf]))
        have HM1 := hide hm1
        unfold cellsOf at hc1
        clear hm1 am ha c0 c1
        go_wp2_with (first
          | (go_at_call 60; refine (unhide HF).mono ?_; rintro e w' ⟨rfl, n, rfl⟩)
          | (go_at_call 104; refine (unhide HH n).mono ?_; rintro e w' ⟨rfl, rfl⟩))
        go_ret
        exact ⟨rfl, L1, (unhide HM1).drewN _⟩
      · rw [if_pos (by simp)]
        clear hc hf
        go_enter Tryd.func103, Tryd.ntmps103
        go_wp2_with fail
        refine (unhide HN).mono ?_
        rintro e w1 ⟨rfl, L1, hm1⟩
        have hc1 := hm1.rd.cell
        have hlt1 := hm1.rd.lt
        have HF := hide (fits_any hm1.rd 1 c0 c1 (by decide) (by decide))
        rw [e1] at HF
        have HH := hide (fun n => hasAttr_any (hm1.rd.drewN n) am ha s1.token)
        rw [e2] at HH
        have hcv := fun n => conv_row (w := w1.drewN n) ((hm1.rd.drewN n).rows.own (tokRow s1 L1) (by simp [rowsOf]))
        have HM1 := hide hm1
        unfold cellsOf at hc1
        clear hm1 am ha c0 c1
        go_wp2_with (first
          | (go_at_call 60; refine (unhide HF).mono ?_; rintro e w' ⟨rfl, n, rfl⟩)
          | (go_at_call 104; refine (unhide HH n).mono ?_; rintro e w' ⟨rfl, rfl⟩))
        go_ret
        exact ⟨rfl, L1, (unhide HM1).drewN _⟩
    · rw [if_neg (by simp)]
      clear hc hf
      go_enter Tryd.func103, Tryd.ntmps103
      go_wp2_with fail
      refine (unhide HN).mono ?_
      rintro e w1 ⟨rfl, L1, hm1⟩
      have HF := hide (fits_any hm1.rd 1 c0 c1 (by decide) (by decide))
      rw [e1] at HF
      have HM1 := hide hm1
      clear hm1 am ha c0 c1
      go_wp2_with (go_at_call 60; refine (unhide HF).mono ?_; rintro e w' ⟨rfl, n, rfl⟩)
      go_ret
      exact ⟨rfl, L1, (unhide HM1).drewN _⟩

theorem readAttrName_any {w : World} {b : Nat} {s : St} {L : Lay} (h : RdL w b s L) (hB : Bd s) (x : Int) (h0 : 0 ≤ x) (h1 : x ≤ 255) :
    Calls Tryd.prog 91 #[.pointer (some ⟨b, 0, none⟩), .int .u8 x] w (Does w b s L (Mk.readAttrName s x)) := by
  have hc := h.cell
  have hf := h.frozen
  have hlt := h.lt
  have HM := hide h
  have HL := hide (lengthenAttrName_any h hB x h0 h1)
  have HH := hide (hasAttr_any h hB.am hB.ha s.token)
  have HT := hide (takeToken_any h)
  have hcv := conv_row (h.rows.own (tokRow s L) (by simp [rowsOf]))
  have HB := hide hB
  unfold cellsOf at hc
  clear h hB
  cases ei : Mk.inName x
  · cases e3 : (x != 61 && !Mk.isSpace x)
    · cases e2 : Mk.hasAttr s s.token
      · have hr : Mk.readAttrName s x = Mk.readAttrSpace { Mk.dropToken s with attr := s.token } x := by simp only [Mk.readAttrName, ei, e3, e2]; rfl
        rw [hr]
        rw [e2] at HH
        clear hr HL
        cases e4 : (x == 61)
        · have e4' : (x != 61) = true := by simp at e4 ⊢; exact e4
          have e5 : Mk.isSpace x = true := by simpa [e4'] using e3
          clear e3
          go_enter Tryd.func91, Tryd.ntmps91
          go_wp2_with (first | (go_at_call 84; refine (inName_any _ _).mono ?_; rintro e w1 ⟨rfl, rfl⟩) | (go_at_call 55; refine (isSpace_any _ _).mono ?_; rintro e w1 ⟨rfl, rfl⟩) | (go_at_call 104; refine (unhide HH).mono ?_; rintro e w' ⟨rfl, rfl⟩))
          refine (unhide HT).mono ?_
          rintro e w1 ⟨rfl, L1, hm1⟩
          have hc1 := hm1.rd.cell
          have hf1 := hm1.rd.frozen
          have hlt1 := hm1.rd.lt
          have hm2 := hm1.store 10 (.string ⟨s.token.toArray⟩) { Mk.dropToken s with attr := s.token } rfl rfl rfl
          have HG := hide (readAttrSpace_any hm2.rd { unhide HB with ht := by simp [Mk.dropToken], c0 := by simp [Mk.dropToken], c1 := by simp [Mk.dropToken] } x h0 h1)
          have HM2 := hide hm2
          unfold cellsOf at hc1
          clear hm1 hm2 HB hc hf hcv
          go_wp2_with (go_at_call 92; refine (unhide HG).mono ?_; rintro e w1 ⟨rfl, L1, hm1⟩; have HX := hide hm1; clear hm1)
          go_ret
          exact ⟨rfl, L1, (unhide HM2).call (unhide HX)⟩
        · have e4' : (x != 61) = false := by simp at e4 ⊢; exact e4
          clear e3
          go_enter Tryd.func91, Tryd.ntmps91
          go_wp2_with (first | (go_at_call 84; refine (inName_any _ _).mono ?_; rintro e w1 ⟨rfl, rfl⟩) | (go_at_call 55; refine (isSpace_any _ _).mono ?_; rintro e w1 ⟨rfl, rfl⟩) | (go_at_call 104; refine (unhide HH).mono ?_; rintro e w' ⟨rfl, rfl⟩))
          refine (unhide HT).mono ?_
          rintro e w1 ⟨rfl, L1, hm1⟩
          have hc1 := hm1.rd.cell
          have hf1 := hm1.rd.frozen
          have hlt1 := hm1.rd.lt
          have hm2 := hm1.store 10 (.string ⟨s.token.toArray⟩) { Mk.dropToken s with attr := s.token } rfl rfl rfl
          have HG := hide (readAttrSpace_any hm2.rd { unhide HB with ht := by simp [Mk.dropToken], c0 := by simp [Mk.dropToken], c1 := by simp [Mk.dropToken] } x h0 h1)
          have HM2 := hide hm2
          unfold cellsOf at hc1
          clear hm1 hm2 HB hc hf hcv
          go_wp2_with (go_at_call 92; refine (unhide HG).mono ?_; rintro e w1 ⟨rfl, L1, hm1⟩; have HX := hide hm1; clear hm1)
          go_ret
          exact ⟨rfl, L1, (unhide HM2).call (unhide HX)⟩
      · have hr : Mk.readAttrName s x = (s, 6) := by simp only [Mk.readAttrName, ei, e3, e2]; rfl
        rw [hr]
        rw [e2] at HH
        clear hr HL HT
        cases e4 : (x == 61)
        · have e4' : (x != 61) = true := by simp at e4 ⊢; exact e4
          have e5 : Mk.isSpace x = true := by simpa [e4'] using e3
          clear e3
          go_enter Tryd.func91, Tryd.ntmps91
          go_wp2_with (first | (go_at_call 84; refine (inName_any _ _).mono ?_; rintro e w1 ⟨rfl, rfl⟩) | (go_at_call 55; refine (isSpace_any _ _).mono ?_; rintro e w1 ⟨rfl, rfl⟩) | (go_at_call 104; refine (unhide HH).mono ?_; rintro e w' ⟨rfl, rfl⟩))
          go_ret
          exact ⟨rfl, L, (unhide HM).start⟩
        · have e4' : (x != 61) = false := by simp at e4 ⊢; exact e4
          clear e3
          go_enter Tryd.func91, Tryd.ntmps91
          go_wp2_with (first | (go_at_call 84; refine (inName_any _ _).mono ?_; rintro e w1 ⟨rfl, rfl⟩) | (go_at_call 55; refine (isSpace_any _ _).mono ?_; rintro e w1 ⟨rfl, rfl⟩) | (go_at_call 104; refine (unhide HH).mono ?_; rintro e w' ⟨rfl, rfl⟩))
          go_ret
          exact ⟨rfl, L, (unhide HM).start⟩
    · have hr : Mk.readAttrName s x = (s, 3) := by simp only [Mk.readAttrName, ei, e3]; rfl
      rw [hr]
      have e4 : (x != 61) = true := by simp at e3; simp [e3]
      have e5 : Mk.isSpace x = false := by simp at e3; simp [e3]
      clear hr HL HT HH e3
      go_enter Tryd.func91, Tryd.ntmps91
      go_wp2_with (first | (go_at_call 84; refine (inName_any _ _).mono ?_; rintro e w1 ⟨rfl, rfl⟩) | (go_at_call 55; refine (isSpace_any _ _).mono ?_; rintro e w1 ⟨rfl, rfl⟩))
      go_ret
      exact ⟨rfl, L, (unhide HM).start⟩
  · have hr : Mk.readAttrName s x = Mk.lengthenAttrName s x := by simp only [Mk.readAttrName, ei]; rfl
    rw [hr]
    clear hr HT HH
    go_enter Tryd.func91, Tryd.ntmps91
    go_wp2_with (first | (go_at_call 84; refine (inName_any _ _).mono ?_; rintro e w1 ⟨rfl, rfl⟩) | (go_at_call 103; refine (unhide HL).mono ?_; rintro e w1 ⟨rfl, L1, hm1⟩; have HX := hide hm1; clear hm1))
    go_ret
    exact ⟨rfl, L1, unhide HX⟩
end Go.Proofs.YtkkakfocjbnomaaDoor
