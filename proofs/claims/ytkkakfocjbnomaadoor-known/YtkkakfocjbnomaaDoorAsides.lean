/-
  CONTRACTS of package reader: comments and instructions.
-/
import Derived.Test.YtkkakfocjbnomaaDoorTok4
namespace Go.Proofs.YtkkakfocjbnomaaDoor
set_option linter.unusedVariables false
set_option linter.unusedSimpArgs false
open Go.RowKit
open Mk (St Bs Ev Att)

/-- What every contract of the reader takes for granted of what it is handed. -/
structure Bd (s : St) : Prop where
  hx : s.text.length ≤ 100000000
  ht : s.token.length ≤ 100000000
  c0 : 0 ≤ s.count
  c1 : s.count ≤ 100000000
  hl : s.list.length ≤ 100000000
  ho : s.opn.length ≤ 100000000
  ha : s.attrs.length ≤ 100000000
  hh : s.held.length ≤ 2
  pt : Pt s.pc s.pl
  rn : s.rn.length ≤ 5
  r0 : 0 ≤ s.rc
  r1 : s.rc ≤ 1114111
  m0 : 0 ≤ s.matched
  m1 : s.matched ≤ 100000000
  am : s.am = false

/-- The shape of the contracts: what is answered, what the parser then holds. -/
def Does (w : World) (b : Nat) (s : St) (L : Lay) (r : St × Int) (e : Ending) (w' : World) : Prop :=
  e = .returned (.int .i64 r.2) ∧ ∃ L', Mv w b (foot s L) w' r.1 L'

theorem rc_any {w : World} {b : Nat} {s : St} {L : Lay} (h : RdL w b s L) (hB : Bd s) (x : Int) (h0 : 0 ≤ x) (h1 : x ≤ 255) :
    Calls Tryd.prog 57 #[.pointer (some ⟨b, 0, none⟩), .int .u8 x] w (Does w b s L (Mk.readCharacter s x)) :=
  readCharacter_any h x h0 h1 (by have := hB.hh; omega) (by have := hB.hx; omega) (by have := hB.ht; omega) hB.c0 (by have := hB.c1; omega)

theorem readDash_any {w : World} {b : Nat} {s : St} {L : Lay} (h : RdL w b s L) (x : Int) :
    Calls Tryd.prog 64 #[.pointer (some ⟨b, 0, none⟩), .int .u8 x] w (Does w b s L (Mk.readDash s x)) := by
  have hc := h.cell
  have hf := h.frozen
  have hlt := h.lt
  have HM := hide h
  unfold cellsOf at hc
  clear h
  cases he : (x == 45)
  · have hr : Mk.readDash s x = (s, 3) := by simp [Mk.readDash, he]
    rw [hr]
    have he' : (x != 45) = true := by simp at he ⊢; exact he
    go_enter Tryd.func64, Tryd.ntmps64
    go_wp2
    go_ret
    exact ⟨rfl, L, (unhide HM).start⟩
  · have hr : Mk.readDash s x = ({ s with state := 7 }, 0) := by simp [Mk.readDash, he]
    rw [hr]
    have he' : (x != 45) = false := by simp at he ⊢; exact he
    go_enter Tryd.func64, Tryd.ntmps64
    go_wp2
    go_ret
    exact ⟨rfl, L, (unhide HM).start.store 4 _ _ rfl rfl rfl⟩

theorem endText_len (s : St) : (Mk.endText s).list.length ≤ s.list.length + 1 ∧ (Mk.endText s).opn = s.opn := by
  unfold Mk.endText; split <;> simp

theorem endComment_any {w : World} {b : Nat} {s : St} {L : Lay} (h : RdL w b s L) (hB : Bd s) :
    Calls Tryd.prog 58 #[.pointer (some ⟨b, 0, none⟩)] w fun e w' => e = .returned (.tuple #[]) ∧ ∃ L', Mv w b (foot s L) w' (Mk.endComment s) L' := by
  have hc := h.cell
  have hf := h.frozen
  have hlt := h.lt
  have hm0 := h.start.store 13 (.string ⟨#[]⟩) { s with held := [] } rfl rfl rfl
  have H1 := hide (takeToken_any hm0.rd)
  have HM0 := hide hm0
  unfold cellsOf at hc
  clear h hm0
  go_enter Tryd.func58, Tryd.ntmps58
  go_wp2_with fail
  refine (unhide H1).mono ?_
  rintro e w1 ⟨rfl, L1, hm1⟩
  have H2 := hide (add_nil hm1.rd ⟨4, [], [], s.token, []⟩ rfl (Nat.le_trans hB.hx (by decide)) (Nat.le_trans hB.hl (by decide)))
  have HM1 := hide ((unhide HM0).call hm1)
  clear hm1 H1 HM0 hc hf
  go_wp2_with fail
  refine (unhide H2).mono ?_
  rintro e w2 ⟨rfl, L2, hm2⟩
  have H3 := hide (resume_any hm2.rd)
  have HM2 := hide ((unhide HM1).call hm2)
  clear hm2 H2 HM1
  go_wp2_with (go_at_call 81; refine (unhide H3).mono ?_; rintro e w3 ⟨rfl, hm3⟩; have HM3 := hide hm3; clear hm3)
  go_end0
  exact ⟨rfl, L2, (unhide HM2).call (unhide HM3)⟩

theorem app_list (l : Bs) (x : UInt8) : (⟨l.toArray⟩ : ByteArray) ++ (⟨#[x]⟩ : ByteArray) = ⟨(l ++ [x]).toArray⟩ := by
  apply ByteArray.ext
  simp

theorem readComment_any {w : World} {b : Nat} {s : St} {L : Lay} (h : RdL w b s L) (hB : Bd s) (x : Int) (h0 : 0 ≤ x) (h1 : x ≤ 255) :
    Calls Tryd.prog 45 #[.pointer (some ⟨b, 0, none⟩), .int .u8 x] w (Does w b s L (Mk.readComment s x)) := by
  have hc := h.cell
  have hf := h.frozen
  have hlt := h.lt
  have hh := hB.hh
  have HM := hide h
  have HE := hide (endComment_any h hB)
  have HC := hide (rc_any h hB x h0 h1)
  have happ := app_list s.held 45
  unfold cellsOf at hc
  clear h
  cases e1 : (s.held == [45, 45])
  · have n1 : s.held ≠ [45, 45] := by simpa using e1
    cases e2 : (x == 45)
    · have hr : Mk.readComment s x = Mk.readCharacter s x := by
        have : x ≠ 45 := by simpa using e2
        simp [Mk.readComment, n1, this]
      rw [hr]
      clear hr n1 HE hB
      go_enter Tryd.func45, Tryd.ntmps45
      go_wp2_with (go_at_call 57; refine (unhide HC).mono ?_; rintro e w1 ⟨rfl, L1, hm1⟩; have HM1 := hide hm1; clear hm1)
      go_ret
      exact ⟨rfl, L1, unhide HM1⟩
    · have hr : Mk.readComment s x = ({ s with held := s.held ++ [45] }, 0) := by
        have : x = 45 := by simpa using e2
        simp [Mk.readComment, n1, this]
      rw [hr]
      clear hr n1 HE hB HC
      go_enter Tryd.func45, Tryd.ntmps45
      go_wp2
      go_ret
      exact ⟨rfl, L, (unhide HM).start.store 13 _ _ rfl rfl rfl⟩
  · have n1 : s.held = [45, 45] := by simpa using e1
    cases e2 : (x == 62)
    · have hr : Mk.readComment s x = (s, 3) := by
        have : x ≠ 62 := by simpa using e2
        simp [Mk.readComment, n1, this]
      rw [hr]
      clear hr n1 HE hB HC
      go_enter Tryd.func45, Tryd.ntmps45
      go_wp2
      go_ret
      exact ⟨rfl, L, (unhide HM).start⟩
    · have hr : Mk.readComment s x = (Mk.endComment s, 0) := by
        have : x = 62 := by simpa using e2
        simp [Mk.readComment, n1, this]
      rw [hr]
      clear hr n1 hB HC
      go_enter Tryd.func45, Tryd.ntmps45
      go_wp2_with (go_at_call 58; refine (unhide HE).mono ?_; rintro e w1 ⟨rfl, L1, hm1⟩; have HM1 := hide hm1; clear hm1)
      go_ret
      exact ⟨rfl, L1, unhide HM1⟩
end Go.Proofs.YtkkakfocjbnomaaDoor
