/-
  CONTRACTS of package refs (2).
-/
import Derived.Test.YtkkakfocjbnomaaDoorRefs
namespace Go.Proofs.YtkkakfocjbnomaaDoor
set_option linter.unusedVariables false
set_option linter.unusedSimpArgs false
open Go.RowKit
open Mk (Bs)
theorem conv_one (b : Int) (h0 : 0 ≤ b) (h1 : b ≤ 255) (g : Nat) (W : World) (h : W.cell? ⟨g, 0, none⟩ = some (.int .u8 b)) :
    (convert 56 9 (.slice (some ⟨g, 0, none⟩) 1 1)).run Tryd.prog W = .ok (.string ⟨[Mk.u8 b].toArray⟩) W := by
  refine run_convert_bytes_back W _ _ _ _ _ [Mk.u8 b] Tryd.underlying56 Tryd.underlying5 Tryd.underlying9 fun j hj => ?_
  have : j = 0 := by simpa using hj
  subst this
  have e : ((Mk.u8 b).toNat : Int) = b := by
    unfold Mk.u8
    rw [UInt8.toNat_ofNat']
    omega
  simpa [Addr.add, e] using h
set_option maxHeartbeats 1000000 in
set_option maxRecDepth 100000 in
theorem letter_any (p : Int) (n : Bs) (c b : Int) (h0 : 0 ≤ b) (h1 : b ≤ 255) (hn : n.length ≤ 20) (w : World) (hG : Gl w) (hs : 1 < w.heap.size) :
    Calls Tryd.prog 73 #[.agg #[.int .i64 p, .string ⟨n.toArray⟩, .int .i64 c], .int .u8 b] w fun e w' => e = .returned (refRes (Mk.letter n b)) ∧ Below w.heap.size w w' := by
  obtain ⟨g1, g2⟩ := hG
  have hs0 : 0 < w.heap.size := by omega
  obtain ⟨r, hr⟩ : ∃ r, Mk.letter n b = r := ⟨_, rfl⟩
  rw [hr]
  obtain ⟨nm, hnm⟩ : ∃ nm, n ++ [Mk.u8 b] = nm := ⟨_, rfl⟩
  have happ : (⟨n.toArray⟩ : ByteArray) ++ (⟨#[Mk.u8 b]⟩ : ByteArray) = ⟨nm.toArray⟩ := by
    rw [← hnm]
    apply ByteArray.ext
    simp
  have hln : nm.length ≤ 21 := by rw [← hnm]; simp; omega
  unfold Mk.letter at hr
  rw [hnm] at hr
  have HR := hide hr
  clear hr hnm
  have hcv := conv_one b h0 h1 (w.heap.size + 1 + 1) (((w.alloc (.cells #[.int .i64 p, .string ⟨n.toArray⟩, .int .i64 c] 70)).alloc (.cells #[.int .i64 0, .string ⟨#[]⟩, .int .i64 0] 70)).alloc (.cells #[.int .u8 b] 5)) (by simp [go_sem])
  go_enter Tryd.func73, Tryd.ntmps73
  go_wp2
  go_loop [7] (fun i => ∃ k : Nat, k ≤ 5 ∧ i = .int .i64 k ∧ Hid (r = Mk.letterIn nm (Mk.refNames.drop k))) (fun i => 5 - (intOf i).toNat)
  case atStart => exact ⟨0, by omega, rfl, (unhide HR).symm⟩
  case round =>
    obtain ⟨k, hk, rfl, HK⟩ := hrel
    by_cases hlt : k < 5
    · obtain ⟨x, cd, q1, q2, q3, q4⟩ := letter_step nm k hlt
      have c1 := g1 k
      have c2 := g2 k
      rw [q1] at c1
      rw [q2] at c2
      rw [← unhide HK] at q4
      have HQ := hide q4
      have HB := hide (fun w => begins_any x nm (by omega) (by omega) w)
      clear q1 q2 q4 hcv g1 g2 HR HK
      cases h3 : (x == nm)
      · cases h4 : nm.isPrefixOf x
        · rw [h4] at HB
          go_wp2_with (go_at_call 97; refine (unhide HB _).mono ?_; rintro e w' ⟨rfl, rfl⟩)
          go_round
          case rel => exact ⟨k + 1, by omega, by go_num, by have := unhide HQ; rw [if_neg (by simpa using h3), if_neg (by simp [h4])] at this; exact this⟩
          case measure => simp [intOf]; omega
        · rw [h4] at HB
          go_wp2_with (go_at_call 97; refine (unhide HB _).mono ?_; rintro e w' ⟨rfl, rfl⟩)
          have hq := unhide HQ
          rw [if_neg (by simpa using h3), if_pos h4] at hq
          subst hq
          exact bodyPost_ret (v := refRes (some ⟨2, nm, 0⟩)) (by simp [results, Tryd.results73, go_sem, refRes, refAgg]) rfl ⟨rfl, by repeat (first | exact Below.refl _ _ | refine Below.alloc ?_ (by simp <;> omega) _)⟩
      · go_wp2
        have hq := unhide HQ
        rw [if_pos (by simpa using h3)] at hq
        subst hq
        exact bodyPost_ret (v := refRes (some ⟨7, [], cd⟩)) (by simp [results, Tryd.results73, go_sem, refRes, refAgg]) rfl ⟨rfl, by repeat (first | exact Below.refl _ _ | refine Below.alloc ?_ (by simp <;> omega) _)⟩
    · have hk5 : k = 5 := by omega
      have hq : r = none := by have := unhide HK; rw [hk5] at this; exact this
      subst hq
      clear HK HR g1 g2 hk5
      go_wp2
      exact bodyPost_ret (v := refRes none) (by simp [results, Tryd.results73, go_sem, refRes, refAgg]) rfl ⟨rfl, by repeat (first | exact Below.refl _ _ | refine Below.alloc ?_ (by simp <;> omega) _)⟩

theorem bcell {W w1 : World} (hb : Below W.heap.size W w1) : (∀ b o, b < W.heap.size → w1.cell? ⟨b, o, none⟩ = W.cell? ⟨b, o, none⟩) ∧ (∀ b o, b < W.heap.size → w1.frozen? ⟨b, o, none⟩ = W.frozen? ⟨b, o, none⟩) :=
  ⟨fun b o h => hb.cell (p := ⟨b, o, none⟩) h, fun b o h => hb.frozen (p := ⟨b, o, none⟩) h⟩

set_option maxHeartbeats 2000000 in
set_option maxRecDepth 100000 in
theorem refNext_any (p : Int) (n : Bs) (c b : Int) (h0 : 0 ≤ b) (h1 : b ≤ 255) (hn : n.length ≤ 20) (c0 : 0 ≤ c) (c1 : c ≤ 1114111) (w : World) (hG : Gl w) (hs : 1 < w.heap.size) :
    Calls Tryd.prog 52 #[.agg #[.int .i64 p, .string ⟨n.toArray⟩, .int .i64 c], .int .u8 b] w fun e w' => e = .returned (refRes (Mk.refNext ⟨p, n, c⟩ b)) ∧ Below w.heap.size w w' := by
  have hbl : Below w.heap.size w ((w.alloc (.cells #[.int .i64 p, .string ⟨n.toArray⟩, .int .i64 c] 70)).alloc (.cells #[.int .i64 0, .string ⟨#[]⟩, .int .i64 0] 70)) := ((Below.refl _ _).alloc (Nat.le_refl _) _).alloc (by simp) _
  have HBL := hide hbl
  have HL := hide (letter_any p n c b h0 h1 hn _ (hG.below hs hbl) (by simp <;> omega))
  have HD := hide (fun base place hb w => refDigit_any p n c b base place h0 h1 c0 c1 hb w)
  have HE := hide (fun base place hb w => digitOrEnd_any p n c b base place h0 h1 c0 c1 hb w)
  clear hG hbl
  by_cases p1 : p = 1
  · subst p1
    cases he : (b == 35)
    · have hm : Mk.refNext ⟨1, n, c⟩ b = Mk.letter n b := by simp [Mk.refNext, he]
      rw [hm]
      clear hm HD HE
      generalize Mk.letter n b = o at *
      go_enter Tryd.func52, Tryd.ntmps52
      go_wp2_with (go_at_call 73; refine (unhide HL).mono ?_; rintro e w1 ⟨rfl, hb⟩; have HB := hide hb; obtain ⟨hc, hf⟩ := bcell hb; have hz := hb.size; simp at hz; clear hb; simp only [refRes, refAgg])
      exact bodyPost_ret (v := refRes o) (by simp [results, Tryd.results52, go_sem, refRes, refAgg, hc, hz]) rfl ⟨rfl, ((((unhide HBL).trans ((unhide HB).mono (by simp <;> omega))).setCell (by simp) _).setCell (by simp) _).setCell (by simp) _⟩
    · have hm : Mk.refNext ⟨1, n, c⟩ b = some ⟨3, [], 0⟩ := by simp [Mk.refNext, he]
      rw [hm]
      clear hm HD HE HL
      go_enter Tryd.func52, Tryd.ntmps52
      go_wp2
      exact bodyPost_ret (v := refRes (some ⟨3, [], 0⟩)) (by simp [results, Tryd.results52, go_sem, refRes, refAgg]) rfl ⟨rfl, by repeat (first | exact Below.refl _ _ | refine Below.alloc ?_ (by simp <;> omega) _)⟩
  have e1 : (p == 1) = false := by rw [beq_eq_false_iff_ne]; exact p1
  clear p1
  by_cases p1 : p = 2
  · subst p1
    · have hm : Mk.refNext ⟨2, n, c⟩ b = Mk.letter n b := by simp [Mk.refNext]
      rw [hm]
      clear hm HD HE
      generalize Mk.letter n b = o at *
      go_enter Tryd.func52, Tryd.ntmps52
      go_wp2_with (go_at_call 73; refine (unhide HL).mono ?_; rintro e w1 ⟨rfl, hb⟩; have HB := hide hb; obtain ⟨hc, hf⟩ := bcell hb; have hz := hb.size; simp at hz; clear hb; simp only [refRes, refAgg])
      exact bodyPost_ret (v := refRes o) (by simp [results, Tryd.results52, go_sem, refRes, refAgg, hc, hz]) rfl ⟨rfl, ((((unhide HBL).trans ((unhide HB).mono (by simp <;> omega))).setCell (by simp) _).setCell (by simp) _).setCell (by simp) _⟩
  have e2 : (p == 2) = false := by rw [beq_eq_false_iff_ne]; exact p1
  clear p1 HL
  by_cases p1 : p = 3
  · subst p1
    cases he : (b == 120)
    · have hm : Mk.refNext ⟨3, n, c⟩ b = Mk.refDigit c b 10 5 := by simp [Mk.refNext, he]
      rw [hm]
      have HD' := hide (fun w => (unhide HD) 10 5 (.inl rfl) w)
      clear hm HD HE
      generalize Mk.refDigit c b 10 5 = o at *
      go_enter Tryd.func52, Tryd.ntmps52
      go_wp2_with (go_at_call 74; refine (unhide HD' _).mono ?_; rintro e w1 ⟨rfl, rfl⟩; simp only [refRes, refAgg])
      exact bodyPost_ret (v := refRes o) (by simp [results, Tryd.results52, go_sem, refRes, refAgg]) rfl ⟨rfl, by repeat (first | exact Below.refl _ _ | refine Below.alloc ?_ (by simp <;> omega) _)⟩
    · have hm : Mk.refNext ⟨3, n, c⟩ b = some ⟨4, [], 0⟩ := by simp [Mk.refNext, he]
      rw [hm]
      clear hm HD HE
      go_enter Tryd.func52, Tryd.ntmps52
      go_wp2
      exact bodyPost_ret (v := refRes (some ⟨4, [], 0⟩)) (by simp [results, Tryd.results52, go_sem, refRes, refAgg]) rfl ⟨rfl, by repeat (first | exact Below.refl _ _ | refine Below.alloc ?_ (by simp <;> omega) _)⟩
  have e3 : (p == 3) = false := by rw [beq_eq_false_iff_ne]; exact p1
  clear p1
  by_cases p1 : p = 5
  · subst p1
    · have hm : Mk.refNext ⟨5, n, c⟩ b = Mk.digitOrEnd c b 10 5 := by simp [Mk.refNext]
      rw [hm]
      have HE' := hide (fun w => (unhide HE) 10 5 (.inl rfl) w)
      clear hm HD HE
      generalize Mk.digitOrEnd c b 10 5 = o at *
      go_enter Tryd.func52, Tryd.ntmps52
      go_wp2_with (go_at_call 75; refine (unhide HE' _).mono ?_; rintro e w1 ⟨rfl, hb⟩; have HB := hide hb; obtain ⟨hc, hf⟩ := bcell hb; have hz := hb.size; simp at hz; clear hb; simp only [refRes, refAgg])
      exact bodyPost_ret (v := refRes o) (by simp [results, Tryd.results52, go_sem, refRes, refAgg, hc, hz]) rfl ⟨rfl, ((((unhide HBL).trans ((unhide HB).mono (by simp <;> omega))).setCell (by simp) _).setCell (by simp) _).setCell (by simp) _⟩
  have e5 : (p == 5) = false := by rw [beq_eq_false_iff_ne]; exact p1
  clear p1
  by_cases p1 : p = 4
  · subst p1
    · have hm : Mk.refNext ⟨4, n, c⟩ b = Mk.refDigit c b 16 6 := by simp [Mk.refNext]
      rw [hm]
      have HD' := hide (fun w => (unhide HD) 16 6 (.inr rfl) w)
      clear hm HD HE
      generalize Mk.refDigit c b 16 6 = o at *
      go_enter Tryd.func52, Tryd.ntmps52
      go_wp2_with (go_at_call 74; refine (unhide HD' _).mono ?_; rintro e w1 ⟨rfl, rfl⟩; simp only [refRes, refAgg])
      exact bodyPost_ret (v := refRes o) (by simp [results, Tryd.results52, go_sem, refRes, refAgg]) rfl ⟨rfl, by repeat (first | exact Below.refl _ _ | refine Below.alloc ?_ (by simp <;> omega) _)⟩
  have e4 : (p == 4) = false := by rw [beq_eq_false_iff_ne]; exact p1
  clear p1 HD
  by_cases p1 : p = 6
  · subst p1
    · have hm : Mk.refNext ⟨6, n, c⟩ b = Mk.digitOrEnd c b 16 6 := by simp [Mk.refNext]
      rw [hm]
      have HE' := hide (fun w => (unhide HE) 16 6 (.inr rfl) w)
      clear hm HE
      generalize Mk.digitOrEnd c b 16 6 = o at *
      go_enter Tryd.func52, Tryd.ntmps52
      go_wp2_with (go_at_call 75; refine (unhide HE' _).mono ?_; rintro e w1 ⟨rfl, hb⟩; have HB := hide hb; obtain ⟨hc, hf⟩ := bcell hb; have hz := hb.size; simp at hz; clear hb; simp only [refRes, refAgg])
      exact bodyPost_ret (v := refRes o) (by simp [results, Tryd.results52, go_sem, refRes, refAgg, hc, hz]) rfl ⟨rfl, ((((unhide HBL).trans ((unhide HB).mono (by simp <;> omega))).setCell (by simp) _).setCell (by simp) _).setCell (by simp) _⟩
  have e6 : (p == 6) = false := by rw [beq_eq_false_iff_ne]; exact p1
  clear p1 HE
  have hm : Mk.refNext ⟨p, n, c⟩ b = none := by simp [Mk.refNext, e1, e2, e3, e4, e5, e6]
  rw [hm]
  clear hm
  go_enter Tryd.func52, Tryd.ntmps52
  go_wp2
  exact bodyPost_ret (v := refRes none) (by simp [results, Tryd.results52, go_sem, refRes, refAgg]) rfl ⟨rfl, by repeat (first | exact Below.refl _ _ | refine Below.alloc ?_ (by simp <;> omega) _)⟩
end Go.Proofs.YtkkakfocjbnomaaDoor
