/- Golds2 -/
import Derived.Test.YtmgfijllcdadgaaGreatDoorCGolds
namespace Go.Proofs.YtmgfijllcdadgaaGreatDoor
set_option linter.unusedVariables false
set_option linter.unusedSimpArgs false
open Go.RowKit
open Mk (St Bs Ev Att)

theorem SL.base {n0 n1 : Nat} {w : World} {u : Value} {l : List (Ev × Value)} (h : SL n0 w u l) (hn : n1 ≤ n0) : SL n1 w u l := by
  rcases h with h | ⟨g, h1, h2⟩
  · exact .inl h
  · exact .inr ⟨g, Nat.le_trans hn h1, h2⟩
theorem all_base {n0 n1 : Nat} {tv v : Value} {w : World} (h : Kd.all.ok n0 tv v w) (hn : n1 ≤ n0) : Kd.all.ok n1 tv v w := by
  obtain ⟨g, us, h1, h2, h3, h4, h5⟩ := h
  exact ⟨g, us, Nat.le_trans hn h1, h2, h3, h4, fun p hp => (h5 p hp).base hn⟩
theorem below_47 (i : Nat) (h : i < 47) : i = 0 ∨ i = 1 ∨ i = 2 ∨ i = 3 ∨ i = 4 ∨ i = 5 ∨ i = 6 ∨ i = 7 ∨ i = 8 ∨ i = 9 ∨ i = 10 ∨ i = 11 ∨ i = 12 ∨ i = 13 ∨ i = 14 ∨ i = 15 ∨ i = 16 ∨ i = 17 ∨ i = 18 ∨ i = 19 ∨ i = 20 ∨ i = 21 ∨ i = 22 ∨ i = 23 ∨ i = 24 ∨ i = 25 ∨ i = 26 ∨ i = 27 ∨ i = 28 ∨ i = 29 ∨ i = 30 ∨ i = 31 ∨ i = 32 ∨ i = 33 ∨ i = 34 ∨ i = 35 ∨ i = 36 ∨ i = 37 ∨ i = 38 ∨ i = 39 ∨ i = 40 ∨ i = 41 ∨ i = 42 ∨ i = 43 ∨ i = 44 ∨ i = 45 ∨ i = 46 := by omega
set_option maxHeartbeats 4000000 in
set_option maxRecDepth 100000 in
theorem golds_any (w : World) :
    Calls Tryz.prog 17 #[] w fun e w' => ∃ v tb, e = .returned v ∧ Below w.heap.size w w' ∧ Kd.all.ok w.heap.size (.slice (some ⟨tb, 0, none⟩) 2 2) v w' ∧ w'.heap[tb]? = some (.cells (atsRow eW.attrs).toArray 69 (0, 0)) := by
  go_enter Tryz.func17, Tryz.ntmps17
  go_wp2_with (first
    | (go_at_call 32; refine (start_any [97] none 0 0 _).mono ?_; rintro e w1 ⟨rfl, hb1⟩)
    | (go_at_call 32; refine (start_any [97] _ _ _ _).mono ?_; rintro e w5 ⟨rfl, hb5⟩)
    | (go_at_call 33; refine (end_any [97] _).mono ?_; rintro e w2 ⟨rfl, hb2⟩))
  have s2 := hb2.size
  have s5 := hb5.size
  have s1 := hb1.size
  simp at s2 s5
  have hC : GC (w5.alloc (.cells #[.int .i64 1, .string ⟨#[97]⟩, .string ⟨#[]⟩, .string ⟨#[]⟩, .slice (some ⟨w2.heap.size + 1 + 1 + 1, 0, none⟩) 2 2] 65 (0, 0))) w1.heap.size w2.heap.size (w2.heap.size + 1) (w2.heap.size + 1 + 1) w5.heap.size (.slice (some ⟨w2.heap.size + 1 + 1 + 1, 0, none⟩) 2 2) := by
    refine ⟨?_, ?_, ?_, ?_, heap_alloc_new w5 _⟩
    · rw [Below.heap_alloc _ _ _ (by omega), hb5.block _ (by simp <;> omega), Below.heap_alloc _ _ _ (by simp <;> omega), Below.heap_alloc _ _ _ (by simp <;> omega), Below.heap_alloc _ _ _ (by simp <;> omega), Below.heap_alloc _ _ _ (by omega), hb2.block _ (by simp)]
      exact heap_alloc_new w1 _
    · rw [Below.heap_alloc _ _ _ (by omega), hb5.block _ (by simp <;> omega), Below.heap_alloc _ _ _ (by simp <;> omega), Below.heap_alloc _ _ _ (by simp <;> omega), Below.heap_alloc _ _ _ (by simp)]
      exact heap_alloc_new w2 _
    · rw [Below.heap_alloc _ _ _ (by omega), hb5.block _ (by simp <;> omega), Below.heap_alloc _ _ _ (by simp <;> omega), Below.heap_alloc _ _ _ (by simp)]
      exact heap_alloc2_new w2 _ _
    · rw [Below.heap_alloc _ _ _ (by omega), hb5.block _ (by simp), Below.heap_alloc _ _ _ (by simp)]
      exact heap_alloc3_new w2 _ _ _
  have hT : w5.heap[w2.heap.size + 1 + 1 + 1]? = some (.cells (atsRow eW.attrs).toArray 69 (0, 0)) := by
    rw [hb5.block _ (by simp)]
    exact heap_alloc4_new w2 _ _ _ _
  have hbW : Below w.heap.size w (w5.alloc (.cells #[.int .i64 1, .string ⟨#[97]⟩, .string ⟨#[]⟩, .string ⟨#[]⟩, .slice (some ⟨w2.heap.size + 1 + 1 + 1, 0, none⟩) 2 2] 65 (0, 0))) := by
    refine Below.alloc ?_ (by omega) _
    refine Below.trans ?_ (hb5.mono (by simp <;> omega))
    refine Below.alloc (Below.alloc (Below.alloc (Below.alloc ?_ (by omega) _) (by simp <;> omega) _) (by simp <;> omega) _) (by simp <;> omega) _
    refine Below.trans ?_ (hb2.mono (by simp <;> omega))
    exact hb1.alloc (by omega) _
  have HC := hide hC
  have HT := hide hT
  have HB := hide hbW
  clear hC hT hbW
  refine wp_region_any (by kernel_rfl) ?_
  refine wpAny_inv (GJ (w5.alloc (.cells #[.int .i64 1, .string ⟨#[97]⟩, .string ⟨#[]⟩, .string ⟨#[]⟩, .slice (some ⟨w2.heap.size + 1 + 1 + 1, 0, none⟩) 2 2] 65 (0, 0))) w1.heap.size w2.heap.size (w2.heap.size + 1) (w2.heap.size + 1 + 1) w5.heap.size (.slice (some ⟨w2.heap.size + 1 + 1 + 1, 0, none⟩) 2 2)) ?step ?done _ _ _ _ ?start (idle_all _)
  case start =>
    refine ⟨rfl, rfl, rfl, ⟨rfl, rfl, rfl, Nat.le_refl _, fun _ _ => rfl⟩, rfl, rfl, rfl, rfl, rfl, ?_, ?_⟩
    · intro i hi hl
      simp only [Array.getD_eq_getD_getElem?, Array.getElem?_replicate] at hl
      split at hl <;> simp at hl
    · intro hl
      simp at hl
  case done =>
    intro listed a w6 hJ hr
    have hal := all_listed (by rw [hJ.sz]; rfl) ?dag hr 46 (by decide)
    case dag => exact dag_of (by kernel_rfl)
    obtain ⟨k, hk, hf⟩ := hJ.fin hal
    obtain rfl : Kd.all = k := Option.some.inj hk
    rename_i Q1 K1 hK1
    show K1 a w6
    apply hK1
    go_wp2
    refine bodyPost_ret (results_tmp rfl _ _ _) hJ.df ?_
    have hs6 := hJ.bel.size
    have hsW := (unhide HB).size
    have hT6 : w6.heap[w2.heap.size + 1 + 1 + 1]? = some (.cells (atsRow eW.attrs).toArray 69 (0, 0)) := by
      rw [hJ.bel.block _ (by simp <;> omega), Below.heap_alloc _ _ _ (by omega)]
      exact unhide HT
    exact ⟨_, _, rfl, (unhide HB).trans (hJ.bel.mono hsW), all_base hf hsW, hT6⟩
  case step =>
    intro listed a w6 i hJ hi
    obtain ⟨h0, o, ho, hall⟩ := mem_ready.1 hi
    have hlt : i < 47 := (Array.getElem?_eq_some_iff.1 ho).1
    clear hi h0
    have hC := unhide HC
    clear HC HT HB hb1 hb2 hb5 s1 s2 s5
    rcases below_47 i hlt with rfl | rfl | rfl | rfl | rfl | rfl | rfl | rfl | rfl | rfl | rfl | rfl | rfl | rfl | rfl | rfl | rfl | rfl | rfl | rfl | rfl | rfl | rfl | rfl | rfl | rfl | rfl | rfl | rfl | rfl | rfl | rfl | rfl | rfl | rfl | rfl | rfl | rfl | rfl | rfl | rfl | rfl | rfl | rfl | rfl | rfl | rfl
    all_goals obtain rfl := Option.some.inj ho
    · exact gstep_ld hJ 0 (by decide) ho rfl rfl 1 rfl hJ.p1 (hC.c1 hJ.bel) rfl
    · exact gstep_ld hJ 1 (by decide) ho rfl rfl 2 rfl hJ.p2 (hC.c2 hJ.bel) rfl
    · exact gstep_sl2 hJ 2 (by decide) ho rfl rfl 14 15 rfl (hJ.sp 0 (by decide) (hall ⟨0, .data⟩ (by simp) rfl)) (hJ.sp 1 (by decide) (hall ⟨1, .data⟩ (by simp) rfl)) rfl rfl rfl rfl rfl
    · exact gstep_kn hJ 3 (by decide) ho rfl rfl (goldK (.slice (some ⟨w2.heap.size + 1 + 1 + 1, 0, none⟩) 2 2) 0) 16 rfl (hJ.sp 2 (by decide) (hall ⟨2, .data⟩ (by simp) rfl)) rfl rfl rfl
    · exact gstep_ld hJ 4 (by decide) ho rfl rfl 1 rfl hJ.p1 (hC.c1 hJ.bel) rfl
    · exact gstep_call hJ 5 (by decide) ho rfl rfl [120, 38, 121, 60] rfl rfl
    · exact gstep_ld hJ 6 (by decide) ho rfl rfl 2 rfl hJ.p2 (hC.c2 hJ.bel) rfl
    · exact gstep_sl3 hJ 7 (by decide) ho rfl rfl 18 19 20 rfl (hJ.sp 4 (by decide) (hall ⟨4, .data⟩ (by simp) rfl)) (hJ.sp 5 (by decide) (hall ⟨5, .data⟩ (by simp) rfl)) (hJ.sp 6 (by decide) (hall ⟨6, .data⟩ (by simp) rfl)) rfl rfl rfl rfl rfl rfl rfl
    · exact gstep_kn hJ 8 (by decide) ho rfl rfl (goldK (.slice (some ⟨w2.heap.size + 1 + 1 + 1, 0, none⟩) 2 2) 1) 21 rfl (hJ.sp 7 (by decide) (hall ⟨7, .data⟩ (by simp) rfl)) rfl rfl rfl
    · exact gstep_ld hJ 9 (by decide) ho rfl rfl 3 rfl hJ.p3 (hC.c3 hJ.bel) rfl
    · exact gstep_ld hJ 10 (by decide) ho rfl rfl 4 rfl hJ.p4 (hC.c4 hJ.bel) rfl
    · exact gstep_ld hJ 11 (by decide) ho rfl rfl 1 rfl hJ.p1 (hC.c1 hJ.bel) rfl
    · exact gstep_ld hJ 12 (by decide) ho rfl rfl 2 rfl hJ.p2 (hC.c2 hJ.bel) rfl
    · exact gstep_sl4 hJ 13 (by decide) ho rfl rfl 23 24 25 26 rfl (hJ.sp 9 (by decide) (hall ⟨9, .data⟩ (by simp) rfl)) (hJ.sp 10 (by decide) (hall ⟨10, .data⟩ (by simp) rfl)) (hJ.sp 11 (by decide) (hall ⟨11, .data⟩ (by simp) rfl)) (hJ.sp 12 (by decide) (hall ⟨12, .data⟩ (by simp) rfl)) rfl rfl rfl rfl rfl rfl rfl rfl rfl
    · exact gstep_kn hJ 14 (by decide) ho rfl rfl (goldK (.slice (some ⟨w2.heap.size + 1 + 1 + 1, 0, none⟩) 2 2) 2) 27 rfl (hJ.sp 13 (by decide) (hall ⟨13, .data⟩ (by simp) rfl)) rfl rfl rfl
    · exact gstep_ld hJ 15 (by decide) ho rfl rfl 5 rfl hJ.p5 (hC.c5 hJ.bel) rfl
    · exact gstep_ld hJ 16 (by decide) ho rfl rfl 2 rfl hJ.p2 (hC.c2 hJ.bel) rfl
    · exact gstep_sl2 hJ 17 (by decide) ho rfl rfl 29 30 rfl (hJ.sp 15 (by decide) (hall ⟨15, .data⟩ (by simp) rfl)) (hJ.sp 16 (by decide) (hall ⟨16, .data⟩ (by simp) rfl)) rfl rfl rfl rfl rfl
    · exact gstep_kn hJ 18 (by decide) ho rfl rfl (goldK (.slice (some ⟨w2.heap.size + 1 + 1 + 1, 0, none⟩) 2 2) 3) 31 rfl (hJ.sp 17 (by decide) (hall ⟨17, .data⟩ (by simp) rfl)) rfl rfl rfl
    · exact gstep_ld hJ 19 (by decide) ho rfl rfl 1 rfl hJ.p1 (hC.c1 hJ.bel) rfl
    · exact gstep_sl1 hJ 20 (by decide) ho rfl rfl 33 rfl (hJ.sp 19 (by decide) (hall ⟨19, .data⟩ (by simp) rfl)) rfl rfl rfl
    · exact gstep_kn hJ 21 (by decide) ho rfl rfl (goldK (.slice (some ⟨w2.heap.size + 1 + 1 + 1, 0, none⟩) 2 2) 4) 34 rfl (hJ.sp 20 (by decide) (hall ⟨20, .data⟩ (by simp) rfl)) rfl rfl rfl
    · exact gstep_kz hJ 22 (by decide) ho rfl rfl (goldK (.slice (some ⟨w2.heap.size + 1 + 1 + 1, 0, none⟩) 2 2) 5) rfl rfl rfl
    · exact gstep_ld hJ 23 (by decide) ho rfl rfl 1 rfl hJ.p1 (hC.c1 hJ.bel) rfl
    · exact gstep_call hJ 24 (by decide) ho rfl rfl [93, 93] rfl rfl
    · exact gstep_sl2 hJ 25 (by decide) ho rfl rfl 37 38 rfl (hJ.sp 23 (by decide) (hall ⟨23, .data⟩ (by simp) rfl)) (hJ.sp 24 (by decide) (hall ⟨24, .data⟩ (by simp) rfl)) rfl rfl rfl rfl rfl
    · exact gstep_kn hJ 26 (by decide) ho rfl rfl (goldK (.slice (some ⟨w2.heap.size + 1 + 1 + 1, 0, none⟩) 2 2) 6) 39 rfl (hJ.sp 25 (by decide) (hall ⟨25, .data⟩ (by simp) rfl)) rfl rfl rfl
    · exact gstep_ld hJ 27 (by decide) ho rfl rfl 1 rfl hJ.p1 (hC.c1 hJ.bel) rfl
    · exact gstep_sl1 hJ 28 (by decide) ho rfl rfl 41 rfl (hJ.sp 27 (by decide) (hall ⟨27, .data⟩ (by simp) rfl)) rfl rfl rfl
    · exact gstep_kn hJ 29 (by decide) ho rfl rfl (goldK (.slice (some ⟨w2.heap.size + 1 + 1 + 1, 0, none⟩) 2 2) 7) 42 rfl (hJ.sp 28 (by decide) (hall ⟨28, .data⟩ (by simp) rfl)) rfl rfl rfl
    · exact gstep_kz hJ 30 (by decide) ho rfl rfl (goldK (.slice (some ⟨w2.heap.size + 1 + 1 + 1, 0, none⟩) 2 2) 8) rfl rfl rfl
    · exact gstep_ld hJ 31 (by decide) ho rfl rfl 1 rfl hJ.p1 (hC.c1 hJ.bel) rfl
    · exact gstep_sl1 hJ 32 (by decide) ho rfl rfl 45 rfl (hJ.sp 31 (by decide) (hall ⟨31, .data⟩ (by simp) rfl)) rfl rfl rfl
    · exact gstep_kn hJ 33 (by decide) ho rfl rfl (goldK (.slice (some ⟨w2.heap.size + 1 + 1 + 1, 0, none⟩) 2 2) 9) 46 rfl (hJ.sp 32 (by decide) (hall ⟨32, .data⟩ (by simp) rfl)) rfl rfl rfl
    · exact gstep_ld hJ 34 (by decide) ho rfl rfl 1 rfl hJ.p1 (hC.c1 hJ.bel) rfl
    · exact gstep_sl1 hJ 35 (by decide) ho rfl rfl 48 rfl (hJ.sp 34 (by decide) (hall ⟨34, .data⟩ (by simp) rfl)) rfl rfl rfl
    · exact gstep_kn hJ 36 (by decide) ho rfl rfl (goldK (.slice (some ⟨w2.heap.size + 1 + 1 + 1, 0, none⟩) 2 2) 10) 49 rfl (hJ.sp 35 (by decide) (hall ⟨35, .data⟩ (by simp) rfl)) rfl rfl rfl
    · exact gstep_ld hJ 37 (by decide) ho rfl rfl 1 rfl hJ.p1 (hC.c1 hJ.bel) rfl
    · exact gstep_ld hJ 38 (by decide) ho rfl rfl 2 rfl hJ.p2 (hC.c2 hJ.bel) rfl
    · exact gstep_sl2 hJ 39 (by decide) ho rfl rfl 51 52 rfl (hJ.sp 37 (by decide) (hall ⟨37, .data⟩ (by simp) rfl)) (hJ.sp 38 (by decide) (hall ⟨38, .data⟩ (by simp) rfl)) rfl rfl rfl rfl rfl
    · exact gstep_kn hJ 40 (by decide) ho rfl rfl (goldK (.slice (some ⟨w2.heap.size + 1 + 1 + 1, 0, none⟩) 2 2) 11) 53 rfl (hJ.sp 39 (by decide) (hall ⟨39, .data⟩ (by simp) rfl)) rfl rfl rfl
    · exact gstep_ld hJ 41 (by decide) ho rfl rfl 1 rfl hJ.p1 (hC.c1 hJ.bel) rfl
    · exact gstep_call hJ 42 (by decide) ho rfl rfl [226, 130, 172, 10, 10, 93, 93] rfl rfl
    · exact gstep_sl2 hJ 43 (by decide) ho rfl rfl 55 56 rfl (hJ.sp 41 (by decide) (hall ⟨41, .data⟩ (by simp) rfl)) (hJ.sp 42 (by decide) (hall ⟨42, .data⟩ (by simp) rfl)) rfl rfl rfl rfl rfl
    · exact gstep_kn hJ 44 (by decide) ho rfl rfl (goldK (.slice (some ⟨w2.heap.size + 1 + 1 + 1, 0, none⟩) 2 2) 12) 57 rfl (hJ.sp 43 (by decide) (hall ⟨43, .data⟩ (by simp) rfl)) rfl rfl rfl
    · exact gstep_all hJ ho rfl rfl rfl (hJ.sp 3 (by decide) (hall ⟨3, .data⟩ (by simp) rfl)) (hJ.sp 8 (by decide) (hall ⟨8, .data⟩ (by simp) rfl)) (hJ.sp 14 (by decide) (hall ⟨14, .data⟩ (by simp) rfl)) (hJ.sp 18 (by decide) (hall ⟨18, .data⟩ (by simp) rfl)) (hJ.sp 21 (by decide) (hall ⟨21, .data⟩ (by simp) rfl)) (hJ.sp 22 (by decide) (hall ⟨22, .data⟩ (by simp) rfl)) (hJ.sp 26 (by decide) (hall ⟨26, .data⟩ (by simp) rfl)) (hJ.sp 29 (by decide) (hall ⟨29, .data⟩ (by simp) rfl)) (hJ.sp 30 (by decide) (hall ⟨30, .data⟩ (by simp) rfl)) (hJ.sp 33 (by decide) (hall ⟨33, .data⟩ (by simp) rfl)) (hJ.sp 36 (by decide) (hall ⟨36, .data⟩ (by simp) rfl)) (hJ.sp 40 (by decide) (hall ⟨40, .data⟩ (by simp) rfl)) (hJ.sp 44 (by decide) (hall ⟨44, .data⟩ (by simp) rfl))
    · exact gstep_fin hJ ho rfl rfl rfl (hJ.sp 45 (by decide) (hall ⟨45, .data⟩ (by simp) rfl))
end Go.Proofs.YtmgfijllcdadgaaGreatDoor
