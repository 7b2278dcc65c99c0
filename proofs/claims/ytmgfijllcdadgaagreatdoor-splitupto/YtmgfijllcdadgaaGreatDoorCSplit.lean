/- Split -/
import Derived.Test.YtmgfijllcdadgaaGreatDoorM29
import Derived.Test.YtmgfijllcdadgaaGreatDoorM30
namespace Go.Proofs.YtmgfijllcdadgaaGreatDoor
set_option linter.unusedVariables false
set_option linter.unusedSimpArgs false
open Go.RowKit
open Mk (St Bs Ev Att)

theorem told_ok (d a t : Int) (n : Bool) (text : Bs) : ToldOk text.length (Mk.feedAll (Mk.make_ d a t n) text).ended (Mk.close (Mk.feedAll (Mk.make_ d a t n) text)).2 (Mk.feedAll (Mk.make_ d a t n) text).at_ := by
  have h0 : (Mk.make_ d a t n).at_ = 0 := rfl
  rcases feedAll_told text (Mk.make_ d a t n) rfl with ⟨h1, h2⟩ | ⟨h1, h2, h3⟩
  · refine .inl ⟨h1, by rw [h2, h0]; omega, ?_⟩
    unfold Mk.close
    rw [if_pos h1]
    split
    · exact .inl rfl
    · exact .inr rfl
  · refine .inr ⟨h1, by omega, by omega, ?_⟩
    unfold Mk.close
    rw [if_neg h1]

set_option maxHeartbeats 1000000 in
set_option maxRecDepth 100000 in
theorem split_any (d a t : Int) (nm : Bool) (d1 : 1 ≤ d) (d2 : d ≤ 64) (a1 : 0 ≤ a) (a2 : a ≤ 32) (t1 : 8 ≤ t) (t2 : t ≤ 1024) (text : Bs) (cuts : List Int) (ca : Option Addr) (cc : Nat) (hT : text.length ≤ 1100000) (hC : cuts.length ≤ 1100000) (w : World)
    (hcut : ∀ j (hj : j < cuts.length), ∃ cg co, ca = some ⟨cg, co, none⟩ ∧ cg < w.heap.size ∧ w.cell? ⟨cg, co + j, none⟩ = some (.int .i64 cuts[j])) (hi64 : ∀ c ∈ cuts, I64 c) (hG : Gl w) (hs : 2 < w.heap.size) :
    Calls Tryz.prog 21 #[.agg #[.int .i64 d, .int .i64 a, .int .i64 t, .bool nm], .string ⟨text.toArray⟩, .slice ca cuts.length cc] w fun e w' => e = .returned (.bool true) ∧ Below w.heap.size w w' := by
  have HX := hide (fun w hG hs => run_any d a t nm d1 d2 a1 a2 t1 t2 text [] none 0 hT (by decide) w (fun j hj => by cases hj) (fun c hc => by cases hc) hG hs)
  have HY := hide (fun w h hG hs => run_any d a t nm d1 d2 a1 a2 t1 t2 text cuts ca cc hT (by omega) w h hi64 hG hs)
  have P1 := hide (runL_place d a t nm text [])
  have P2 := hide (runL_place d a t nm text cuts)
  have q1 := runL_eq d a t nm text []
  have q2 := runL_eq d a t nm text cuts
  have HT := hide (fun v q hv w hG hs => told_any d a t nm d1 d2 a1 a2 t1 t2 v hv _ _ _ q text (told_ok d a t nm text) w hG hs)
  rw [q1.1, q1.2.1, q1.2.2.1, q1.2.2.2] at HX
  rw [q2.1, q2.2.1, q2.2.2.1, q2.2.2.2] at HY
  clear q1 q2
  generalize join [] (out (Mk.feedAll (Mk.make_ d a t nm) text).list (Mk.feedAll (Mk.make_ d a t nm) text).text) = evs at *
  generalize (Mk.close (Mk.feedAll (Mk.make_ d a t nm) text)).2 = en at *
  generalize (Mk.feedAll (Mk.make_ d a t nm) text).ended = err at *
  generalize (Mk.feedAll (Mk.make_ d a t nm) text).at_ = at_ at *
  have HG := hide hG
  have HC := hide hcut
  clear hG hcut hi64 d1 d2 a1 a2 t1 t2
  go_enter Tryz.func21, Tryz.ntmps21
  go_wp2_with fail
  have hb0 := (Below.refl w.heap.size w).alloc (Nat.le_refl _) (.cells #[.int .i64 d, .int .i64 a, .int .i64 t, .bool nm] 40 (0, 0))
  refine (unhide HX _ ((unhide HG).below hs hb0) (by simp; omega)).mono ?_
  rintro e w1 ⟨v1, fp1, u1, rfl, hg1, hf1, hb1, hp1⟩
  obtain ⟨x1, c1, rfl⟩ := hg1.slice
  have hst := lay_out w1 (.slice x1 evs.length c1) err en at_ u1 ⟨_, _, _, rfl⟩
  have hx1 : w1.heap[w.heap.size]? = some (.cells #[.int .i64 d, .int .i64 a, .int .i64 t, .bool nm] 40 (0, 0)) := by
    rw [hb1.block _ (by simp)]
    exact heap_alloc_new w _
  have hsz1 : w.heap.size < w1.heap.size := (Array.getElem?_eq_some_iff.1 hx1).1
  have hc1 : ∀ o j, (w1.alloc o).cell? ⟨w.heap.size, j, none⟩ = [.int .i64 d, .int .i64 a, .int .i64 t, .bool nm][j]? := fun o j => by simp only [World.cell?]; rw [Below.heap_alloc _ _ _ (by omega), hx1]; simp
  have hbw1 : Below w.heap.size w w1 := hb0.trans (hb1.mono (by simp))
  have HP1 := hide hp1
  have HG1 := hide hg1
  have HF1 := hide hf1
  clear hp1 hg1 hf1 hb1 hb0
  go_wp2_with fail
  have hb2 := hbw1.alloc (by omega) (.cells (outCells (.slice x1 evs.length c1) err en at_ u1) 36 (0, 0))
  refine (unhide HY _ (fun j hj => ?_) ((unhide HG).below hs hb2) (by simp; omega)).mono ?_
  · obtain ⟨cg, co, h1, h2, h3⟩ := unhide HC j hj
    refine ⟨cg, co, h1, by have := hb2.size; omega, ?_⟩
    have : ∀ i, (w1.alloc (.cells (outCells (.slice x1 evs.length c1) err en at_ u1) 36 (0, 0))).cell? ⟨cg, i, none⟩ = w.cell? ⟨cg, i, none⟩ := fun i => by simp only [World.cell?]; rw [hb2.block _ h2]
    rw [this]; exact h3
  rintro e w2 ⟨v2, fp2, u2, rfl, hg2, hf2, hb3, hp2⟩
  obtain ⟨x2, c2, rfl⟩ := hg2.slice
  have hst := lay_out w2 (.slice x2 evs.length c2) err en at_ u2 ⟨_, _, _, rfl⟩
  have hy1 : w2.heap[w.heap.size]? = some (.cells #[.int .i64 d, .int .i64 a, .int .i64 t, .bool nm] 40 (0, 0)) := by
    rw [hb3.block _ (by simp; omega), Below.heap_alloc _ _ _ (by omega)]
    exact hx1
  have hy2 : w2.heap[w1.heap.size]? = some (.cells (outCells (.slice x1 evs.length c1) err en at_ u1) 36 (0, 0)) := by
    rw [hb3.block _ (by simp)]
    exact heap_alloc_new w1 _
  have hsz2 : w1.heap.size < w2.heap.size := (Array.getElem?_eq_some_iff.1 hy2).1
  have hd1 : ∀ o j, (w2.alloc o).cell? ⟨w.heap.size, j, none⟩ = [.int .i64 d, .int .i64 a, .int .i64 t, .bool nm][j]? := fun o j => by simp only [World.cell?]; rw [Below.heap_alloc _ _ _ (by omega), hy1]; simp
  have hd2 : ∀ o j, (w2.alloc o).cell? ⟨w1.heap.size, j, none⟩ = [.slice x1 evs.length c1, .int .i64 err, .int .i64 en, .int .i64 at_, .int .i64 u1.ln, .int .i64 u1.co, .slice u1.oa u1.on u1.oc][j]? := fun o j => by simp only [World.cell?]; rw [Below.heap_alloc _ _ _ (by omega), hy2]; simp [outCells]
  have hbw2 : Below w.heap.size w w2 := hb2.trans (hb3.mono (by simp; omega))
  have hgk : ∀ k, k < w1.heap.size → w2.heap[k]? = w1.heap[k]? := fun k hk => by rw [hb3.block _ (by simp; omega), Below.heap_alloc _ _ _ hk]
  have HG2 := hide ((unhide HG1).keep fun k hk => hgk k (unhide HF1 k hk).2)
  have HP2 := hide hp2
  have HGK := hide hgk
  have HG3 := hide hg2
  have HF2 := hide hf2
  clear hp2 hg2 hf2 hb3 hb2 hgk hc1 hx1 hbw1 HX HY HC HG1
  go_wp2_with fail
  have hb4 := hbw2.alloc (by omega) (.cells (outCells (.slice x2 evs.length c2) err en at_ u2) 36 (0, 0))
  refine (unhide HT (.slice x1 evs.length c1) u1 ⟨_, _, _, rfl⟩ _ ((unhide HG).below hs hb4) (by simp; omega)).mono ?_
  rintro e w3 ⟨rfl, hb5⟩
  have hz : ∀ k, k ≤ w2.heap.size → w3.heap[k]? = (w2.alloc (.cells (outCells (.slice x2 evs.length c2) err en at_ u2) 36 (0, 0))).heap[k]? := fun k hk => hb5.block k (by simp; omega)
  have he2 : ∀ j, w3.cell? ⟨w1.heap.size, j, none⟩ = [.slice x1 evs.length c1, .int .i64 err, .int .i64 en, .int .i64 at_, .int .i64 u1.ln, .int .i64 u1.co, .slice u1.oa u1.on u1.oc][j]? := fun j => by simp only [World.cell?]; rw [hz _ (by omega), Below.heap_alloc _ _ _ (by omega), hy2]; simp [outCells]
  have he3 : ∀ j, w3.cell? ⟨w2.heap.size, j, none⟩ = [.slice x2 evs.length c2, .int .i64 err, .int .i64 en, .int .i64 at_, .int .i64 u2.ln, .int .i64 u2.co, .slice u2.oa u2.on u2.oc][j]? := fun j => by simp only [World.cell?]; rw [hz _ (by omega), heap_alloc_new]; simp [outCells]
  have hz2 : ∀ k, k < w2.heap.size → w3.heap[k]? = w2.heap[k]? := fun k hk => by rw [hz k (by omega), Below.heap_alloc _ _ _ hk]
  have hs3 : w2.heap.size < w3.heap.size := by have := hb5.size; simp at this; omega
  have HS := hide (same_eq ((unhide HG2).keep fun k hk => hz2 k (by have := (unhide HF1 k hk).2; omega)) ((unhide HG3).keep fun k hk => hz2 k (unhide HF2 k hk).2) (fun k hk => by have := (unhide HF1 k hk).2; omega) (fun k hk => by have := (unhide HF2 k hk).2; omega) err en at_ u1 u2 ((unhide HP1).keep fun k _ hk => by rw [hz2 k (by omega), unhide HGK k hk]) ((unhide HP2).keep fun k _ hk => hz2 k hk) ⟨(unhide P1).1.trans (unhide P2).1.symm, (unhide P1).2.1.trans (unhide P2).2.1.symm, (unhide P1).2.2.trans (unhide P2).2.2.symm⟩)
  have hfin : Below w.heap.size w w3 := hb4.trans (hb5.mono (by simp; omega))
  clear hb4 hb5 hz hz2 hy1 hy2 hd1 hd2 hst HG2 HG3 HF1 HF2 HT
  go_wp2_with fail
  refine (unhide HS).mono ?_
  rintro e w4 ⟨rfl, hb6⟩
  go_wp2
  go_ret
  exact ⟨rfl, hfin.trans (hb6.mono (by omega))⟩
end Go.Proofs.YtmgfijllcdadgaaGreatDoor
