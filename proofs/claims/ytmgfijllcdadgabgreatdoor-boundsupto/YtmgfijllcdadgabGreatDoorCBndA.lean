/- BndA, BndC -/
import Derived.Test.YtmgfijllcdadgabGreatDoorCBnd1
import Derived.Test.YtmgfijllcdadgabGreatDoorCNest7
import Derived.Test.YtmgfijllcdadgabGreatDoorCNstD
namespace Go.Proofs.YtmgfijllcdadgabGreatDoor
set_option linter.unusedVariables false
set_option linter.unusedSimpArgs false
open Go.RowKit
open Mk (St Bs Ev Att)

theorem PlOk.conv {n : Nat} {w : World} {q : Plc} {s s' : St} (h : PlOk n w q s) (h1 : s.line = s'.line) (h2 : s.column = s'.column) (h3 : s.opn = s'.opn) : PlOk n w q s' :=
  ⟨h.ln.trans h1, h.co.trans h2, by rw [← h3]; exact h.nm⟩
/-- A run of a document under bounds that it keeps. -/
theorem run_alike (d a t : Int) (d1 : 1 ≤ d) (d2 : d ≤ 64) (a1 : 0 ≤ a) (a2 : a ≤ 32) (t1 : 8 ≤ t) (t2 : t ≤ 1024) (D : Bs) (hD : D.length ≤ 1120000) {F : St} (hF : Mk.feedAll (Mk.make_ d a t false) D = sb d a t F) (h0 : F.ended = 0) (hd : Mk.isDocument F = true) (w : World) (hG : Gl w) (hs : 6 < w.heap.size) :
    Calls Tryz.prog 15 #[.agg #[.int .i64 d, .int .i64 a, .int .i64 t, .bool false], .string ⟨D.toArray⟩, .slice none 0 0] w fun e w' => ∃ v fp q, e = .returned (.tuple #[.agg (outCells v 0 0 F.at_ q), .bool true]) ∧ Got w' v (evsOf F) fp ∧ (∀ k ∈ fp, w.heap.size ≤ k ∧ k < w'.heap.size) ∧ Below w.heap.size w w' ∧ PlOk w.heap.size w' q F := by
  have HX := run_any d a t false d1 d2 a1 a2 t1 t2 D [] none 0 hD (by decide) w (fun j hj => by cases hj) (fun c hc => by cases hc) hG hs
  have q := runL_eq d a t false D []
  have p := runL_place d a t false D []
  have e1 : (runL (Mk.make_ d a t false) [] 0 D []).2.1 = evsOf F := by rw [q.1, hF]; rfl
  have e2 : (runL (Mk.make_ d a t false) [] 0 D []).2.2 = 0 := by rw [q.2.1, hF]; exact h0
  have e3 : (runL (Mk.make_ d a t false) [] 0 D []).1.at_ = F.at_ := by rw [q.2.2.1, hF]; rfl
  have e4 : (Mk.close (runL (Mk.make_ d a t false) [] 0 D []).1).2 = 0 := by
    rw [q.2.2.2, hF]
    unfold Mk.close
    rw [if_pos (show (sb d a t F).ended = 0 from h0), if_pos (show Mk.isDocument (sb d a t F) = true from hd)]
  rw [e1, e2, e3, e4] at HX
  refine HX.mono fun e w' ⟨v, fp, q', h1, h2, h3, h4, h5⟩ => ⟨v, fp, q', h1, h2, h3, h4, h5.conv ?_ ?_ ?_⟩
  · rw [p.1, hF]; rfl
  · rw [p.2.1, hF]; rfl
  · rw [p.2.2, hF]; rfl
theorem wide_any (n : Bool) (w : World) :
    Calls Tryz.prog 19 #[.bool n] w fun e w' => e = .returned (.agg #[.int .i64 64, .int .i64 32, .int .i64 1024, .bool n]) ∧ Below w.heap.size w w' := by
  go_enter Tryz.func19, Tryz.ntmps19
  go_wp2
  exact bodyPost_ret (v := .agg #[.int .i64 64, .int .i64 32, .int .i64 1024, .bool n]) (by simp [results, Tryz.results19, go_sem]) rfl ⟨rfl, by repeat (first | exact Below.refl _ _ | refine Below.alloc ?_ (by simp <;> omega) _)⟩
theorem refused_any (d a t : Int) (d1 : 1 ≤ d) (d2 : d ≤ 64) (a1 : 0 ≤ a) (a2 : a ≤ 32) (t1 : 8 ≤ t) (t2 : t ≤ 1024) (D : Bs) (hD : D.length ≤ 1120000) (h7 : (Mk.feedAll (Mk.make_ d a t false) D).ended = 7) (w : World) (hG : Gl w) (hs : 6 < w.heap.size) :
    Calls Tryz.prog 21 #[.agg #[.int .i64 d, .int .i64 a, .int .i64 t, .bool false], .string ⟨D.toArray⟩] w fun e w' => e = .returned (.bool true) ∧ Below w.heap.size w w' := by
  have HX := hide (fun w hG hs => run_any d a t false d1 d2 a1 a2 t1 t2 D [] none 0 hD (by decide) w (fun j hj => by cases hj) (fun c hc => by cases hc) hG hs)
  have q := runL_eq d a t false D []
  have hcl : (Mk.close (Mk.feedAll (Mk.make_ d a t false) D)).2 = 7 := by
    unfold Mk.close
    rw [if_neg (by rw [h7]; decide)]
    exact h7
  have hat : (Mk.feedAll (Mk.make_ d a t false) D).at_ ≤ D.length := by
    rcases feedAll_told D (Mk.make_ d a t false) rfl with ⟨g, _⟩ | ⟨_, g⟩
    · rw [h7] at g; cases g
    · have : (Mk.make_ d a t false).at_ = 0 := rfl
      omega
  rw [q.2.1, q.2.2.1, q.2.2.2, hcl, h7] at HX
  generalize (Mk.feedAll (Mk.make_ d a t false) D).at_ = at_ at *
  generalize (runL (Mk.make_ d a t false) [] 0 D []).2.1 = evs at *
  have e1 : decide (at_ ≤ (D.length : Int)) = true := by simpa using hat
  have HG := hide hG
  clear hG d1 d2 a1 a2 t1 t2 q hcl h7
  go_enter Tryz.func21, Tryz.ntmps21
  go_wp2_with fail
  have hb0 := (Below.refl w.heap.size w).alloc (Nat.le_refl _) (.cells #[.int .i64 d, .int .i64 a, .int .i64 t, .bool false] 25 (0, 0))
  refine (unhide HX _ ((unhide HG).below hs hb0) (by simp; omega)).mono ?_
  rintro e w1 ⟨v1, fp1, u1, rfl, hg1, hf1, hb1, -⟩
  obtain ⟨x1, c1, rfl⟩ := hg1.slice
  have hst := lay_out w1 (.slice x1 evs.length c1) 7 7 at_ u1 ⟨_, _, _, rfl⟩
  have hbw1 : Below w.heap.size w w1 := hb0.trans (hb1.mono (by simp))
  have hs1 := hbw1.size
  have HFI := hide (hbw1.alloc hs1 (.cells (outCells (.slice x1 evs.length c1) 7 7 at_ u1) 38 (0, 0)))
  have hc1 : ∀ j, (w1.alloc (.cells (outCells (.slice x1 evs.length c1) 7 7 at_ u1) 38 (0, 0))).cell? ⟨w1.heap.size, j, none⟩ = [.slice x1 evs.length c1, .int .i64 7, .int .i64 7, .int .i64 at_, .int .i64 u1.ln, .int .i64 u1.co, .slice u1.oa u1.on u1.oc][j]? := fun j => by simp only [World.cell?]; rw [heap_alloc_new]; simp [outCells]
  clear hg1 hf1 hb1 hb0 HX hbw1
  go_wp2
  go_ret
  exact ⟨rfl, unhide HFI⟩
end Go.Proofs.YtmgfijllcdadgabGreatDoor

namespace Go.Proofs.YtmgfijllcdadgabGreatDoor
set_option linter.unusedVariables false
set_option linter.unusedSimpArgs false
open Go.RowKit
open Mk (St Bs Ev Att)

theorem shs_dep : ∀ (l : List Ev) (h H : Sh), shs h l = some H → (0 < h.out → 0 < h.dep) → 0 < H.out → 0 < H.dep
  | [], h, H, e, h0, ho => by cases e; exact h0 ho
  | e :: r, h, H, hs, h0, ho => by
    rw [shs_cons] at hs
    cases h1 : sh1 h e with
    | none => rw [h1] at hs; cases hs
    | some h' =>
      rw [h1] at hs
      refine shs_dep r h' H hs (fun g => ?_) ho
      obtain ⟨_, o, k1, _, rfl⟩ := sh1_inv h1
      dsimp only at g ⊢
      split at g
      · rename_i k
        unfold stk1 at k1
        rw [if_pos k.1] at k1
        cases k1
        simp
        omega
      · have := h0 g
        omega
set_option maxHeartbeats 8000000 in
set_option maxRecDepth 100000 in
theorem bounds_any (a b c : Int) (ha : I64 a) (hb : I64 b) (hc : I64 c) (text : Bs) (hT : text.length ≤ 1048576) (w : World) (hG : Gl w) (hs : 6 < w.heap.size) :
    Calls Tryz.prog 6 #[.int .i64 a, .int .i64 b, .int .i64 c, .string ⟨text.toArray⟩] w fun e w' => e = .returned (.bool true) ∧ Below w.heap.size w w' := by
  have HO := hide (fun w => options_any a b c false ha hb hc w)
  have b1 := pk_bd a 64 (by decide)
  have b2 := pk_bd b 33 (by decide)
  have b3 := pk_bd c 1017 (by decide)
  obtain ⟨d, hd⟩ : ∃ d, d = 1 + pk a 64 := ⟨_, rfl⟩
  obtain ⟨m, hm⟩ : ∃ m, m = pk b 33 := ⟨_, rfl⟩
  obtain ⟨t, ht⟩ : ∃ t, t = 8 + pk c 1017 := ⟨_, rfl⟩
  rw [← hd, ← hm, ← ht] at HO
  have d1 : 1 ≤ d := by omega
  have d2 : d ≤ 64 := by omega
  have a1 : 0 ≤ m := by omega
  have a2 : m ≤ 32 := by omega
  have t1 : 8 ≤ t := by omega
  have t2 : t ≤ 1024 := by omega
  clear hd hm ht b1 b2 b3 ha hb hc
  have hdoc := compl_doc d m t d1 t1 a2 text
  have hisd := compl_isDoc d m t d1 t1 a2 text
  have hDl : (compl (Mk.make_ d m t false) text).length ≤ 1119000 := by
    have h1 := upTo_len (Mk.make_ d m t false) text
    have h2 := rest_short (W_text d m t false d1 t1 a2 text) (by rw [(opts_feedAll d m t false _).1]; exact d2) (by rw [(opts_feedAll d m t false _).2.1]; exact t2)
    unfold compl
    rw [List.length_append]
    have := h2.1
    omega
  have HCP := hide (fun w hG hs => completed_any d m t false d1 d2 a1 a2 t1 t2 text hT w hG hs)
  generalize compl (Mk.make_ d m t false) text = D at *
  obtain ⟨H, hs1, hs2, hs3, hs4, hs5, hs6, hs7, hs8, hs9⟩ := evs_doc d m t d1 t1 a1 a2 D (by omega) hdoc.1 hisd
  have hdep : 0 < H.dep := shs_dep _ _ _ hs1 (fun g => absurd g (by decide)) (by omega)
  rw [hs7] at hs1 hs9
  have hsl := hs1
  obtain ⟨F, hF⟩ : ∃ F, F = Mk.feedAll (Mk.make_ d m t false) D := ⟨_, rfl⟩
  have henough : ∀ d' a' t' : Int, (H.dep : Int) ≤ d' → (H.att : Int) ≤ a' → (H.tok : Int) ≤ t' → Mk.feedAll (Mk.make_ d' a' t' false) D = sb d' a' t' F := fun d' a' t' g1 g2 g3 => by
    rw [hF]; exact doc_enough d1 t1 a1 a2 D hdoc.1 hisd hsl g1 g2 g3
  have hless : ∀ d' a' t' : Int, 1 ≤ d' → 0 ≤ a' → 8 ≤ t' → a' ≤ 32 → ¬ ((H.dep : Int) ≤ d' ∧ (H.att : Int) ≤ a' ∧ (H.tok : Int) ≤ t') → (Mk.feedAll (Mk.make_ d' a' t' false) D).ended = 7 := fun d' a' t' k1 k2 k3 k4 hn => doc_less d1 t1 a1 a2 D hdoc.1 hisd hsl k1 k2 k3 k4 hn
  have hF0 : F.ended = 0 := by rw [hF]; exact hdoc.1
  have hFd : Mk.isDocument F = true := by rw [hF]; exact hisd
  rw [← hs7, ← hF] at hs1
  rw [← hF] at hs8
  rw [← hs7, ← hF] at hs9
  have hevl : (evsOf F).length ≤ 1000000000 := by rw [hF, hs7, ← hF]; exact hs8
  have HRUN := hide (fun (d' a' t' : Int) (k1 : 1 ≤ d') (k2 : d' ≤ 64) (k3 : 0 ≤ a') (k4 : a' ≤ 32) (k5 : 8 ≤ t') (k6 : t' ≤ 1024) g1 g2 g3 (w : World) hG hs => run_alike d' a' t' k1 k2 k3 k4 k5 k6 D (by omega) (henough d' a' t' g1 g2 g3) hF0 hFd w hG hs)
  have HREF := hide (fun (d' a' t' : Int) (k1 : 1 ≤ d') (k2 : d' ≤ 64) (k3 : 0 ≤ a') (k4 : a' ≤ 32) (k5 : 8 ≤ t') (k6 : t' ≤ 1024) hn (w : World) hG hs => refused_any d' a' t' k1 k2 k3 k4 k5 k6 D (by omega) (hless d' a' t' k1 k3 k5 k4 hn) w hG hs)
  have HSH := hide (fun (w' : World) (v : Value) (fp : List Nat) (hg : Got w' v (evsOf F) fp) hfp => shape_any hg hfp hs1 hs2 hs3 hevl hs9)
  have HG := hide hG
  clear hG hs1 hs2 hs3 hs7 hs8 hs9 hsl henough hless hF0 hFd hdoc hisd hF hevl
  go_enter Tryz.func6, Tryz.ntmps6
  go_wp2_with fail
  refine (unhide HO _).mono ?_
  rintro e w1 ⟨rfl, hb1⟩
  go_wp2_with fail
  have hs1 := hb1.size
  obtain ⟨W1, hW1⟩ : ∃ W1, W1 = w1.alloc (.cells #[.int .i64 d, .int .i64 m, .int .i64 t, .bool false] 25 (0, 0)) := ⟨_, rfl⟩
  have hbW1 : Below w.heap.size w W1 := by rw [hW1]; exact hb1.alloc hs1 _
  have hx1 : W1.heap[w1.heap.size]? = some (.cells #[.int .i64 d, .int .i64 m, .int .i64 t, .bool false] 25 (0, 0)) := by rw [hW1]; exact heap_alloc_new w1 _
  have hxs1 : w1.heap.size < W1.heap.size := (Array.getElem?_eq_some_iff.1 hx1).1
  refine (unhide HCP _ ((unhide HG).below hs (by rw [← hW1]; exact hbW1)) (by rw [← hW1]; omega)).mono ?_
  rintro e w2 ⟨rfl, hb2⟩
  rw [← hW1] at hb2
  have hs2 := hb2.size
  have hbw2 : Below w.heap.size w w2 := hbW1.trans (hb2.mono (by omega))
  have hx2 : w2.heap[w1.heap.size]? = some (.cells #[.int .i64 d, .int .i64 m, .int .i64 t, .bool false] 25 (0, 0)) := (hb2.block _ (by omega)).trans hx1
  have hc2 : ∀ j, w2.cell? ⟨w1.heap.size, j, none⟩ = [.int .i64 d, .int .i64 m, .int .i64 t, .bool false][j]? := fun j => by simp [World.cell?, hx2]
  clear hW1 hx1 hb2 hb1 hbW1 HCP HO
  go_wp2_with fail
  refine (unhide HRUN d m t d1 d2 a1 a2 t1 t2 hs4 hs5 hs6 _ ((unhide HG).below hs hbw2) (by have := hbw2.size; omega)).mono ?_
  rintro e w3 ⟨v1, fp1, q1, rfl, hg1, hf1, hb3, hp1⟩
  obtain ⟨x1, c1, rfl⟩ := hg1.slice
  have hst1 := lay_out w3 (.slice x1 (evsOf F).length c1) 0 0 F.at_ q1 ⟨_, _, _, rfl⟩
  have hs3 := hb3.size
  have hbw3 : Below w.heap.size w w3 := hbw2.trans (hb3.mono (by omega))
  clear hx2 hc2 hbw2
  obtain ⟨W3, hW3⟩ : ∃ W3, W3 = w3.alloc (.cells (outCells (.slice x1 (evsOf F).length c1) 0 0 F.at_ q1) 38 (0, 0)) := ⟨_, rfl⟩
  rw [← hW3] at hst1
  have hx3 : W3.heap[w3.heap.size]? = some (.cells (outCells (.slice x1 (evsOf F).length c1) 0 0 F.at_ q1) 38 (0, 0)) := by rw [hW3]; exact heap_alloc_new w3 _
  have hc3 : ∀ j, W3.cell? ⟨w3.heap.size, j, none⟩ = [.slice x1 (evsOf F).length c1, .int .i64 0, .int .i64 0, .int .i64 F.at_, .int .i64 q1.ln, .int .i64 q1.co, .slice q1.oa q1.on q1.oc][j]? := fun j => by simp [World.cell?, hx3, outCells]
  have hbW3 : Below w.heap.size w W3 := by rw [hW3]; exact hbw3.alloc (by omega) _
  have hxs3 : w3.heap.size < W3.heap.size := (Array.getElem?_eq_some_iff.1 hx3).1
  have hg13 : Got W3 (.slice x1 (evsOf F).length c1) (evsOf F) fp1 := hg1.keep fun k hk => by rw [hW3]; exact Below.heap_alloc _ _ _ (hf1 k hk).2
  have hp13 : PlOk w2.heap.size W3 q1 F := hp1.keep fun k _ hk => by rw [hW3]; exact Below.heap_alloc _ _ _ hk
  have HS1 := hide (unhide HSH W3 _ fp1 hg13 (fun k hk => by have := (hf1 k hk).2; omega))
  have HG1 := hide (And.intro hg13 (And.intro (fun k hk => (hf1 k hk).2) hp13))
  have HFN := hide (fun w => fine_yes (.slice x1 (evsOf F).length c1) F.at_ q1 ⟨_, _, _, rfl⟩ w)
  clear hW3 hg1 hg13 hf1 hb3 hp1 hp13 hbw3
  go_wp2_with fail
  refine (unhide HS1).mono ?_
  rintro e w4 ⟨rfl, hb4⟩
  have hs4' := hb4.size
  have hx4 : w4.heap[w3.heap.size]? = some (.cells (outCells (.slice x1 (evsOf F).length c1) 0 0 F.at_ q1) 38 (0, 0)) := (hb4.block _ hxs3).trans hx3
  have hc4 : ∀ j, w4.cell? ⟨w3.heap.size, j, none⟩ = [.slice x1 (evsOf F).length c1, .int .i64 0, .int .i64 0, .int .i64 F.at_, .int .i64 q1.ln, .int .i64 q1.co, .slice q1.oa q1.on q1.oc][j]? := fun j => by simp [World.cell?, hx4, outCells]
  have hbw4 : Below w.heap.size w w4 := hbW3.trans (hb4.mono (by omega))
  have hk4 : ∀ k, k < W3.heap.size → w4.heap[k]? = W3.heap[k]? := hb4.block
  clear hx3 hc3 hb4 hbW3 HS1
  go_wp2_with fail
  refine (unhide HFN _).mono ?_
  rintro e w5 ⟨rfl, hb5⟩
  have hs5' := hb5.size
  have hx5 : w5.heap[w3.heap.size]? = some (.cells (outCells (.slice x1 (evsOf F).length c1) 0 0 F.at_ q1) 38 (0, 0)) := (hb5.block _ (by omega)).trans hx4
  have hc5 : ∀ j, w5.cell? ⟨w3.heap.size, j, none⟩ = [.slice x1 (evsOf F).length c1, .int .i64 0, .int .i64 0, .int .i64 F.at_, .int .i64 q1.ln, .int .i64 q1.co, .slice q1.oa q1.on q1.oc][j]? := fun j => by simp [World.cell?, hx5, outCells]
  have hbw5 : Below w.heap.size w w5 := hbw4.trans (hb5.mono (by omega))
  have hk5 : ∀ k, k < W3.heap.size → w5.heap[k]? = W3.heap[k]? := fun k hk => (hb5.block k (by omega)).trans (hk4 k hk)
  clear hx4 hc4 hb5 hbw4 hk4 HFN
  have HLG := hide (fun w => larger_any H.tok 8 w)
  go_wp2_with fail
  refine (unhide HLG _).mono ?_
  rintro e w6 ⟨rfl, rfl⟩
  obtain ⟨t', ht'⟩ : ∃ t' : Int, t' = ((max H.tok 8 : Nat) : Int) := ⟨_, rfl⟩
  have t'1 : 8 ≤ t' := by omega
  have t'2 : t' ≤ 1024 := by omega
  have t'3 : (H.tok : Int) ≤ t' := by omega
  have t'4 : 8 < (H.tok : Int) → t' = (H.tok : Int) := by omega
  rw [← ht']
  clear ht' HLG
  go_wp2_with fail
  -- Y
  obtain ⟨W6, hW6⟩ : ∃ W6, W6 = w6.alloc (.cells #[.int .i64 (H.dep : Int), .int .i64 (H.att : Int), .int .i64 t', .bool false] 25 (0, 0)) := ⟨_, rfl⟩
  have hbW6 : Below w.heap.size w W6 := by rw [hW6]; exact hbw5.alloc (by omega) _
  have hy6 : W6.heap[w6.heap.size]? = some (.cells #[.int .i64 (H.dep : Int), .int .i64 (H.att : Int), .int .i64 t', .bool false] 25 (0, 0)) := by rw [hW6]; exact heap_alloc_new w6 _
  have hys6 : w6.heap.size < W6.heap.size := (Array.getElem?_eq_some_iff.1 hy6).1
  have hk6 : ∀ k, k < w6.heap.size → W6.heap[k]? = w6.heap[k]? := fun k hk => by rw [hW6]; exact Below.heap_alloc _ _ _ hk
  rw [← hW6]
  refine (unhide HRUN (H.dep : Int) (H.att : Int) t' (by omega) (by omega) (by omega) (by omega) t'1 t'2 (Int.le_refl _) (Int.le_refl _) t'3 W6 ((unhide HG).below hs hbW6) (by have := hbW6.size; omega)).mono ?_
  rintro e w7 ⟨v2, fp2, q2, rfl, hg2, hf2, hb7, hp2⟩
  obtain ⟨x2, c2, rfl⟩ := hg2.slice
  have hst2 := lay_out w7 (.slice x2 (evsOf F).length c2) 0 0 F.at_ q2 ⟨_, _, _, rfl⟩
  have hs7 := hb7.size
  have hbw7 : Below w.heap.size w w7 := hbW6.trans (hb7.mono (by omega))
  obtain ⟨W7, hW7⟩ : ∃ W7, W7 = w7.alloc (.cells (outCells (.slice x2 (evsOf F).length c2) 0 0 F.at_ q2) 38 (0, 0)) := ⟨_, rfl⟩
  rw [← hW7] at hst2
  have hx7 : W7.heap[w7.heap.size]? = some (.cells (outCells (.slice x2 (evsOf F).length c2) 0 0 F.at_ q2) 38 (0, 0)) := by rw [hW7]; exact heap_alloc_new w7 _
  have hbW7 : Below w.heap.size w W7 := by rw [hW7]; exact hbw7.alloc (by omega) _
  have hxs7 : w7.heap.size < W7.heap.size := (Array.getElem?_eq_some_iff.1 hx7).1
  have hk7 : ∀ k, k < W6.heap.size → W7.heap[k]? = W6.heap[k]? := fun k hk => by rw [hW7, Below.heap_alloc _ _ _ (by omega)]; exact hb7.block k hk
  have hg27 : Got W7 (.slice x2 (evsOf F).length c2) (evsOf F) fp2 := hg2.keep fun k hk => by rw [hW7]; exact Below.heap_alloc _ _ _ (hf2 k hk).2
  have hp27 : PlOk W6.heap.size W7 q2 F := hp2.keep fun k _ hk => by rw [hW7]; exact Below.heap_alloc _ _ _ hk
  have HG2 := hide (And.intro hg27 (And.intro (fun k hk => (hf2 k hk).2) hp27))
  have HK5 := hide (And.intro hx5 hk5)
  clear hW7 hW6 hg2 hg27 hf2 hb7 hp2 hp27 hbw7 hbW6 hc5 hx5 hk5
  go_wp2_with fail
  refine (wide_any false _).mono ?_
  rintro e w8 ⟨rfl, hb8⟩
  have hs8 := hb8.size
  have hbw8 : Below w.heap.size w w8 := hbW7.trans (hb8.mono (by omega))
  go_wp2_with fail
  refine (unhide HRUN 64 32 1024 (by decide) (by decide) (by decide) (by decide) (by decide) (by decide) (by omega) (by omega) (by omega) _ ((unhide HG).below hs hbw8) (by have := hbw8.size; omega)).mono ?_
  rintro e w9 ⟨v3, fp3, q3, rfl, hg3, hf3, hb9, hp3⟩
  obtain ⟨x3, c3, rfl⟩ := hg3.slice
  have hst3 := lay_out w9 (.slice x3 (evsOf F).length c3) 0 0 F.at_ q3 ⟨_, _, _, rfl⟩
  have hs9 := hb9.size
  have hbw9 : Below w.heap.size w w9 := hbw8.trans (hb9.mono (by omega))
  obtain ⟨W9, hW9⟩ : ∃ W9, W9 = w9.alloc (.cells (outCells (.slice x3 (evsOf F).length c3) 0 0 F.at_ q3) 38 (0, 0)) := ⟨_, rfl⟩
  rw [← hW9] at hst3
  have hz9 : W9.heap[w9.heap.size]? = some (.cells (outCells (.slice x3 (evsOf F).length c3) 0 0 F.at_ q3) 38 (0, 0)) := by rw [hW9]; exact heap_alloc_new w9 _
  have hbW9 : Below w.heap.size w W9 := by rw [hW9]; exact hbw9.alloc (by omega) _
  have hzs9 : w9.heap.size < W9.heap.size := (Array.getElem?_eq_some_iff.1 hz9).1
  have hk9 : ∀ k, k < W7.heap.size → W9.heap[k]? = W7.heap[k]? := fun k hk => by rw [hW9, Below.heap_alloc _ _ _ (by omega), hb9.block k (by omega)]; exact hb8.block k hk
  have hg39 : Got W9 (.slice x3 (evsOf F).length c3) (evsOf F) fp3 := hg3.keep fun k hk => by rw [hW9]; exact Below.heap_alloc _ _ _ (hf3 k hk).2
  have hp39 : PlOk w8.heap.size W9 q3 F := hp3.keep fun k _ hk => by rw [hW9]; exact Below.heap_alloc _ _ _ hk
  have hf39 : ∀ k ∈ fp3, k < W9.heap.size := fun k hk => by have := (hf3 k hk).2; omega
  -- all three in W9
  have hA := unhide HG1
  have hB := unhide HG2
  have hx9 : W9.heap[w3.heap.size]? = some (.cells (outCells (.slice x1 (evsOf F).length c1) 0 0 F.at_ q1) 38 (0, 0)) := by rw [hk9 _ (by omega), hk7 _ (by omega), hk6 _ (by omega)]; exact (unhide HK5).1
  have hy9 : W9.heap[w7.heap.size]? = some (.cells (outCells (.slice x2 (evsOf F).length c2) 0 0 F.at_ q2) 38 (0, 0)) := by rw [hk9 _ hxs7]; exact hx7
  have hj9 : W9.heap[w6.heap.size]? = some (.cells #[.int .i64 (H.dep : Int), .int .i64 (H.att : Int), .int .i64 t', .bool false] 25 (0, 0)) := by rw [hk9 _ (by omega), hk7 _ (by omega)]; exact hy6
  have hk39 : ∀ k, k < W3.heap.size → W9.heap[k]? = W3.heap[k]? := fun k hk => by rw [hk9 _ (by omega), hk7 _ (by omega), hk6 _ (by omega)]; exact (unhide HK5).2 k hk
  have hf1' : ∀ k ∈ fp1, k < W3.heap.size := fun k hk => by have := hA.2.1 k hk; omega
  have hf2' : ∀ k ∈ fp2, k < W7.heap.size := fun k hk => by have := hB.2.1 k hk; omega
  have hg19 : Got W9 (.slice x1 (evsOf F).length c1) (evsOf F) fp1 := hA.1.keep fun k hk => hk39 k (hf1' k hk)
  have hg29 : Got W9 (.slice x2 (evsOf F).length c2) (evsOf F) fp2 := hB.1.keep fun k hk => hk9 k (hf2' k hk)
  have hp19 : PlOk w2.heap.size W9 q1 F := hA.2.2.keep fun k _ hk => hk39 k hk
  have hp29 : PlOk W6.heap.size W9 q2 F := hB.2.2.keep fun k _ hk => hk9 k hk
  have hf19 : ∀ k ∈ fp1, k < W9.heap.size := fun k hk => by have := hf1' k hk; omega
  have hf29 : ∀ k ∈ fp2, k < W9.heap.size := fun k hk => by have := hf2' k hk; omega
  have HSA := hide (same_eq hg19 hg29 hf19 hf29 0 0 F.at_ q1 q2 hp19 hp29 ⟨rfl, rfl, rfl⟩)
  have HSB := hide (fun (W : World) (hb : Below W9.heap.size W9 W) => same_eq (w := W) (hg19.keep fun k hk => hb.block k (hf19 k hk)) (hg39.keep fun k hk => hb.block k (hf39 k hk)) (fun k hk => by have := hf19 k hk; have := hb.size; omega) (fun k hk => by have := hf39 k hk; have := hb.size; omega) 0 0 F.at_ q1 q3 (hp19.keep fun k _ hk => hb.block k hk) (hp39.keep fun k _ hk => hb.block k hk) ⟨rfl, rfl, rfl⟩)
  have hcx9 : ∀ j, W9.cell? ⟨w3.heap.size, j, none⟩ = [.slice x1 (evsOf F).length c1, .int .i64 0, .int .i64 0, .int .i64 F.at_, .int .i64 q1.ln, .int .i64 q1.co, .slice q1.oa q1.on q1.oc][j]? := fun j => by simp [World.cell?, hx9, outCells]
  have hcy9 : ∀ j, W9.cell? ⟨w7.heap.size, j, none⟩ = [.slice x2 (evsOf F).length c2, .int .i64 0, .int .i64 0, .int .i64 F.at_, .int .i64 q2.ln, .int .i64 q2.co, .slice q2.oa q2.on q2.oc][j]? := fun j => by simp [World.cell?, hy9, outCells]
  have l1 : w3.heap.size < W9.heap.size := by omega
  have l2 : w7.heap.size < W9.heap.size := by omega
  have l3 : w6.heap.size < W9.heap.size := by omega
  have HZ9 := hide hz9
  have HX9 := hide hx9
  have HJ9 := hide hj9
  clear hW9 hg3 hg39 hf3 hf39 hb9 hp3 hp39 hbw9 hbw8 hb8 hA hB hx9 hy9 hk39 hf1' hf2' hg19 hg29 hp19 hp29 hf19 hf29 HG1 HG2 hz9 hj9 hk9 hk7 hk6 hx7 hy6 HK5 hbW7
  go_wp2_with fail
  refine (unhide HSA).mono ?_
  rintro e w10 ⟨rfl, hb10⟩
  have hs10 := hb10.size
  have hx10 : w10.heap[w3.heap.size]? = _ := (hb10.block _ l1).trans (unhide HX9)
  have hz10 : w10.heap[w9.heap.size]? = _ := (hb10.block _ hzs9).trans (unhide HZ9)
  have hcx10 : ∀ j, w10.cell? ⟨w3.heap.size, j, none⟩ = [.slice x1 (evsOf F).length c1, .int .i64 0, .int .i64 0, .int .i64 F.at_, .int .i64 q1.ln, .int .i64 q1.co, .slice q1.oa q1.on q1.oc][j]? := fun j => by simp [World.cell?, hx10, outCells]
  have hcz10 : ∀ j, w10.cell? ⟨w9.heap.size, j, none⟩ = [.slice x3 (evsOf F).length c3, .int .i64 0, .int .i64 0, .int .i64 F.at_, .int .i64 q3.ln, .int .i64 q3.co, .slice q3.oa q3.on q3.oc][j]? := fun j => by simp [World.cell?, hz10, outCells]
  have HS10 := hide (unhide HSB w10 hb10)
  have l4 : w3.heap.size < w10.heap.size := by omega
  have l5 : w9.heap.size < w10.heap.size := by omega
  have HB10 := hide hb10
  clear hcx9 hcy9 hx10 hz10 HSA HSB hb10
  go_wp2_with fail
  refine (unhide HS10).mono ?_
  rintro e w11 ⟨rfl, hb11⟩
  have hs11 := hb11.size
  have hbw11 : Below w.heap.size w w11 := (hbW9.trans ((unhide HB10).mono (by omega))).trans (hb11.mono (by omega))
  have hj11 : w11.heap[w6.heap.size]? = some (.cells #[.int .i64 (H.dep : Int), .int .i64 (H.att : Int), .int .i64 t', .bool false] 25 (0, 0)) := by rw [hb11.block _ (by omega), (unhide HB10).block _ l3]; exact unhide HJ9
  have l6 : w6.heap.size < w11.heap.size := by omega
  have hw11 := hbw11.size
  have l7 : w.heap.size ≤ w6.heap.size := by omega
  clear hcx10 hcz10 HS10 HB10 hb11 hbW9 HX9 HZ9 HJ9 hst1 hst2 hst3
  obtain ⟨wz, hwz⟩ : ∃ wz, wz = w11 := ⟨_, rfl⟩
  subst hwz
  have hbwz := hbw11
  have hjwz := hj11
  clear hbw11 hj11
  by_cases g0 : 1 < H.dep
  · have e0 : decide ((1 : Int) < (H.dep : Int)) = true := by simp; omega
    have hcjwz : ∀ j, wz.cell? ⟨w6.heap.size, j, none⟩ = [.int .i64 (H.dep : Int), .int .i64 (H.att : Int), .int .i64 t', .bool false][j]? := fun j => by simp [World.cell?, hjwz]
    go_wp2_with fail
    have hawza := hbwz.alloc (by omega) (.cells #[.int .i64 ((H.dep : Int) - 1), .int .i64 (H.att : Int), .int .i64 t', .bool false] 25 (0, 0))
    refine (unhide HREF ((H.dep : Int) - 1) (H.att : Int) t' (by omega) (by omega) (by omega) (by omega) t'1 t'2 (fun g => by omega) _ ((unhide HG).below hs hawza) (by have := hawza.size; omega)).mono ?_
    rintro e wza ⟨rfl, hzwza⟩
    have hbwza : Below w.heap.size w wza := hawza.trans (hzwza.mono (by simp; omega))
    have hjwza : wza.heap[w6.heap.size]? = some (.cells #[.int .i64 (H.dep : Int), .int .i64 (H.att : Int), .int .i64 t', .bool false] 25 (0, 0)) := by rw [hzwza.block _ (by simp; omega), Below.heap_alloc _ _ _ (by omega)]; exact hjwz
    have lwza : w6.heap.size < wza.heap.size := (Array.getElem?_eq_some_iff.1 hjwza).1
    clear hcjwz hzwza hawza
    by_cases g1 : 0 < H.att
    · have e1 : decide ((0 : Int) < (H.att : Int)) = true := by simp; omega
      have e1' : decide (0 < H.att) = true := by simp; omega
      have hcjwza : ∀ j, wza.cell? ⟨w6.heap.size, j, none⟩ = [.int .i64 (H.dep : Int), .int .i64 (H.att : Int), .int .i64 t', .bool false][j]? := fun j => by simp [World.cell?, hjwza]
      go_wp2_with fail
      have hawzab := hbwza.alloc (by omega) (.cells #[.int .i64 (H.dep : Int), .int .i64 ((H.att : Int) - 1), .int .i64 t', .bool false] 25 (0, 0))
      refine (unhide HREF (H.dep : Int) ((H.att : Int) - 1) t' (by omega) (by omega) (by omega) (by omega) t'1 t'2 (fun g => by omega) _ ((unhide HG).below hs hawzab) (by have := hawzab.size; omega)).mono ?_
      rintro e wzab ⟨rfl, hzwzab⟩
      have hbwzab : Below w.heap.size w wzab := hawzab.trans (hzwzab.mono (by simp; omega))
      have hjwzab : wzab.heap[w6.heap.size]? = some (.cells #[.int .i64 (H.dep : Int), .int .i64 (H.att : Int), .int .i64 t', .bool false] 25 (0, 0)) := by rw [hzwzab.block _ (by simp; omega), Below.heap_alloc _ _ _ (by omega)]; exact hjwza
      have lwzab : w6.heap.size < wzab.heap.size := (Array.getElem?_eq_some_iff.1 hjwzab).1
      clear hcjwza hzwzab hawzab
      by_cases g2 : 8 < H.tok
      · have e2 : decide ((8 : Int) < (H.tok : Int)) = true := by simp; omega
        have hcjwzab : ∀ j, wzab.cell? ⟨w6.heap.size, j, none⟩ = [.int .i64 (H.dep : Int), .int .i64 (H.att : Int), .int .i64 t', .bool false][j]? := fun j => by simp [World.cell?, hjwzab]
        go_wp2_with fail
        have hawzabc := hbwzab.alloc (by omega) (.cells #[.int .i64 (H.dep : Int), .int .i64 (H.att : Int), .int .i64 ((H.tok : Int) - 1), .bool false] 25 (0, 0))
        refine (unhide HREF (H.dep : Int) (H.att : Int) ((H.tok : Int) - 1) (by omega) (by omega) (by omega) (by omega) (by omega) (by omega) (fun g => by omega) _ ((unhide HG).below hs hawzabc) (by have := hawzabc.size; omega)).mono ?_
        rintro e wzabc ⟨rfl, hzwzabc⟩
        have hbwzabc : Below w.heap.size w wzabc := hawzabc.trans (hzwzabc.mono (by simp; omega))
        have hjwzabc : wzabc.heap[w6.heap.size]? = some (.cells #[.int .i64 (H.dep : Int), .int .i64 (H.att : Int), .int .i64 t', .bool false] 25 (0, 0)) := by rw [hzwzabc.block _ (by simp; omega), Below.heap_alloc _ _ _ (by omega)]; exact hjwzab
        have lwzabc : w6.heap.size < wzabc.heap.size := (Array.getElem?_eq_some_iff.1 hjwzabc).1
        clear hcjwzab hzwzabc hawzabc
        go_wp2
        go_ret
        exact ⟨rfl, hbwzabc⟩
      · have e2 : decide ((8 : Int) < (H.tok : Int)) = false := by simp; omega
        go_wp2
        go_ret
        exact ⟨rfl, hbwzab⟩
    · have e1 : decide ((0 : Int) < (H.att : Int)) = false := by simp; omega
      have e1' : decide (0 < H.att) = false := by simp; omega
      by_cases g2 : 8 < H.tok
      · have e2 : decide ((8 : Int) < (H.tok : Int)) = true := by simp; omega
        have hcjwza : ∀ j, wza.cell? ⟨w6.heap.size, j, none⟩ = [.int .i64 (H.dep : Int), .int .i64 (H.att : Int), .int .i64 t', .bool false][j]? := fun j => by simp [World.cell?, hjwza]
        go_wp2_with fail
        have hawzac := hbwza.alloc (by omega) (.cells #[.int .i64 (H.dep : Int), .int .i64 (H.att : Int), .int .i64 ((H.tok : Int) - 1), .bool false] 25 (0, 0))
        refine (unhide HREF (H.dep : Int) (H.att : Int) ((H.tok : Int) - 1) (by omega) (by omega) (by omega) (by omega) (by omega) (by omega) (fun g => by omega) _ ((unhide HG).below hs hawzac) (by have := hawzac.size; omega)).mono ?_
        rintro e wzac ⟨rfl, hzwzac⟩
        have hbwzac : Below w.heap.size w wzac := hawzac.trans (hzwzac.mono (by simp; omega))
        have hjwzac : wzac.heap[w6.heap.size]? = some (.cells #[.int .i64 (H.dep : Int), .int .i64 (H.att : Int), .int .i64 t', .bool false] 25 (0, 0)) := by rw [hzwzac.block _ (by simp; omega), Below.heap_alloc _ _ _ (by omega)]; exact hjwza
        have lwzac : w6.heap.size < wzac.heap.size := (Array.getElem?_eq_some_iff.1 hjwzac).1
        clear hcjwza hzwzac hawzac
        go_wp2
        go_ret
        exact ⟨rfl, hbwzac⟩
      · have e2 : decide ((8 : Int) < (H.tok : Int)) = false := by simp; omega
        go_wp2
        go_ret
        exact ⟨rfl, hbwza⟩
  · have e0 : decide ((1 : Int) < (H.dep : Int)) = false := by simp; omega
    by_cases g1 : 0 < H.att
    · have e1 : decide ((0 : Int) < (H.att : Int)) = true := by simp; omega
      have e1' : decide (0 < H.att) = true := by simp; omega
      have hcjwz : ∀ j, wz.cell? ⟨w6.heap.size, j, none⟩ = [.int .i64 (H.dep : Int), .int .i64 (H.att : Int), .int .i64 t', .bool false][j]? := fun j => by simp [World.cell?, hjwz]
      go_wp2_with fail
      have hawzb := hbwz.alloc (by omega) (.cells #[.int .i64 (H.dep : Int), .int .i64 ((H.att : Int) - 1), .int .i64 t', .bool false] 25 (0, 0))
      refine (unhide HREF (H.dep : Int) ((H.att : Int) - 1) t' (by omega) (by omega) (by omega) (by omega) t'1 t'2 (fun g => by omega) _ ((unhide HG).below hs hawzb) (by have := hawzb.size; omega)).mono ?_
      rintro e wzb ⟨rfl, hzwzb⟩
      have hbwzb : Below w.heap.size w wzb := hawzb.trans (hzwzb.mono (by simp; omega))
      have hjwzb : wzb.heap[w6.heap.size]? = some (.cells #[.int .i64 (H.dep : Int), .int .i64 (H.att : Int), .int .i64 t', .bool false] 25 (0, 0)) := by rw [hzwzb.block _ (by simp; omega), Below.heap_alloc _ _ _ (by omega)]; exact hjwz
      have lwzb : w6.heap.size < wzb.heap.size := (Array.getElem?_eq_some_iff.1 hjwzb).1
      clear hcjwz hzwzb hawzb
      by_cases g2 : 8 < H.tok
      · have e2 : decide ((8 : Int) < (H.tok : Int)) = true := by simp; omega
        have hcjwzb : ∀ j, wzb.cell? ⟨w6.heap.size, j, none⟩ = [.int .i64 (H.dep : Int), .int .i64 (H.att : Int), .int .i64 t', .bool false][j]? := fun j => by simp [World.cell?, hjwzb]
        go_wp2_with fail
        have hawzbc := hbwzb.alloc (by omega) (.cells #[.int .i64 (H.dep : Int), .int .i64 (H.att : Int), .int .i64 ((H.tok : Int) - 1), .bool false] 25 (0, 0))
        refine (unhide HREF (H.dep : Int) (H.att : Int) ((H.tok : Int) - 1) (by omega) (by omega) (by omega) (by omega) (by omega) (by omega) (fun g => by omega) _ ((unhide HG).below hs hawzbc) (by have := hawzbc.size; omega)).mono ?_
        rintro e wzbc ⟨rfl, hzwzbc⟩
        have hbwzbc : Below w.heap.size w wzbc := hawzbc.trans (hzwzbc.mono (by simp; omega))
        have hjwzbc : wzbc.heap[w6.heap.size]? = some (.cells #[.int .i64 (H.dep : Int), .int .i64 (H.att : Int), .int .i64 t', .bool false] 25 (0, 0)) := by rw [hzwzbc.block _ (by simp; omega), Below.heap_alloc _ _ _ (by omega)]; exact hjwzb
        have lwzbc : w6.heap.size < wzbc.heap.size := (Array.getElem?_eq_some_iff.1 hjwzbc).1
        clear hcjwzb hzwzbc hawzbc
        go_wp2
        go_ret
        exact ⟨rfl, hbwzbc⟩
      · have e2 : decide ((8 : Int) < (H.tok : Int)) = false := by simp; omega
        go_wp2
        go_ret
        exact ⟨rfl, hbwzb⟩
    · have e1 : decide ((0 : Int) < (H.att : Int)) = false := by simp; omega
      have e1' : decide (0 < H.att) = false := by simp; omega
      by_cases g2 : 8 < H.tok
      · have e2 : decide ((8 : Int) < (H.tok : Int)) = true := by simp; omega
        have hcjwz : ∀ j, wz.cell? ⟨w6.heap.size, j, none⟩ = [.int .i64 (H.dep : Int), .int .i64 (H.att : Int), .int .i64 t', .bool false][j]? := fun j => by simp [World.cell?, hjwz]
        go_wp2_with fail
        have hawzc := hbwz.alloc (by omega) (.cells #[.int .i64 (H.dep : Int), .int .i64 (H.att : Int), .int .i64 ((H.tok : Int) - 1), .bool false] 25 (0, 0))
        refine (unhide HREF (H.dep : Int) (H.att : Int) ((H.tok : Int) - 1) (by omega) (by omega) (by omega) (by omega) (by omega) (by omega) (fun g => by omega) _ ((unhide HG).below hs hawzc) (by have := hawzc.size; omega)).mono ?_
        rintro e wzc ⟨rfl, hzwzc⟩
        have hbwzc : Below w.heap.size w wzc := hawzc.trans (hzwzc.mono (by simp; omega))
        have hjwzc : wzc.heap[w6.heap.size]? = some (.cells #[.int .i64 (H.dep : Int), .int .i64 (H.att : Int), .int .i64 t', .bool false] 25 (0, 0)) := by rw [hzwzc.block _ (by simp; omega), Below.heap_alloc _ _ _ (by omega)]; exact hjwz
        have lwzc : w6.heap.size < wzc.heap.size := (Array.getElem?_eq_some_iff.1 hjwzc).1
        clear hcjwz hzwzc hawzc
        go_wp2
        go_ret
        exact ⟨rfl, hbwzc⟩
      · have e2 : decide ((8 : Int) < (H.tok : Int)) = false := by simp; omega
        go_wp2
        go_ret
        exact ⟨rfl, hbwz⟩
end Go.Proofs.YtmgfijllcdadgabGreatDoor
