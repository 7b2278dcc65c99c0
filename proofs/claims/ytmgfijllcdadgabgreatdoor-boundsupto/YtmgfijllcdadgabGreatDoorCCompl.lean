/- Compl -/
import Derived.Test.YtmgfijllcdadgabGreatDoorCRestE
import Derived.Test.YtmgfijllcdadgabGreatDoorCWay8
import Derived.Test.YtmgfijllcdadgabGreatDoorCSplit
import Derived.Test.YtmgfijllcdadgabGreatDoorCSticky
namespace Go.Proofs.YtmgfijllcdadgabGreatDoor
set_option linter.unusedVariables false
set_option linter.unusedSimpArgs false
open Go.RowKit
open Mk (St Bs Ev Att)

theorem Bd.take {s : St} (h : Bd (Mk.endText s)) : Bd (Mk.take s) := { h with hl := by simp [Mk.take] }
theorem W.take {s : St} (h : W s) : W (Mk.take s) := by
  unfold Mk.take
  rw [endText_core s]
  exact { h with }
theorem opts_feedAll (d a t : Int) (n : Bool) (l : Bs) : (Mk.feedAll (Mk.make_ d a t n) l).od = d ∧ (Mk.feedAll (Mk.make_ d a t n) l).ot = t ∧ (Mk.feedAll (Mk.make_ d a t n) l).on = n :=
  ⟨od_feedAll l _, ot_feedAll l _, on_feedAll l _⟩
set_option maxHeartbeats 4000000 in
set_option maxRecDepth 100000 in
theorem completed_any (d a t : Int) (nm : Bool) (d1 : 1 ≤ d) (d2 : d ≤ 64) (a1 : 0 ≤ a) (a2 : a ≤ 32) (t1 : 8 ≤ t) (t2 : t ≤ 1024) (text : Bs) (hT : text.length ≤ 1048576) (w : World) (hG : Gl w) (hs : 6 < w.heap.size) :
    Calls Tryz.prog 14 #[.agg #[.int .i64 d, .int .i64 a, .int .i64 t, .bool nm], .string ⟨text.toArray⟩] w fun e w' => e = .returned (.tuple #[.string ⟨(compl (Mk.make_ d a t nm) text).toArray⟩, .bool true]) ∧ Below w.heap.size w w' := by
  have HX := hide (fun w hG hs => run_any d a t nm d1 d2 a1 a2 t1 t2 text [] none 0 (by omega) (by decide) w (fun j hj => by cases hj) (fun c hc => by cases hc) hG hs)
  have q1 := runL_eq d a t nm text []
  rw [q1.1, q1.2.1, q1.2.2.1, q1.2.2.2] at HX
  have HN := hide (fun w => new_any d a t nm d1 d2 a1 a2 t1 t2 w)
  have HINV := hide (inv_make d a t nm a2)
  have htold := feedAll_told text (Mk.make_ d a t nm) rfl
  have hat0 : (Mk.make_ d a t nm).at_ = 0 := rfl
  rw [hat0] at htold
  have hTok := upTo_ok (s := Mk.make_ d a t nm) rfl rfl text
  have hTl := upTo_len (Mk.make_ d a t nm) text
  have hWT := W_text d a t nm d1 t1 a2 text
  have hod := opts_feedAll d a t nm (upTo (Mk.make_ d a t nm) text)
  have hTe : (Mk.feedAll (Mk.make_ d a t nm) text).ended = 0 ∧ upTo (Mk.make_ d a t nm) text = text ∨ (Mk.feedAll (Mk.make_ d a t nm) text).ended ≠ 0 ∧ upTo (Mk.make_ d a t nm) text = text.take ((Mk.feedAll (Mk.make_ d a t nm) text).at_ - 1).toNat := by
    unfold upTo
    by_cases h : (Mk.feedAll (Mk.make_ d a t nm) text).ended = 0
    · exact .inl ⟨h, by rw [if_pos h]⟩
    · exact .inr ⟨h, by rw [if_neg h]⟩
  have hcp : compl (Mk.make_ d a t nm) text = upTo (Mk.make_ d a t nm) text ++ Mk.rest (Mk.feedAll (Mk.make_ d a t nm) (upTo (Mk.make_ d a t nm) text)) := rfl
  have hfd : (Mk.feed (Mk.make_ d a t nm) (upTo (Mk.make_ d a t nm) text)) = (Mk.take (Mk.feedAll (Mk.make_ d a t nm) (upTo (Mk.make_ d a t nm) text)), (Mk.endText (Mk.feedAll (Mk.make_ d a t nm) (upTo (Mk.make_ d a t nm) text))).list, 0) := by
    unfold Mk.feed
    rw [if_pos (show (Mk.make_ d a t nm).ended = 0 from rfl), hTok]
  have hsh := rest_short hWT (by rw [hod.1]; exact d2) (by rw [hod.2.1]; exact t2)
  clear q1
  generalize join [] (out (Mk.feedAll (Mk.make_ d a t nm) text).list (Mk.feedAll (Mk.make_ d a t nm) text).text) = evs at *
  generalize (Mk.close (Mk.feedAll (Mk.make_ d a t nm) text)).2 = en at *
  generalize (Mk.feedAll (Mk.make_ d a t nm) text).ended = err at *
  generalize (Mk.feedAll (Mk.make_ d a t nm) text).at_ = at_ at *
  generalize compl (Mk.make_ d a t nm) text = D at *
  generalize upTo (Mk.make_ d a t nm) text = T at *
  have HFEED := hide (fun (wx : World) (b : Nat) (h : RdL wx b (Mk.make_ d a t nm) (L0 b)) hG (hb : 6 + 1 < b) (g c : Nat) h1 h2 h3 h4 => Feed_any h (unhide HINV) T (by omega) hG hb (by simp [Mk.make_]) (by simp [Mk.make_]) g c h1 h2 h3 h4)
  have HBD := hide (Inv.bd (inv_feed (unhide HINV) T) (by omega))
  rw [hfd] at HFEED HBD
  generalize Mk.feedAll (Mk.make_ d a t nm) T = S at *
  have hSe : (Mk.take S).ended = 0 := by
    have hq : (Mk.take S).ended = S.ended := by
      unfold Mk.take
      rw [endText_core S]
    rw [hq]; exact hTok
  have hrt := rest_take S
  have hWt := W.take hWT
  have hod1 : (Mk.take S).od = d ∧ (Mk.take S).ot = t := by unfold Mk.take; rw [endText_core S]; exact ⟨hod.1, hod.2.1⟩
  have HREST := hide (fun (wx : World) (b : Nat) (L : Lay) (h : RdL wx b (Mk.take S) L) hG hs => pRest_any h hSe hWt (unhide HBD) (by rw [hod1.1]; exact d2) (by rw [hod1.2]; exact t2) hG hs)
  rw [hrt] at HREST
  have HD := hide hcp
  have hrl := hsh.1
  have hDl : D.length ≤ 1120000 := by rw [hcp]; simp; omega
  generalize Mk.rest S = RS at *
  generalize (Mk.endText S).list = EL at *
  have HG := hide hG
  clear hG d1 d2 a1 a2 t1 t2 hTok hWT hod hcp hfd hsh hSe hrt hWt hod1 HBD hat0
  go_enter Tryz.func14, Tryz.ntmps14
  go_wp2_with fail
  have hb0 := (Below.refl w.heap.size w).alloc (Nat.le_refl _) (.cells #[.int .i64 d, .int .i64 a, .int .i64 t, .bool nm] 25 (0, 0))
  refine (unhide HX _ ((unhide HG).below hs hb0) (by simp; omega)).mono ?_
  rintro e w1 ⟨v1, fp1, u1, rfl, hg1, hf1, hb1, -⟩
  obtain ⟨x1, c1, rfl⟩ := hg1.slice
  have hst := lay_out w1 (.slice x1 evs.length c1) err en at_ u1 ⟨_, _, _, rfl⟩
  have hx1 : w1.heap[w.heap.size]? = some (.cells #[.int .i64 d, .int .i64 a, .int .i64 t, .bool nm] 25 (0, 0)) := by
    rw [hb1.block _ (by simp)]
    exact heap_alloc_new w _
  have hsz1 : w.heap.size < w1.heap.size := (Array.getElem?_eq_some_iff.1 hx1).1
  have hc1 : ∀ o j, (w1.alloc o).cell? ⟨w.heap.size, j, none⟩ = [.int .i64 d, .int .i64 a, .int .i64 t, .bool nm][j]? := fun o j => by simp only [World.cell?]; rw [Below.heap_alloc _ _ _ (by omega), hx1]; simp
  have hbw1 : Below w.heap.size w w1 := hb0.trans (hb1.mono (by simp))
  clear hg1 hf1 hb1 hb0 HX
  go_wp2_with fail
  have hb2 := hbw1.alloc (by omega) (.cells (outCells (.slice x1 evs.length c1) err en at_ u1) 38 (0, 0))
  refine (unhide HN _).mono ?_
  rintro e w2 ⟨b, rfl, hb, hb3, hrd⟩
  simp at hb
  have hy2 : w2.heap[w1.heap.size]? = some (.cells (outCells (.slice x1 evs.length c1) err en at_ u1) 38 (0, 0)) := by
    rw [hb3.block _ (by simp)]
    exact heap_alloc_new w1 _
  have hd2 : ∀ j, w2.cell? ⟨w1.heap.size, j, none⟩ = [.slice x1 evs.length c1, .int .i64 err, .int .i64 en, .int .i64 at_, .int .i64 u1.ln, .int .i64 u1.co, .slice u1.oa u1.on u1.oc][j]? := fun j => by simp [World.cell?, hy2, outCells]
  have hbw2 : Below w.heap.size w w2 := hb2.trans (hb3.mono (by simp; omega))
  have hsb := hrd.lt
  have hs2 := hbw2.size
  obtain ⟨W1, c, hconv, hbW, hW1s, hcells⟩ := conv_bytes w2 T
  have hrdW := rd_below hrd hbW
  have hbwW : Below w.heap.size w W1 := hbw2.trans (hbW.mono (by omega))
  have HF := hide (unhide HFEED W1 b hrdW ((unhide HG).below hs hbwW) (by omega) w2.heap.size c (by omega) (by omega) (by rw [foot_L0]; simp; omega) hcells)
  have HBW := hide hbwW
  have hbs := hbwW.size
  clear hst hc1 hx1 hy2 hb2 hb3 hcells hbW hrdW hbwW hrd HN HFEED hbw1
  have hl0 : (0 : Int) ≤ at_ := by rcases htold with h | h <;> omega
  rcases hTe with ⟨he0, hTt⟩ | ⟨hne, hTt⟩
  · subst he0
    subst hTt
    go_wp2_with fail
    refine (unhide HF).mono ?_
    rintro e w4 ⟨v4, fp4, L4, rfl, hg4, ⟨va, vn, vc, rfl⟩, hM, hf4⟩
    have hbw4 : Below w.heap.size w w4 := (unhide HBW).trans ⟨hM.fr.os, hM.fr.tape, hM.fr.output, hM.fr.size, fun k hk => hM.fr.block k (by omega) (by omega) (by rw [foot_L0]; simp; omega)⟩
    have hs4 := hbw4.size
    have HRE := hide (unhide HREST w4 b L4 hM.rd ((unhide HG).below hs hbw4) (by omega))
    clear hg4 hf4 hM HF hconv HREST hd2
    go_wp2_with fail
    refine (unhide HRE).mono ?_
    rintro e w5 ⟨a5, c5, rfl, hR5⟩
    have hcv := conv_row hR5.row
    have happ : (⟨T.toArray⟩ : ByteArray) ++ (⟨RS.toArray⟩ : ByteArray) = ⟨D.toArray⟩ := by rw [unhide HD]; apply ByteArray.ext; simp
    have hfin : Below w.heap.size w w5 := hbw4.trans (hR5.bel.mono hs4)
    have HFI := hide hfin
    clear hR5 hfin HRE
    go_wp2
    go_ret2
    exact ⟨rfl, unhide HFI⟩
  · have e1 : (err != 0) = true := by simpa using hne
    have hat : 1 ≤ at_ ∧ at_ ≤ text.length := by rcases htold with h | h; exact absurd h.1 hne; omega
    obtain ⟨n, hn⟩ : ∃ n : Nat, at_ = (n : Int) + 1 := ⟨(at_ - 1).toNat, by omega⟩
    have hn2 : (at_ - 1).toNat = n := by omega
    rw [hn2] at hTt
    have hxt : (ByteArray.extract ⟨text.toArray⟩ 0 n) = ⟨T.toArray⟩ := by rw [ext_take, hTt]
    have hnl : n ≤ text.length := by omega
    subst hn
    have e2 : decide ((n : Int) + 1 < 1) = false := by simp; omega
    have e3 : decide ((text.length : Int) < (n : Int) + 1) = false := by simp; omega
    have e4 : ¬ ((n : Int) < 0) := by omega
    have e5 : (n : Int) ≤ (text.length : Int) := by omega
    have e6 : (n : Int) + 1 - 1 = (n : Int) := by omega
    clear hTt htold
    go_wp2_with fail
    refine (unhide HF).mono ?_
    rintro e w4 ⟨v4, fp4, L4, rfl, hg4, ⟨va, vn, vc, rfl⟩, hM, hf4⟩
    have hbw4 : Below w.heap.size w w4 := (unhide HBW).trans ⟨hM.fr.os, hM.fr.tape, hM.fr.output, hM.fr.size, fun k hk => hM.fr.block k (by omega) (by omega) (by rw [foot_L0]; simp; omega)⟩
    have hs4 := hbw4.size
    have HRE := hide (unhide HREST w4 b L4 hM.rd ((unhide HG).below hs hbw4) (by omega))
    clear hg4 hf4 hM HF hconv HREST hd2
    go_wp2_with fail
    refine (unhide HRE).mono ?_
    rintro e w5 ⟨a5, c5, rfl, hR5⟩
    have hcv := conv_row hR5.row
    have happ : (⟨T.toArray⟩ : ByteArray) ++ (⟨RS.toArray⟩ : ByteArray) = ⟨D.toArray⟩ := by rw [unhide HD]; apply ByteArray.ext; simp
    have hfin : Below w.heap.size w w5 := hbw4.trans (hR5.bel.mono hs4)
    have HFI := hide hfin
    clear hR5 hfin HRE
    go_wp2
    go_ret2
    exact ⟨rfl, unhide HFI⟩
end Go.Proofs.YtmgfijllcdadgabGreatDoor
