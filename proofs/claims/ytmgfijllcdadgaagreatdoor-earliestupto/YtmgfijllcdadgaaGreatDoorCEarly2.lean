/- Early2 -/
import Derived.Test.YtmgfijllcdadgaaGreatDoorCEarlyO
import Derived.Deep.DeepCutAuto
namespace Go.Proofs.YtmgfijllcdadgaaGreatDoor
set_option linter.unusedVariables false
set_option linter.unusedSimpArgs false
open Go.RowKit
open Mk (St Bs Ev Att)

set_option maxHeartbeats 4000000 in
set_option maxRecDepth 100000 in
theorem earliest_any (d a t : Int) (nm : Bool) (d1 : 1 ≤ d) (d2 : d ≤ 64) (a1 : 0 ≤ a) (a2 : a ≤ 32) (t1 : 8 ≤ t) (t2 : t ≤ 1024) (text other : Bs) (hT : text.length + other.length ≤ 1090000) (w : World) (hG : Gl w) (hs : 2 < w.heap.size) :
    Calls Tryz.prog 23 #[.agg #[.int .i64 d, .int .i64 a, .int .i64 t, .bool nm], .string ⟨text.toArray⟩, .string ⟨other.toArray⟩] w fun e w' => e = .returned (.bool true) ∧ Below w.heap.size w w' := by
  have HX := hide (fun text (hT : text.length ≤ 1100000) w hG hs => run_any d a t nm d1 d2 a1 a2 t1 t2 text [] none 0 hT (by decide) w (fun j hj => by cases hj) (fun c hc => by cases hc) hG hs)
  have HQ : Hid (∀ text, (runL (Mk.make_ d a t nm) [] 0 text []).2.1 = evsOf (Mk.feedAll (Mk.make_ d a t nm) text) ∧ (runL (Mk.make_ d a t nm) [] 0 text []).2.2 = (Mk.feedAll (Mk.make_ d a t nm) text).ended ∧ (runL (Mk.make_ d a t nm) [] 0 text []).1.at_ = (Mk.feedAll (Mk.make_ d a t nm) text).at_) := fun text => ⟨(runL_eq d a t nm text []).1, (runL_eq d a t nm text []).2.1, (runL_eq d a t nm text []).2.2.1⟩
  have HINV := hide (inv_make d a t nm a2)
  have HT := hide (fun v q hv w hG hs => told_any d a t nm d1 d2 a1 a2 t1 t2 v hv _ _ _ q text (told_ok d a t nm text) w hG hs)
  have HE : Hid ((Mk.close (runL (Mk.make_ d a t nm) [] 0 text []).1).2 = (Mk.close (Mk.feedAll (Mk.make_ d a t nm) text)).2) := (runL_eq d a t nm text []).2.2.2
  have HN := hide (fun w => new_any d a t nm d1 d2 a1 a2 t1 t2 w)
  have HG := hide hG
  clear hG d1 d2 a1 a2 t1 t2
  go_enter Tryz.func23, Tryz.ntmps23
  go_wp2_with fail
  have hb0 := (Below.refl w.heap.size w).alloc (Nat.le_refl _) (.cells #[.int .i64 d, .int .i64 a, .int .i64 t, .bool nm] 40 (0, 0))
  refine (unhide HX text (by omega) _ ((unhide HG).below hs hb0) (by simp; omega)).mono ?_
  rintro e w1 ⟨v1, fp1, u1, rfl, hg1, hf1, hb1, -⟩
  rw [(unhide HQ text).1] at hg1
  rw [(unhide HQ text).2.1, (unhide HQ text).2.2, unhide HE]
  obtain ⟨F, hF⟩ : ∃ F, F = Mk.feedAll (Mk.make_ d a t nm) text := ⟨_, rfl⟩
  rw [← hF] at hg1
  rw [← hF] at HT
  rw [← hF]
  have HF := hide hF
  clear hF HE
  obtain ⟨x1, c1, rfl⟩ := hg1.slice
  have hst := lay_out w1 (.slice x1 (evsOf F).length c1) F.ended (Mk.close F).2 F.at_ u1 ⟨_, _, _, rfl⟩
  have hx1 : w1.heap[w.heap.size]? = some (.cells #[.int .i64 d, .int .i64 a, .int .i64 t, .bool nm] 40 (0, 0)) := by
    rw [hb1.block _ (by simp)]
    exact heap_alloc_new w _
  have hsz1 : w.heap.size < w1.heap.size := (Array.getElem?_eq_some_iff.1 hx1).1
  have hc1 : ∀ o j, (w1.alloc o).cell? ⟨w.heap.size, j, none⟩ = [.int .i64 d, .int .i64 a, .int .i64 t, .bool nm][j]? := fun o j => by simp only [World.cell?]; rw [Below.heap_alloc _ _ _ (by omega), hx1]; simp
  have hbw1 : Below w.heap.size w w1 := hb0.trans (hb1.mono (by simp))
  have HG1 := hide hg1
  have HF1 := hide hf1
  clear hg1 hf1 hb1 hb0
  go_wp2_with fail
  have hb2 := hbw1.alloc (by omega) (.cells (outCells (.slice x1 (evsOf F).length c1) F.ended (Mk.close F).2 F.at_ u1) 36 (0, 0))
  refine (unhide HN _).mono ?_
  rintro e w2 ⟨b, rfl, hb, hb3, hrd⟩
  simp at hb
  have hy1 : w2.heap[w.heap.size]? = some (.cells #[.int .i64 d, .int .i64 a, .int .i64 t, .bool nm] 40 (0, 0)) := by
    rw [hb3.block _ (by simp; omega), Below.heap_alloc _ _ _ (by omega)]
    exact hx1
  have hy2 : w2.heap[w1.heap.size]? = some (.cells (outCells (.slice x1 (evsOf F).length c1) F.ended (Mk.close F).2 F.at_ u1) 36 (0, 0)) := by
    rw [hb3.block _ (by simp)]
    exact heap_alloc_new w1 _
  have hd1 : ∀ j, w2.cell? ⟨w.heap.size, j, none⟩ = [.int .i64 d, .int .i64 a, .int .i64 t, .bool nm][j]? := fun j => by simp [World.cell?, hy1]
  have hd2 : ∀ j, w2.cell? ⟨w1.heap.size, j, none⟩ = [.slice x1 (evsOf F).length c1, .int .i64 F.ended, .int .i64 (Mk.close F).2, .int .i64 F.at_, .int .i64 u1.ln, .int .i64 u1.co, .slice u1.oa u1.on u1.oc][j]? := fun j => by simp [World.cell?, hy2, outCells]
  have hbw2 : Below w.heap.size w w2 := hb2.trans (hb3.mono (by simp; omega))
  have hsb := hrd.lt
  clear hc1 hst
  go_wp2_with fail
  refine (unhide HT (.slice x1 (evsOf F).length c1) u1 ⟨_, _, _, rfl⟩ _ ((unhide HG).below hs hbw2) (by omega)).mono ?_
  rintro e w3 ⟨rfl, hb4⟩
  have hrd3 : RdL w3 b (Mk.make_ d a t nm) (L0 b) := hrd.keep fun k hk => hb4.block k (by
    rcases hk with rfl | hk
    · exact hsb
    · exact (hrd.foot_lt _ hk).2)
  have hsz3 := hb4.size
  have R0 : EarlyI (w1.heap.size + 1) (w1.alloc (.cells (outCells (.slice x1 (evsOf F).length c1) F.ended (Mk.close F).2 F.at_ u1) 36 (0, 0))) w3 b (Mk.make_ d a t nm) (L0 b) (.slice none 0 0) [] [] 0 :=
    ⟨(show Below (w1.heap.size + 1) _ w2 by have := hb3; simpa using this).trans (hb4.mono (by omega)), by omega, hrd3, got_nil _, (fun k hk => by cases hk), unhide HINV, rfl, by simp [Mk.make_], by simp [Mk.make_], by simp, (fun e he => by cases he), rfl⟩
  have HX1 := hide hx1
  have HR := hide R0
  have HW0 := hide hb2
  clear R0 hrd3 hrd hb2 hb3 hb4 hd1 hd2 hy1 hy2 hbw2 hbw1 hx1 HN HT
  go_wp2_with fail
  go_loopw [12, 13] (fun s12 s13 w' => ∃ (i : Nat) (s : St) (L : Lay) (v : Value) (evs : List Ev) (fp : List Nat), s12 = v ∧ s13 = .int .i64 i ∧ i ≤ text.length ∧ EarlyI (w1.heap.size + 1) (w1.alloc (.cells (outCells (.slice x1 (evsOf F).length c1) F.ended (Mk.close F).2 F.at_ u1) 36 (0, 0))) w' b s L v evs fp i ∧ Sm evs (Mk.feedAll (Mk.make_ d a t nm) (text.take i)) s ∧ s.list = [] ∧ s.text = [] ∧ (Mk.feedAll (Mk.make_ d a t nm) (text.take i)).ended = 0 ∧ (Mk.feedAll (Mk.make_ d a t nm) (text.take i)).at_ = i) (fun _ i _ => text.length - (intOf i).toNat)
  case atStart => exact ⟨0, _, _, _, _, _, rfl, rfl, by omega, unhide HR, ⟨[], [], rfl, rfl⟩, rfl, rfl, rfl, rfl⟩
  case round =>
    obtain ⟨i, s, L, v, evs, fp, rfl, rfl, hi, R, hsm, hl1, hl2, hend, hat⟩ := hrel
    clear HR
    have hx2 : wr.heap[w1.heap.size]? = some (.cells (outCells (.slice x1 (evsOf F).length c1) F.ended (Mk.close F).2 F.at_ u1) 36 (0, 0)) := (R.bel.block _ (by omega)).trans (heap_alloc_new w1 _)
    have hcx : ∀ j, wr.cell? ⟨w1.heap.size, j, none⟩ = [.slice x1 (evsOf F).length c1, .int .i64 F.ended, .int .i64 (Mk.close F).2, .int .i64 F.at_, .int .i64 u1.ln, .int .i64 u1.co, .slice u1.oa u1.on u1.oc][j]? := fun j => by simp [World.cell?, hx2, outCells]
    by_cases hlt : i < text.length
    · have e1 : decide ((i : Int) < (text.length : Int)) = true := by simp; omega
      obtain ⟨W1, c, hconv, hbW, hW1s, hcells⟩ := conv_bytes wr [text[i]]
      rw [← ext_one text i hlt] at hconv
      obtain ⟨va, vc, rfl⟩ := R.got.slice
      have hrl := R.rd.lt
      have hrdW : RdL W1 b s L := R.rd.keep fun k hk => hbW.block k (by
        rcases hk with rfl | hk
        · exact hrl
        · exact (R.rd.foot_lt _ hk).2)
      have hbwr : Below w.heap.size w wr := (unhide HW0).trans (R.bel.mono (by omega))
      have hGW : Gl W1 := ((unhide HG).below hs hbwr).below (by have := hbwr.size; omega) hbW
      have HFd := hide (Feed_any hrdW R.inv [text[i]] (by simp; omega) hGW (by have := R.hb; omega) R.at0 (by have := R.at1; omega) wr.heap.size c (by omega) (by omega) (fun hm => by have := (R.rd.foot_lt _ hm).2; omega) hcells)
      have hst := early_step text[i] hsm ⟨hl1, hl2⟩ hend
      rw [← take_more text i hlt] at hst
      have HST := hide hst
      have HR := hide R
      have HBW := hide hbW
      have HBR := hide hbwr
      clear R hrdW hGW hcells hbW hbwr hst hsm hcx hx2
      go_wp2_with fail
      clear hconv
      refine (unhide HFd).mono ?_
      rintro e w2' ⟨v2, fp2, L2, rfl, hgot2, ⟨a2, n2, c2, rfl⟩, hM, hf2⟩
      have hA := at_any hM.rd
      rw [(unhide HST).2.2.2.2.1, hat] at hA
      have HA := hide hA
      have hgotw2 := (unhide HR).got.keep (w' := w2') fun k hk => ((unhide HR).away (unhide HBW) hM k ((unhide HR).fpb k hk).2.1 ((unhide HR).fpb k hk).2.2.1 ((unhide HR).fpb k hk).2.2.2).1
      have hlen : (Mk.feed s [text[i]]).2.1.length ≤ 133 := feed_len5 s [text[i]] (unhide HR).inv hl1 hl2
      have hevl := (unhide HR).len
      have HJ := hide (joined_any hgotw2 hgot2 ((unhide HR).apart (unhide HBW) hf2) (fun k hk => (hf2 k hk).2.1) (i * 2660000000) 20000000 (unhide HR).vals (fun x hx => by have := vals_feed (unhide HR).inv [text[i]] x hx; simp at this; omega) (by omega) (by omega))
      have HM := hide hM
      have HF2 := hide hf2
      have e3 : (((i : Int) + 1) != ((i : Int) + 1)) = false := by simp
      have hat1 : (Mk.feedAll (Mk.make_ d a t nm) (text.take (i + 1))).at_ = ((i + 1 : Nat) : Int) := by
        rw [take_more text i hlt, feedAll_more, feedByte_at1 _ _ hend, hat]
        simp
      clear hM hf2 hgot2 hgotw2 HFd hlen hevl hA hat
      go_wp2_with (first | (go_at_call 25; refine (unhide HA).mono ?_; rintro e w' ⟨rfl, rfl⟩))
      refine (unhide HJ).mono ?_
      rintro e w3' ⟨v3, fp3, rfl, hj⟩
      obtain ⟨a3, c3, rfl⟩ := hj.got.slice
      have hnext := (unhide HR).step [text[i]] rfl (unhide HBW) (unhide HM) (unhide HF2) hj (by omega)
      have HNX := hide hnext
      clear hj hnext HJ HM HF2 HBW HBR HR HA
      by_cases hf0 : (Mk.feedAll (Mk.make_ d a t nm) (text.take (i + 1))).ended = 0
      · have e4 : ((Mk.feed s [text[i]]).2.2 == 0) = true := by rw [(unhide HST).2.2.2.1]; simpa using hf0
        go_wp2
        obtain ⟨fp', hR'⟩ := unhide HNX
        exact ⟨⟨i + 1, _, _, _, _, fp', rfl, rfl, by omega, hR', (unhide HST).1, (unhide HST).2.1, (unhide HST).2.2.1, hf0, hat1⟩, by simp [intOf] <;> omega⟩
      · have e4 : ((Mk.feed s [text[i]]).2.2 == 0) = false := by rw [(unhide HST).2.2.2.1]; simpa using hf0
        obtain ⟨fp', hR'⟩ := unhide HNX
        have hFt : F = Mk.feedAll (Mk.make_ d a t nm) (text.take (i + 1)) := by
          have := feedAll_behind (Mk.make_ d a t nm) (text.take (i + 1)) (text.drop (i + 1)) hf0
          rw [List.take_append_drop] at this
          rw [unhide HF]; exact this
        have hx2 : w3'.heap[w1.heap.size]? = some (.cells (outCells (.slice x1 (evsOf F).length c1) F.ended (Mk.close F).2 F.at_ u1) 36 (0, 0)) := (hR'.bel.block _ (by omega)).trans (heap_alloc_new w1 _)
        have hcx : ∀ j, w3'.cell? ⟨w1.heap.size, j, none⟩ = [.slice x1 (evsOf F).length c1, .int .i64 F.ended, .int .i64 (Mk.close F).2, .int .i64 F.at_, .int .i64 u1.ln, .int .i64 u1.co, .slice u1.oa u1.on u1.oc][j]? := fun j => by simp [World.cell?, hx2, outCells]
        have hgw : Got w3' (.slice x1 (evsOf F).length c1) (evsOf F) fp1 := (unhide HG1).keep fun k hk => by
          have := (unhide HF1 k hk).2
          rw [hR'.bel.block _ (by omega), Below.heap_alloc _ _ _ this]
        have hev : join evs (Mk.feed s [text[i]]).2.1 = evsOf F := by rw [hFt]; exact (unhide HST).2.2.2.2.2
        have hee : (Mk.feed s [text[i]]).2.2 = F.ended := by rw [hFt]; exact (unhide HST).2.2.2.1
        have HRn := hide hR'
        have hg3 := hR'.got
        rw [hev] at hg3
        have HS := hide (sameEvents_eq hg3 hgw)
        rw [hev, hee]
        rw [hee] at e4
        have e5 : (F.ended != F.ended) = false := by simp
        have e6 : (F.at_ != ((i : Int) + 1)) = false := by rw [hFt, hat1]; simp
        have HFt := hide hFt
        have hbw3 : Below w.heap.size w w3' := (unhide HW0).trans (hR'.bel.mono (by omega))
        have hsz3' := hbw3.size
        have hw3b := hR'.bel.size
        simp at hw3b
        have hd1 : ∀ j, w3'.cell? ⟨w.heap.size, j, none⟩ = [.int .i64 d, .int .i64 a, .int .i64 t, .bool nm][j]? := fun j => by
          have h1 : w3'.heap[w.heap.size]? = some (.cells #[.int .i64 d, .int .i64 a, .int .i64 t, .bool nm] 40 (0, 0)) := by
            rw [hR'.bel.block _ (by omega), Below.heap_alloc _ _ _ (by omega)]
            exact unhide HX1
          simp [World.cell?, h1]
        have hd1a : ∀ m o j, ((w3'.drewN m).alloc o).cell? ⟨w.heap.size, j, none⟩ = [.int .i64 d, .int .i64 a, .int .i64 t, .bool nm][j]? := fun m o j => by
          rw [← hd1 j]; simp only [World.cell?]; rw [Below.heap_alloc _ _ _ (by simp; omega)]; rfl
        have hFw : evsOf (Mk.feedAll (Mk.make_ d a t nm) (text.take i)) = evsOf F := by
          have h := evsOf_wrong (Mk.make_ d a t nm) (text.take i) text[i] hend
          rw [← take_more text i hlt, ← hFt] at h
          exact (h (by rw [hFt]; exact hf0)).symm
        have hFb : Mk.feedAll (Mk.make_ d a t nm) (text.take (i + 1) ++ other) = F := by
          rw [hFt]; exact feedAll_behind _ _ _ hf0
        have HA1 : ∃ en at1 : Int, Hid (∀ W, Below w.heap.size w W → Calls Tryz.prog 19 #[.agg #[.int .i64 d, .int .i64 a, .int .i64 t, .bool nm], .string (ByteArray.extract ⟨text.toArray⟩ 0 i), .slice none 0 0] W fun e w' => ∃ v fp q, e = .returned (.tuple #[.agg (outCells v 0 en at1 q), .bool true]) ∧ Got w' v (evsOf F) fp ∧ (∀ k ∈ fp, W.heap.size ≤ k ∧ k < w'.heap.size) ∧ Below W.heap.size W w') := ⟨_, _, fun W hW => by
          have h := unhide HX (text.take i) (by rw [List.length_take]; omega) W ((unhide HG).below hs hW) (by have := hW.size; omega)
          rw [(unhide HQ _).1, (unhide HQ _).2.1, hend, hFw, ← ext_take] at h
          exact h.mono fun e w' ⟨v, fp, q, h1, h2, h3, h4, _⟩ => ⟨v, fp, q, h1, h2, h3, h4⟩⟩
        have HA2 : ∃ en : Int, Hid (∀ W, Below w.heap.size w W → Calls Tryz.prog 19 #[.agg #[.int .i64 d, .int .i64 a, .int .i64 t, .bool nm], .string (ByteArray.extract ⟨text.toArray⟩ 0 (i + 1) ++ ⟨other.toArray⟩), .slice none 0 0] W fun e w' => ∃ v fp q, e = .returned (.tuple #[.agg (outCells v F.ended en F.at_ q), .bool true]) ∧ Got w' v (evsOf F) fp ∧ (∀ k ∈ fp, W.heap.size ≤ k ∧ k < w'.heap.size) ∧ Below W.heap.size W w') := ⟨_, fun W hW => by
          have h := unhide HX (text.take (i + 1) ++ other) (by rw [List.length_append, List.length_take]; omega) W ((unhide HG).below hs hW) (by have := hW.size; omega)
          rw [(unhide HQ _).1, (unhide HQ _).2.1, (unhide HQ _).2.2, hFb, ← cat_str, ← ext_take] at h
          exact h.mono fun e w' ⟨v, fp, q, h1, h2, h3, h4, _⟩ => ⟨v, fp, q, h1, h2, h3, h4⟩⟩
        obtain ⟨en1, at1, HA1⟩ := HA1
        obtain ⟨en2, HA2⟩ := HA2
        have hgs : Got w3' (.slice a3 (evsOf F).length c3) (evsOf F) fp' := hev ▸ hg3
        have HGS := hide hgs
        have HFP := hide (fun k hk => (hR'.fpb k hk).2.1)
        clear hR' hgw hFt hg3 HNX HST hx2 hgs hFw hFb HX HQ
        go_wp2_with fail
        refine (unhide HS).mono ?_
        rintro e w' ⟨rfl, n, rfl⟩
        go_wp2_with fail
        go_cut [18, 19] (fun s18 s19 wx => OutAt w3' wx s18 (evsOf F) 0 en1 at1 ∧ s19 = .bool true)
        case first =>
          have hbz : ∀ m o, Below w.heap.size w ((w3'.drewN m).alloc o) := fun m o => (below_drewN hbw3 m).alloc (by simp; omega) o
          go_region_with (go_at_call 19; first
            | (refine (unhide HA1 _ (below_drewN hbw3 (n + 1))).mono ?_; rintro e w4 ⟨v4, fp4, u4, rfl, hg4, hf4, hb4⟩; obtain ⟨x4, c4, rfl⟩ := hg4.slice; have hst := lay_out w4 (.slice x4 (evsOf F).length c4) 0 en1 at1 u4 ⟨_, _, _, rfl⟩; have HO := hide (out_behind (W := w3'.drewN (n + 1)) 0 en1 at1 u4 (below_drewN (Below.refl w3'.heap.size w3') (n + 1)) hg4 hf4 hb4); clear hg4 hf4 hb4)
            | (refine (unhide HA1 _ (hbz (n + 1) _)).mono ?_; rintro e w4 ⟨v4, fp4, u4, rfl, hg4, hf4, hb4⟩; obtain ⟨x4, c4, rfl⟩ := hg4.slice; have HO' := out_ahead (W := w3'.drewN (n + 1)) 0 en1 at1 u4 (below_drewN (Below.refl w3'.heap.size w3') (n + 1)) hg4 hf4 hb4; have hst := lay_at w4 w3'.heap.size (.slice x4 (evsOf F).length c4) 0 en1 at1 u4 ⟨_, _, _, rfl⟩ HO'.1; have HO := hide HO'.2; clear HO' hg4 hf4 hb4))
          all_goals
            go_wp2_with fail
            go_meet
            exact ⟨unhide HO, rfl⟩
        case rest =>
        obtain ⟨⟨g4, x4, c4, fp4, u4, rfl, hg40, hg41, hh4, hgot4, hfp4, hbl4⟩, rfl⟩ := hcut
        rename World => w5
        have hbw5 : Below w.heap.size w w5 := hbw3.trans (hbl4.mono (by omega))
        have hw5s := hbl4.size
        have hgs5 : Got w5 (.slice a3 (evsOf F).length c3) (evsOf F) fp' := (unhide HGS).keep fun k hk => hbl4.block k (unhide HFP k hk)
        have hfs5 : ∀ k ∈ fp', k < w5.heap.size := fun k hk => by have := unhide HFP k hk; omega
        have hd5 : ∀ j, w5.cell? ⟨w.heap.size, j, none⟩ = [.int .i64 d, .int .i64 a, .int .i64 t, .bool nm][j]? := fun j => by
          rw [← hd1 j]; simp only [World.cell?]; rw [hbl4.block _ (by omega)]
        have hd5a : ∀ o j, (w5.alloc o).cell? ⟨w.heap.size, j, none⟩ = [.int .i64 d, .int .i64 a, .int .i64 t, .bool nm][j]? := fun o j => by
          rw [← hd5 j]; simp only [World.cell?]; rw [Below.heap_alloc _ _ _ (by omega)]
        have H5 := hide (And.intro hh4 (And.intro hgot4 (And.intro hfp4 (And.intro hgs5 hfs5))))
        clear hh4 hgot4 hfp4 hgs5 hfs5 hbl4 hd1 hd1a hcx HA1 HGS HFP
        go_wp2_with fail
        go_cut [20, 21] (fun s20 s21 wx => OutAt w5 wx s20 (evsOf F) F.ended en2 F.at_ ∧ s21 = .bool true)
        case first =>
          have hk0 : IntKind.i64.wrap ((i : Int) + 1) = (i : Int) + 1 := by rw [IntKind.wrap_i64]; omega
          have hk1 : (i : Int) + 1 ≤ (text.length : Int) := by omega
          have hk2 : ¬ (i : Int) + 1 < 0 := by omega
          have hk3 : ((i : Int) + 1).toNat = i + 1 := by omega
          have hk4 : 0 ≤ (i : Int) + 1 := by omega
          have hk5 : i + 1 ≤ text.length := by omega
          have hby : Below w.heap.size w w5.drew := ⟨hbw5.os, hbw5.tape, hbw5.output, hbw5.size, hbw5.block⟩
          have hbr : Below w5.heap.size w5 w5.drew := ⟨rfl, rfl, rfl, Nat.le_refl _, fun _ _ => rfl⟩
          have hbz : ∀ o, Below w.heap.size w (w5.alloc o).drew := fun o => by
            have := hbw5.alloc (by omega) o
            exact ⟨this.os, this.tape, this.output, this.size, this.block⟩
          go_region_with (go_at_call 19; first
            | (refine (unhide HA2 _ hby).mono ?_; rintro e w4 ⟨v4, fp4, u4, rfl, hg4, hf4, hb4⟩; obtain ⟨x4, c4, rfl⟩ := hg4.slice; have hst := lay_out w4 (.slice x4 (evsOf F).length c4) F.ended en2 F.at_ u4 ⟨_, _, _, rfl⟩; have HO := hide (out_behind (W := w5.drew) F.ended en2 F.at_ u4 hbr hg4 hf4 hb4); clear hg4 hf4 hb4)
            | (refine (unhide HA2 _ (hbz _)).mono ?_; rintro e w4 ⟨v4, fp4, u4, rfl, hg4, hf4, hb4⟩; obtain ⟨x4, c4, rfl⟩ := hg4.slice; have HO' := out_ahead (W := w5.drew) F.ended en2 F.at_ u4 hbr hg4 hf4 hb4; have hst := lay_at w4 w5.heap.size (.slice x4 (evsOf F).length c4) F.ended en2 F.at_ u4 ⟨_, _, _, rfl⟩ HO'.1; have HO := hide HO'.2; clear HO' hg4 hf4 hb4))
          all_goals
            go_wp2_with fail
            go_meet
            exact ⟨unhide HO, rfl⟩
        case rest =>
        obtain ⟨⟨g6, x6, c6, fp6, u6, rfl, hg60, hg61, hh6, hgot6, hfp6, hbl6⟩, rfl⟩ := hcut
        rename World => w7
        obtain ⟨hh4, hgot4, hfp4, hgs5, hfs5⟩ := unhide H5
        have hh47 : w7.heap[g4]? = some (.cells (outCells (.slice x4 (evsOf F).length c4) 0 en1 at1 u4) 36 (0, 0)) := (hbl6.block _ hg41).trans hh4
        have hc4 : ∀ j, w7.cell? ⟨g4, j, none⟩ = [.slice x4 (evsOf F).length c4, .int .i64 0, .int .i64 en1, .int .i64 at1, .int .i64 u4.ln, .int .i64 u4.co, .slice u4.oa u4.on u4.oc][j]? := fun j => by simp [World.cell?, hh47, outCells]
        have hc6 : ∀ j, w7.cell? ⟨g6, j, none⟩ = [.slice x6 (evsOf F).length c6, .int .i64 F.ended, .int .i64 en2, .int .i64 F.at_, .int .i64 u6.ln, .int .i64 u6.co, .slice u6.oa u6.on u6.oc][j]? := fun j => by simp [World.cell?, hh6, outCells]
        have hgs7 : Got w7 (.slice a3 (evsOf F).length c3) (evsOf F) fp' := hgs5.keep fun k hk => hbl6.block k (hfs5 k hk)
        have hgo7 : Got w7 (.slice x4 (evsOf F).length c4) (evsOf F) fp4 := hgot4.keep fun k hk => hbl6.block k (hfp4 k hk)
        have HS1 := hide (sameEvents_eq hgot6 hgs7)
        have HS2 := hide (fun m => sameEvents_eq (w := w7.drewN m) (hgo7.keep fun k hk => rfl) (hgs7.keep fun k hk => rfl))
        have hfin : Below w.heap.size w w7 := hbw5.trans (hbl6.mono (by omega))
        have e7 : (F.ended == F.ended) = true := by simp
        have e8 : (F.at_ == ((i : Int) + 1)) = true := by simpa using e6
        clear hh4 hgot4 hfp4 hgs5 hfs5 hh47 hgs7 hgo7 hgot6 hfp6 hbl6 hh6 H5 hd5 hd5a HA2
        go_wp2_with fail
        refine (unhide HS1).mono ?_
        rintro e w8 ⟨rfl, n1, rfl⟩
        go_wp2_with fail
        refine (unhide HS2 _).mono ?_
        rintro e w8 ⟨rfl, n2, rfl⟩
        go_wp2
        go_ret
        exact ⟨rfl, below_drewN hfin _⟩
    · have hie : i = text.length := by omega
      subst hie
      have e1 : decide ((text.length : Int) < (text.length : Int)) = false := by simp
      rw [List.take_length] at hsm hend hat
      have hev : evs = evsOf F := by rw [unhide HF]; exact (sm_evs hsm ⟨hl1, hl2⟩).symm
      have hF0 : (F.ended == 0) = true := by rw [unhide HF]; simpa using hend
      subst hev
      have hgw : Got wr (.slice x1 (evsOf F).length c1) (evsOf F) fp1 := (unhide HG1).keep fun k hk => by
        have := (unhide HF1 k hk).2
        rw [R.bel.block _ (by omega), Below.heap_alloc _ _ _ this]
      have HS := hide (sameEvents_eq R.got hgw)
      obtain ⟨va, vc, rfl⟩ := R.got.slice
      have hfin : Below w.heap.size w wr := (unhide HW0).trans (R.bel.mono (by omega))
      clear R hsm hend hat hx2 hgw
      go_wp2_with fail
      refine (unhide HS).mono ?_
      rintro e w' ⟨rfl, n, rfl⟩
      go_wp2
      go_ret
      exact ⟨rfl, below_drewN hfin n⟩
end Go.Proofs.YtmgfijllcdadgaaGreatDoor
