/-
  CONTRACTS of package markupkeep: run (2).
-/
import Derived.Test.YtahcpeedikpboabDoorRunH
namespace Go.Proofs.YtahcpeedikpboabDoor
set_option linter.unusedVariables false
set_option linter.unusedSimpArgs false
open Go.RowKit
open Mk (St Bs Ev Att)

set_option maxHeartbeats 4000000 in
set_option maxRecDepth 100000 in
theorem run_any (d a t : Int) (nm : Bool) (d1 : 1 ≤ d) (d2 : d ≤ 64) (a1 : 0 ≤ a) (a2 : a ≤ 32) (t1 : 8 ≤ t) (t2 : t ≤ 1024) (text : Bs) (cuts : List Int) (ca : Option Addr) (cc : Nat) (hT : text.length ≤ 1100000) (hC : cuts.length ≤ 1100000) (w : World)
    (hcut : ∀ j (hj : j < cuts.length), ∃ cg co, ca = some ⟨cg, co, none⟩ ∧ cg < w.heap.size ∧ w.cell? ⟨cg, co + j, none⟩ = some (.int .i64 cuts[j])) (hi64 : ∀ c ∈ cuts, I64 c) (hG : Gl w) (hs : 1 < w.heap.size) :
    Calls Tryd.prog 7 #[.agg #[.int .i64 d, .int .i64 a, .int .i64 t, .bool nm], .string ⟨text.toArray⟩, .slice ca cuts.length cc] w fun e w' => ∃ v fp, e = .returned (.tuple #[.agg (outCells v (runL (Mk.make_ d a t nm) [] 0 text cuts).2.2 (Mk.close (runL (Mk.make_ d a t nm) [] 0 text cuts).1).2 (runL (Mk.make_ d a t nm) [] 0 text cuts).1.at_), .bool true]) ∧ Got w' v (runL (Mk.make_ d a t nm) [] 0 text cuts).2.1 fp ∧ (∀ k ∈ fp, w.heap.size ≤ k ∧ k < w'.heap.size) ∧ Below w.heap.size w w' := by
  obtain ⟨FIN, hFIN⟩ : ∃ FIN, FIN = runL (Mk.make_ d a t nm) [] 0 text cuts := ⟨_, rfl⟩
  rw [← hFIN]
  have HFIN := hide hFIN
  have HN := hide (fun w => new_any d a t nm d1 d2 a1 a2 t1 t2 w)
  have HC := hide hcut
  have HI := hide hi64
  have HG := hide hG
  clear hFIN hcut hi64 hG
  go_enter Tryd.func7, Tryd.ntmps7
  go_wp2_with fail
  refine (unhide HN _).mono ?_
  rintro e w1 ⟨b, rfl, hb, hbel, hrd⟩
  simp at hb
  have hx1 : w1.heap[w.heap.size + 1 + 1]? = some (.cells (outCells (.slice none 0 0) 0 0 0) 34 (0, 0)) := by
    rw [hbel.block _ (by simp)]
    exact heap_alloc3_new w _ _ _
  have hx2 : w1.heap[w.heap.size + 1]? = some (.cells (outCells (.slice none 0 0) 0 0 0) 34 (0, 0)) := by
    rw [hbel.block _ (by simp)]
    rw [Below.heap_alloc _ _ _ (by simp)]
    exact heap_alloc2_new w _ _
  have hbw : Below w.heap.size w w1 := ((((Below.refl _ _).alloc (Nat.le_refl _) _).alloc (by simp) _).alloc (by simp <;> omega) _).trans (hbel.mono (by simp <;> omega))
  have HR : Hid (RunI w w1 b (Mk.make_ d a t nm) L0 (.slice none 0 0) [] [] 0 0 0) := ⟨hbw, by omega, hrd, hx1, hx2, got_nil _, (fun k hk => by cases hk), inv_make d a t nm, rfl, by simp [Mk.make_], by simp [Mk.make_], by simp, (fun e he => by cases he)⟩
  clear hx1 hx2 hbw hbel hrd hb HN
  go_wp2
  go_loopw [1, 11] (fun s1 s11 w' => ∃ (i fed : Nat) (rest : Bs) (s : St) (L : Lay) (v : Value) (evs : List Ev) (fp : List Nat) (err : Int), s1 = .string ⟨rest.toArray⟩ ∧ s11 = .int .i64 i ∧ i ≤ cuts.length + 1 ∧ fed + rest.length = text.length ∧ RunI w w' b s L v evs fp err fed i ∧ ((i ≤ cuts.length ∧ FIN = runL s evs err rest (cuts.drop i)) ∨ (i = cuts.length + 1 ∧ FIN = (s, evs, err)))) (fun _ i _ => cuts.length + 1 - (intOf i).toNat)
  case atStart => exact ⟨0, 0, text, _, _, _, _, _, _, rfl, rfl, by omega, by omega, unhide HR, .inl ⟨by omega, by rw [unhide HFIN]; rfl⟩⟩
  case round =>
    obtain ⟨i, fed, rest, s, L, v, evs, fp, err, rfl, rfl, hi, hfed, R, hor⟩ := hrel
    clear HR HFIN
    rcases hor with ⟨hile, hfin⟩ | ⟨hieq, hfin⟩
    · obtain ⟨n, hn, hn2⟩ : ∃ n : Nat, n ≤ rest.length ∧ ((i < cuts.length ∧ FIN = runL (Mk.feed s (rest.take n)).1 (join evs (Mk.feed s (rest.take n)).2.1) (Mk.feed s (rest.take n)).2.2 (rest.drop n) (cuts.drop (i + 1)) ∧ (pk (cuts[i]?.getD 0) (rest.length + 1) = n)) ∨ (i = cuts.length ∧ n = rest.length ∧ FIN = ((Mk.feed s (rest.take n)).1, join evs (Mk.feed s (rest.take n)).2.1, (Mk.feed s (rest.take n)).2.2))) := by
        by_cases hlt : i < cuts.length
        · have hb := pk_bd cuts[i] (rest.length + 1) (by omega)
          refine ⟨(pk cuts[i] (rest.length + 1)).toNat, by omega, .inl ⟨hlt, ?_, ?_⟩⟩
          · rw [hfin]; exact runL_cons s evs err rest cuts i hlt _ (by omega)
          · simp [hlt]; omega
        · refine ⟨rest.length, Nat.le_refl _, .inr ⟨by omega, rfl, ?_⟩⟩
          rw [hfin, List.drop_eq_nil_of_le (by omega), List.take_length]
          rfl
      clear hfin
      have e1 : decide ((i : Int) ≤ (cuts.length : Int)) = true := by simp; omega
      rcases hn2 with ⟨hlt, hfin, hpk⟩ | ⟨hieq, rfl, hfin⟩
      · have e2 : decide ((i : Int) < (cuts.length : Int)) = true := by simp; omega
        obtain ⟨cg, co, rfl, hcg, hcc⟩ := unhide HC i hlt
        have hci : wr.cell? ⟨cg, co + i, none⟩ = some (.int .i64 cuts[i]) := by
          have : wr.cell? ⟨cg, co + i, none⟩ = w.cell? ⟨cg, co + i, none⟩ := by simp only [World.cell?]; rw [R.bel.block _ hcg]
          rw [this]; exact hcc
        have hii := unhide HI cuts[i] (List.getElem_mem hlt)
        have hpk' : pk cuts[i] (rest.length + 1) = n := by rw [← hpk]; simp [hlt]
        have HP := hide (fun w => pick_any cuts[i] (rest.length + 1) hii.1 hii.2 (by omega) (by omega) w)
        rw [hpk'] at HP
        clear hpk' hpk hcc hii
        obtain ⟨W1, c, hconv, hbW, hW1s, hcells⟩ := conv_bytes wr (rest.take n)
        have hl : (rest.take n).length = n := by simp [hn]
        rw [← ext_take] at hconv
        obtain ⟨va, vc, rfl⟩ := R.got.slice
        have hrl := R.rd.lt
        have hrdW : RdL W1 b s L := R.rd.keep fun k hk => hbW.block k (by
          rcases hk with rfl | hk
          · exact hrl
          · exact (R.rd.foot_lt _ hk).2)
        have hGW : Gl W1 := ((unhide HG).below hs R.bel).below (by have := R.bel.size; omega) hbW
        have HF := hide (Feed_any hrdW R.inv (rest.take n) (by rw [hl]; omega) hGW (by have := R.hb; omega) R.at0 (by have := R.at1; omega) wr.heap.size c (by omega) (by omega) (fun hm => by have := (R.rd.foot_lt _ hm).2; omega) hcells)
        rw [hl] at HF hconv
        have hgot1 := R.got
        have HFN := hide hfin
        have HR := hide R
        have HBW := hide hbW
        clear R hfin hrdW hGW hcells hgot1 hbW
        go_wp2_with fail
        refine (unhide HP _).mono ?_
        rintro e w' ⟨rfl, rfl⟩
        go_wp2_with fail
        clear hconv
        refine (unhide HF).mono ?_
        rintro e w2 ⟨v2, fp2, L2, rfl, hgot2, ⟨a2, n2, c2, rfl⟩, hM, hf2⟩
        have hbx := (unhide HR).box (w.heap.size + 1 + 1) (by omega)
        have hx2 := ((unhide HR).away (unhide HBW) hM _ hbx.1 hbx.2.1 hbx.2.2).1.trans (unhide HR).xb
        have hcx : ∀ j, w2.cell? ⟨w.heap.size + 1 + 1, j, none⟩ = [.slice va evs.length vc, .int .i64 err, .int .i64 0, .int .i64 0, .int .i64 0, .int .i64 0, .slice none 0 0][j]? := fun j => by simp [World.cell?, hx2, outCells]
        have hfx : ∀ j, w2.frozen? ⟨w.heap.size + 1 + 1, j, none⟩ = false := fun j => by simp [World.frozen?, hx2]
        have hgotw2 := (unhide HR).got.keep (w' := w2) fun k hk => ((unhide HR).away (unhide HBW) hM k ((unhide HR).fpb k hk).2.1 ((unhide HR).fpb k hk).2.2.1 ((unhide HR).fpb k hk).2.2.2).1
        have hlen := feed_len s (rest.take n) (unhide HR).li
        rw [hl] at hlen
        have hevl := (unhide HR).len
        have HJ := hide (joined_any hgotw2 hgot2 ((unhide HR).apart (unhide HBW) hf2) (fun k hk => (hf2 k hk).2.1) ((4 * fed + i) * 20000000) 20000000 (unhide HR).vals (fun x hx => by have := vals_feed (unhide HR).inv (rest.take n) x hx; rw [hl] at this; omega) (by omega) (by omega))
        have HM := hide hM
        have HF2 := hide hf2
        clear hM hf2 hgot2 hgotw2 HF hlen hevl
        go_wp2_with fail
        refine (unhide HJ).mono ?_
        rintro e w3 ⟨v3, fp3, rfl, hj⟩
        obtain ⟨a3, c3, rfl⟩ := hj.got.slice
        have hw2 : w.heap.size + 1 + 1 < w2.heap.size := by
          have h1 := (unhide HBW).size
          have h2 := (unhide HM).fr.size
          omega
        have hx3 := (hj.jf.gr.block (w.heap.size + 1 + 1) hw2 (fun e => by
          have := ((unhide HR).fpb _ ((unhide HR).got.own _ e.symm)).1
          omega)).trans hx2
        have hcx3 : ∀ j, w3.cell? ⟨w.heap.size + 1 + 1, j, none⟩ = [.slice va evs.length vc, .int .i64 err, .int .i64 0, .int .i64 0, .int .i64 0, .int .i64 0, .slice none 0 0][j]? := fun j => by simp [World.cell?, hx3, outCells]
        have hfx3 : ∀ j, w3.frozen? ⟨w.heap.size + 1 + 1, j, none⟩ = false := fun j => by simp [World.frozen?, hx3]
        have hnext := (unhide HR).step (rest.take n) (unhide HBW) (unhide HM) (unhide HF2) hj (by rw [hl]; omega) (unhide HR).bel.size
        rw [hl] at hnext
        have HNX := hide hnext
        clear hj hnext hx3 hx2 HJ HM HF2 HBW hw2 hcx hfx hbx HR
        go_wp2
        obtain ⟨fp', hR'⟩ := unhide HNX
        exact ⟨⟨i + 1, fed + n, rest.drop n, _, _, _, _, fp', _, by rw [← ext_drop], rfl, by omega, by rw [List.length_drop]; omega, hR', .inl ⟨by omega, unhide HFN⟩⟩, by simp [intOf] <;> omega⟩
      · subst hieq
        have e2 : decide ((cuts.length : Int) < (cuts.length : Int)) = false := by simp
        obtain ⟨W1, c, hconv, hbW, hW1s, hcells⟩ := conv_bytes wr (rest.take rest.length)
        have hl : (rest.take rest.length).length = rest.length := by simp [hn]
        rw [← ext_take] at hconv
        obtain ⟨va, vc, rfl⟩ := R.got.slice
        have hrl := R.rd.lt
        have hrdW : RdL W1 b s L := R.rd.keep fun k hk => hbW.block k (by
          rcases hk with rfl | hk
          · exact hrl
          · exact (R.rd.foot_lt _ hk).2)
        have hGW : Gl W1 := ((unhide HG).below hs R.bel).below (by have := R.bel.size; omega) hbW
        have HF := hide (Feed_any hrdW R.inv (rest.take rest.length) (by rw [hl]; omega) hGW (by have := R.hb; omega) R.at0 (by have := R.at1; omega) wr.heap.size c (by omega) (by omega) (fun hm => by have := (R.rd.foot_lt _ hm).2; omega) hcells)
        rw [hl] at HF hconv
        have hgot1 := R.got
        have HFN := hide hfin
        have HR := hide R
        have HBW := hide hbW
        clear R hfin hrdW hGW hcells hgot1 hbW
        go_wp2_with fail
        clear hconv
        refine (unhide HF).mono ?_
        rintro e w2 ⟨v2, fp2, L2, rfl, hgot2, ⟨a2, n2, c2, rfl⟩, hM, hf2⟩
        have hbx := (unhide HR).box (w.heap.size + 1 + 1) (by omega)
        have hx2 := ((unhide HR).away (unhide HBW) hM _ hbx.1 hbx.2.1 hbx.2.2).1.trans (unhide HR).xb
        have hcx : ∀ j, w2.cell? ⟨w.heap.size + 1 + 1, j, none⟩ = [.slice va evs.length vc, .int .i64 err, .int .i64 0, .int .i64 0, .int .i64 0, .int .i64 0, .slice none 0 0][j]? := fun j => by simp [World.cell?, hx2, outCells]
        have hfx : ∀ j, w2.frozen? ⟨w.heap.size + 1 + 1, j, none⟩ = false := fun j => by simp [World.frozen?, hx2]
        have hgotw2 := (unhide HR).got.keep (w' := w2) fun k hk => ((unhide HR).away (unhide HBW) hM k ((unhide HR).fpb k hk).2.1 ((unhide HR).fpb k hk).2.2.1 ((unhide HR).fpb k hk).2.2.2).1
        have hlen := feed_len s (rest.take rest.length) (unhide HR).li
        rw [hl] at hlen
        have hevl := (unhide HR).len
        have HJ := hide (joined_any hgotw2 hgot2 ((unhide HR).apart (unhide HBW) hf2) (fun k hk => (hf2 k hk).2.1) ((4 * fed + cuts.length) * 20000000) 20000000 (unhide HR).vals (fun x hx => by have := vals_feed (unhide HR).inv (rest.take rest.length) x hx; rw [hl] at this; omega) (by omega) (by omega))
        have HM := hide hM
        have HF2 := hide hf2
        clear hM hf2 hgot2 hgotw2 HF hlen hevl
        go_wp2_with fail
        refine (unhide HJ).mono ?_
        rintro e w3 ⟨v3, fp3, rfl, hj⟩
        obtain ⟨a3, c3, rfl⟩ := hj.got.slice
        have hw2 : w.heap.size + 1 + 1 < w2.heap.size := by
          have h1 := (unhide HBW).size
          have h2 := (unhide HM).fr.size
          omega
        have hx3 := (hj.jf.gr.block (w.heap.size + 1 + 1) hw2 (fun e => by
          have := ((unhide HR).fpb _ ((unhide HR).got.own _ e.symm)).1
          omega)).trans hx2
        have hcx3 : ∀ j, w3.cell? ⟨w.heap.size + 1 + 1, j, none⟩ = [.slice va evs.length vc, .int .i64 err, .int .i64 0, .int .i64 0, .int .i64 0, .int .i64 0, .slice none 0 0][j]? := fun j => by simp [World.cell?, hx3, outCells]
        have hfx3 : ∀ j, w3.frozen? ⟨w.heap.size + 1 + 1, j, none⟩ = false := fun j => by simp [World.frozen?, hx3]
        have hnext := (unhide HR).step (rest.take rest.length) (unhide HBW) (unhide HM) (unhide HF2) hj (by rw [hl]; omega) (unhide HR).bel.size
        rw [hl] at hnext
        have HNX := hide hnext
        clear hj hnext hx3 hx2 HJ HM HF2 HBW hw2 hcx hfx hbx HR
        go_wp2
        obtain ⟨fp', hR'⟩ := unhide HNX
        have hfn := unhide HFN
        rw [List.take_length] at hR' hfn
        exact ⟨⟨cuts.length + 1, fed + rest.length, [], _, _, _, _, fp', _, rfl, rfl, by omega, by simpa using hfed, hR', .inr ⟨rfl, hfn⟩⟩, by simp [intOf] <;> omega⟩
    · have e1 : decide ((i : Int) ≤ (cuts.length : Int)) = false := by simp; omega
      have HFN := hide hfin
      have HR := hide R
      have HK := hide (close_any R.rd)
      have hbs := R.hb
      have hnx : w.heap.size + 1 + 1 ∉ foot s L := fun hm => by have := (R.rd.foot_lt _ hm).1; omega
      have hnr : w.heap.size + 1 ∉ foot s L := fun hm => by have := (R.rd.foot_lt _ hm).1; omega
      have hszr := R.rd.lt
      clear R hfin
      go_wp2_with fail
      refine (unhide HK).mono ?_
      rintro e w1 ⟨rfl, L1, hm1⟩
      have hx1 : w1.heap[w.heap.size + 1 + 1]? = some (.cells (outCells v err 0 0) 34 (0, 0)) := (hm1.fr.block _ (by omega) (by omega) hnx).trans (unhide HR).xb
      have hr1 : w1.heap[w.heap.size + 1]? = some (.cells (outCells (.slice none 0 0) 0 0 0) 34 (0, 0)) := (hm1.fr.block _ (by omega) (by omega) hnr).trans (unhide HR).rb
      have hcx : ∀ j, w1.cell? ⟨w.heap.size + 1 + 1, j, none⟩ = [v, .int .i64 err, .int .i64 0, .int .i64 0, .int .i64 0, .int .i64 0, .slice none 0 0][j]? := fun j => by simp [World.cell?, hx1, outCells]
      have hfx : ∀ j, w1.frozen? ⟨w.heap.size + 1 + 1, j, none⟩ = false := fun j => by simp [World.frozen?, hx1]
      have hcr : ∀ j, w1.cell? ⟨w.heap.size + 1, j, none⟩ = [.slice none 0 0, .int .i64 0, .int .i64 0, .int .i64 0, .int .i64 0, .int .i64 0, .slice none 0 0][j]? := fun j => by simp [World.cell?, hr1, outCells]
      have hfr : ∀ j, w1.frozen? ⟨w.heap.size + 1, j, none⟩ = false := fun j => by simp [World.frozen?, hr1]
      have hsz1 := hm1.fr.size
      have hgot1 : Got w1 v evs fp := (unhide HR).got.keep fun q hq => hm1.fr.block q ((unhide HR).fpb q hq).2.1 ((unhide HR).fpb q hq).2.2.1 ((unhide HR).fpb q hq).2.2.2
      have hbel1 : Below w.heap.size w w1 := (unhide HR).bel.trans ⟨hm1.fr.os, hm1.fr.tape, hm1.fr.output, hm1.fr.size, fun q hq => hm1.fr.block q (by omega) (by omega) (fun hm => by have := ((unhide HR).rd.foot_lt _ hm).1; omega)⟩
      have hnx1 : w.heap.size + 1 + 1 ∉ foot (Mk.close s).1 L1 := fun hm => by have := (hm1.rd.foot_lt _ hm).1; omega
      have hrd2 : RdL (w1.setCell ⟨w.heap.size + 1 + 1, 2, none⟩ (.int .i64 (Mk.close s).2)) b (Mk.close s).1 L1 := hm1.rd.keep fun q hq => Below.heap_setCell _ _ _ _ (by
        show q ≠ w.heap.size + 1 + 1
        rcases hq with rfl | hq
        · omega
        · intro e; rw [e] at hq; exact hnx1 hq)
      have HA := hide (at_any hrd2)
      have HG1 := hide hgot1
      have HB1 := hide hbel1
      have HFB := hide (fun q hq => ((unhide HR).fpb q hq).1)
      have HFB2 := hide (fun q hq => ((unhide HR).fpb q hq).2.1)
      have hcl := close_at s
      obtain ⟨va, vn, vc, rfl⟩ : ∃ a n c, v = .slice a n c := by obtain ⟨es, _, hrw, _⟩ := hgot1.ex; obtain ⟨x1, x2, x3⟩ := slice_form hrw; exact ⟨_, _, _, x3⟩
      have HR1 := hide hr1
      clear hm1 hx1 hr1 hgot1 hbel1 hrd2 hnx1 hnx hnr HK HR
      go_wp2_with (first
        | (go_at_call 16; refine (unhide HA).mono ?_; rintro e w' ⟨rfl, rfl⟩)
        | (go_at_call 17; refine (place_any _ _).mono ?_; rintro e w' ⟨rfl, rfl⟩)
        | (go_at_call 18; refine (open_any _ _).mono ?_; rintro e w' ⟨rfl, rfl⟩))
      rw [unhide HFN]
      refine bodyPost_ret (w := outW w1 (w.heap.size + 1 + 1) (w.heap.size + 1) (.int .i64 (Mk.close s).2) (.int .i64 s.at_) (.int .i64 0) (.int .i64 0) (.slice none 0 0) (.slice va vn vc) (.int .i64 err) (.int .i64 (Mk.close s).2) (.int .i64 s.at_) (.int .i64 0) (.int .i64 0) (.slice none 0 0)) (v := .tuple #[.agg (outCells (.slice va vn vc) err (Mk.close s).2 s.at_), .bool true]) ?r1 rfl ⟨_, fp, rfl, ?g1, ?g2, ?g3⟩
      case r1 => exact results_row_tmp (P := Tryd.prog) (fn := Tryd.f7) (p := 6) (u := 7) (ty := 34) rfl _ _ (w.heap.size + 1) 34 _ (0, 0) _ rfl (outW_row _ _ _ _ _ _ _ _ _ _ _ _ _ _ _ (show w.heap.size + 1 ≠ w.heap.size + 1 + 1 by omega) _ _ _ _ _ _ _ _ (unhide HR1)) Tryd.underlying34 rfl rfl
      case g1 => exact (unhide HG1).keep fun q hq => outW_block _ _ _ _ _ _ _ _ _ _ _ _ _ _ _ q (by have := unhide HFB q hq; omega) (by have := unhide HFB q hq; omega)
      case g2 =>
        intro q hq
        have h1 := unhide HFB q hq
        have h2 := unhide HFB2 q hq
        rw [outW_size]
        exact ⟨by omega, by omega⟩
      case g3 => exact outW_below _ _ _ _ _ _ _ _ _ _ _ _ _ _ _ (unhide HB1) (by omega) (by omega)
end Go.Proofs.YtahcpeedikpboabDoor
