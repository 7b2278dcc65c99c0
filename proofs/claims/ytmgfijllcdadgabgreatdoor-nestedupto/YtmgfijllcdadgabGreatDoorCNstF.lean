/- NstF -/
import Derived.Test.YtmgfijllcdadgabGreatDoorCNstD
import Derived.Test.YtmgfijllcdadgabGreatDoorCNest7
namespace Go.Proofs.YtmgfijllcdadgabGreatDoor
set_option linter.unusedVariables false
set_option linter.unusedSimpArgs false
open Go.RowKit
open Mk (St Bs Ev Att)

set_option maxHeartbeats 8000000 in
set_option maxRecDepth 100000 in
theorem nested_any (d a t : Int) (d1 : 1 ≤ d) (d2 : d ≤ 64) (a1 : 0 ≤ a) (a2 : a ≤ 32) (t1 : 8 ≤ t) (t2 : t ≤ 1024) (text : Bs) (hT : text.length ≤ 1048576) (w : World) (hG : Gl w) (hs : 6 < w.heap.size) :
    Calls Tryz.prog 13 #[.agg #[.int .i64 d, .int .i64 a, .int .i64 t, .bool false], .string ⟨text.toArray⟩] w fun e w' => e = .returned (.bool true) ∧ Below w.heap.size w w' := by
  have hdoc := compl_doc d a t d1 t1 a2 text
  have hisd := compl_isDoc d a t d1 t1 a2 text
  have hDl : (compl (Mk.make_ d a t false) text).length ≤ 1119000 := by
    have h1 := upTo_len (Mk.make_ d a t false) text
    have h2 := rest_short (W_text d a t false d1 t1 a2 text) (by rw [(opts_feedAll d a t false _).1]; exact d2) (by rw [(opts_feedAll d a t false _).2.1]; exact t2)
    unfold compl
    rw [List.length_append]
    have := h2.1
    omega
  have HCP := hide (fun w hG hs => completed_any d a t false d1 d2 a1 a2 t1 t2 text hT w hG hs)
  have HN := hide (fun w => new_any d a t false d1 d2 a1 a2 t1 t2 w)
  have HINV := hide (inv_make d a t false a2)
  have HWM := hide (w_make d a t false d1 t1 a2)
  have HVM := hide (v_make d a t t1 a1)
  have HDOC := hide (evs_doc d a t d1 t1 a1 a2 (compl (Mk.make_ d a t false) text) (by omega) hdoc.1 hisd)
  have HEND := hide (take_right hdoc.1)
  have HCL := hide hdoc.2.1
  have HIS := hide hisd
  have hE0 := hdoc.1
  clear hdoc hisd
  generalize compl (Mk.make_ d a t false) text = D at *
  have HE0 := hide hE0
  have HG := hide hG
  clear hG d1 d2 a1 a2 t1 t2 hE0
  go_enter Tryz.func13, Tryz.ntmps13
  go_wp2_with fail
  have hb0 := (Below.refl w.heap.size w).alloc (Nat.le_refl _) (.cells #[.int .i64 d, .int .i64 a, .int .i64 t, .bool false] 25 (0, 0))
  refine (unhide HCP _ ((unhide HG).below hs hb0) (by simp; omega)).mono ?_
  rintro e w1 ⟨rfl, hb1⟩
  have hx1 : w1.heap[w.heap.size]? = some (.cells #[.int .i64 d, .int .i64 a, .int .i64 t, .bool false] 25 (0, 0)) := by
    rw [hb1.block _ (by simp)]
    exact heap_alloc_new w _
  have hsz1 : w.heap.size < w1.heap.size := (Array.getElem?_eq_some_iff.1 hx1).1
  have hc1 : ∀ j, w1.cell? ⟨w.heap.size, j, none⟩ = [.int .i64 d, .int .i64 a, .int .i64 t, .bool false][j]? := fun j => by simp [World.cell?, hx1]
  have hbw1 : Below w.heap.size w w1 := hb0.trans (hb1.mono (by simp))
  clear hb1 hb0 HCP
  go_wp2_with fail
  refine (unhide HN _).mono ?_
  rintro e w2 ⟨b, rfl, hb, hb3, hrd⟩
  have hb32 := hb3.size
  have hsb := hrd.lt
  have R0 : EarlyI w1.heap.size w1 w2 b (Mk.make_ d a t false) (L0 b) (.slice none 0 0) [] [] 0 :=
    ⟨hb3, by omega, hrd, got_nil _, (fun k hk => by cases hk), unhide HINV, rfl, by simp [Mk.make_], by simp [Mk.make_], by simp, (fun e he => by cases he), rfl⟩
  have O0 : OpI w1.heap.size w2 b (Mk.make_ d a t false) (L0 b) [] (.slice none 0 0) := ⟨owned_nil (r := ⟨9, 1, .slice none 0 0, 0, []⟩) ⟨rfl, rfl, rfl⟩, fun k hk => by cases hk⟩
  have HR := hide (And.intro R0 O0)
  have HX1 := hide hx1
  have HBW1 := hide hbw1
  clear R0 O0 hrd hb3 hc1 hx1 hbw1 HN
  go_wp2_with fail
  go_loopw [9, 10, 11] (fun s9 s10 s11 w' => ∃ (i : Nat) (s : St) (L : Lay) (v ov : Value) (evs : List Ev) (fp : List Nat), s9 = ov ∧ s10 = v ∧ s11 = .int .i64 i ∧ i ≤ D.length ∧ EarlyI w1.heap.size w1 w' b s L v evs fp i ∧ OpI w1.heap.size w' b s L fp ov ∧ Sm evs (Mk.feedAll (Mk.make_ d a t false) (D.take i)) s ∧ s.list = [] ∧ s.text = [] ∧ s.ended = 0 ∧ W s ∧ V s) (fun _ _ i _ => D.length - (intOf i).toNat)
  case atStart => exact ⟨0, _, _, _, _, _, _, rfl, rfl, rfl, by omega, (unhide HR).1, (unhide HR).2, ⟨[], [], rfl, rfl⟩, rfl, rfl, rfl, unhide HWM, unhide HVM⟩
  case round =>
    obtain ⟨i, s, L, v, ov, evs, fp, rfl, rfl, rfl, hi, R, O, hsm, hl1, hl2, hse, hW, hV⟩ := hrel
    clear HR
    have hbwr : Below w.heap.size w wr := (unhide HBW1).trans (R.bel.mono (by omega))
    by_cases hlt : i < D.length
    · have e1 : decide ((i : Int) < (D.length : Int)) = true := by simp; omega
      obtain ⟨W1, c, hconv, hbW, hW1s, hcells⟩ := conv_bytes wr [D[i]]
      rw [← ext_one D i hlt] at hconv
      obtain ⟨va, vc, rfl⟩ := R.got.slice
      obtain ⟨oa, oc, rfl⟩ := slice_form O.row
      have hrl := R.rd.lt
      have hrdW : RdL W1 b s L := R.rd.keep fun k hk => hbW.block k (by
        rcases hk with rfl | hk
        · exact hrl
        · exact (R.rd.foot_lt _ hk).2)
      have hGW : Gl W1 := ((unhide HG).below hs hbwr).below (by have := hbwr.size; omega) hbW
      have HFd := hide (Feed_any hrdW R.inv [D[i]] (by simp; omega) hGW (by have := R.hb; omega) R.at0 (by have := R.at1; omega) wr.heap.size c (by omega) (by omega) (fun hm => by have := (R.rd.foot_lt _ hm).2; omega) hcells)
      have hst := early_step D[i] hsm ⟨hl1, hl2⟩ (unhide HEND i)
      rw [← take_more D i hlt] at hst
      have hf0 : (Mk.feed s [D[i]]).2.2 = 0 := by rw [hst.2.2.2.1]; exact unhide HEND (i + 1)
      have hWn := w_feed hW hse D[i] hf0
      have hVn := v_feed hW hV hse D[i] hf0
      have hen := (feed_ended hse D[i]).trans hf0
      have hstk := stk_feed hW hV hse hl1 hl2 D[i] hf0
      have hopl : (Mk.feed s [D[i]]).1.opn.length ≤ 1000000000 ∧ s.opn.length ≤ 100000000 := by
        have h1 := (inv_feed R.inv [D[i]]).ho
        have h2 := R.inv.ho
        simp at h1
        omega
      have HST := hide hst
      have HR := hide R
      have HO := hide O
      have HBW := hide hbW
      have HBR := hide hbwr
      have HSK := hide hstk
      have HN := hide (And.intro hWn (And.intro hVn hen))
      clear R O hrdW hGW hcells hbW hbwr hst hsm hstk hWn hVn hen hW hV hse
      go_wp2_with fail
      clear hconv
      refine (unhide HFd).mono ?_
      rintro e w2' ⟨v2, fp2, L2, rfl, hgot2, ⟨a2, n2, c2, rfl⟩, hM, hf2⟩
      obtain ⟨a2', c2', hv2⟩ := hgot2.slice
      have hlen : (Mk.feed s [D[i]]).2.1.length ≤ 133 := feed_len5 s [D[i]] (unhide HR).inv hl1 hl2
      have hevl := (unhide HR).len
      have hk2 : ∀ k, (Value.slice oa s.opn.length oc).ownBlock = some k → w2'.heap[k]? = wr.heap[k]? := fun k hk => ((unhide HR).away (unhide HBW) hM k ((unhide HO).ap k hk).2.1 ((unhide HO).ap k hk).2.2.1 ((unhide HO).ap k hk).2.2.2.1).1
      have hrow2 : w2'.ownsRow w1.heap.size 9 1 (.slice oa s.opn.length oc) s.opn.length (s.opn.map sv) := owned_keep (r := ⟨9, 1, .slice oa s.opn.length oc, _, _⟩) (unhide HO).row hk2
      have hbs2 : w1.heap.size ≤ w2'.heap.size := by have h1 := (unhide HR).bel.size; have h2 := (unhide HBW).size; have h3 := hM.fr.size; omega
      have HSt := hide (stack_any (ec := c2) hrow2 hbs2 ((unhide HR).evs2 [D[i]] (unhide HO) (unhide HBW) hv2 hgot2 hf2) (unhide HSK) (by omega))
      injection hv2 with hv2a hv2n hv2c
      subst hv2a hv2n hv2c
      have HM := hide hM
      have HF2 := hide hf2
      have HG2 := hide hgot2
      clear hM hf2 hgot2 HFd hrow2 hk2
      go_wp2_with fail
      refine (unhide HSt).mono ?_
      rintro e w2s ⟨nv, rfl, hrown, jf⟩
      obtain ⟨na, nc, rfl⟩ := slice_form hrown
      have hrds : RdL w2s b (Mk.feed s [D[i]]).1 L2 := (unhide HM).rd.keep fun k hk => by
        have hkl : k < w2'.heap.size := by
          rcases hk with rfl | hk
          · exact (unhide HM).rd.lt
          · exact ((unhide HM).rd.foot_lt _ hk).2
        refine jf.gr.block k hkl fun e => ?_
        have h1 := (unhide HO).ap k e.symm
        rcases hk with rfl | hk
        · exact h1.2.2.1 rfl
        · exact ((unhide HR).away (unhide HBW) (unhide HM) k h1.2.1 h1.2.2.1 h1.2.2.2.1).2 hk
      have HOp := hide (open_any hrds hopl.1)
      have HJF := hide jf
      have HRN := hide hrown
      clear hrds jf hrown HSt
      go_wp2_with fail
      refine (unhide HOp).mono ?_
      rintro e w2o ⟨pa, pc, rfl, hopen, hbo⟩
      have hrno : w2o.ownsRow w1.heap.size 9 1 (.slice na (Mk.feed s [D[i]]).1.opn.length nc) (Mk.feed s [D[i]]).1.opn.length ((Mk.feed s [D[i]]).1.opn.map sv) := owned_keep (r := ⟨9, 1, .slice na (Mk.feed s [D[i]]).1.opn.length nc, _, _⟩) (unhide HRN) fun k hk => hbo.block k (World.ownsRow.lt (unhide HRN) k hk).2
      have HSN := hide (sameNames_eq (n1 := w2s.heap.size) (n2 := w1.heap.size) (l := (Mk.feed s [D[i]]).1.opn) hopen hrno)
      have HBO := hide hbo
      clear hopen hbo hrno HOp
      go_wp2_with fail
      refine (unhide HSN).mono ?_
      rintro e w' ⟨rfl, n, rfl⟩
      have hbd : Below w2s.heap.size w2s (w2o.drewN n) := below_drewN (unhide HBO) n
      have hkv : ∀ k, k < w2'.heap.size → (Value.slice oa s.opn.length oc).ownBlock ≠ some k → (w2o.drewN n).heap[k]? = w2'.heap[k]? := fun k hk hne => by
        have h1 := (unhide HJF).gr.size
        rw [hbd.block k (by omega), (unhide HJF).gr.block k hk (fun e => hne e.symm)]
      have hgotA : Got (w2o.drewN n) (.slice va evs.length vc) evs fp := (unhide HR).got.keep (w' := w2o.drewN n) fun k hk => by
        have h1 := (unhide HR).fpb k hk
        have h2 := (unhide HR).away (unhide HBW) (unhide HM) k h1.2.1 h1.2.2.1 h1.2.2.2
        have h3 := (unhide HBW).size
        have h4 := (unhide HM).fr.size
        rw [hkv k (by omega) (fun e => ((unhide HO).ap k e).2.2.2.2 hk)]
        exact h2.1
      have hgotB := (unhide HG2).keep (w' := w2o.drewN n) fun k hk => by
        have h1 := unhide HF2 k hk
        refine hkv k h1.2.1 fun e => ?_
        have h2 := (unhide HO).ap k e
        have h3 := (unhide HBW).size
        rcases h1.2.2.2 with h | h
        · exact h2.2.2.2.1 h
        · omega
      have hszo : w2'.heap.size ≤ (w2o.drewN n).heap.size := by have h1 := (unhide HJF).gr.size; have h2 := hbd.size; omega
      have HJ := hide (joined_any hgotA hgotB ((unhide HR).apart (unhide HBW) (unhide HF2)) (fun k hk => by have := (unhide HF2 k hk).2.1; omega) (i * 2660000000) 20000000 (unhide HR).vals (fun x hx => by have := vals_feed (unhide HR).inv [D[i]] x hx; simp at this; omega) (by omega) (by omega))
      have HBD := hide hbd
      have e4 : ((Mk.feed s [D[i]]).2.2 != 0) = false := by rw [hf0]; rfl
      clear hgotA hgotB hkv hbd hszo HSN
      go_wp2_with fail
      refine (unhide HJ).mono ?_
      rintro e w3' ⟨v3, fp3, rfl, hj⟩
      obtain ⟨a3, c3, rfl⟩ := hj.got.slice
      have hnext := (unhide HR).step2 [D[i]] rfl (unhide HO) (unhide HBW) (unhide HM) (unhide HF2) (unhide HJF) (unhide HRN) (unhide HBD) hj (by omega)
      have HNX := hide hnext
      clear hj hnext HJ HM HF2 HBW HBR HR HO HJF HRN HBD HBO HG2
      go_wp2
      obtain ⟨fp', hR', hO'⟩ := unhide HNX
      exact ⟨⟨i + 1, _, _, _, _, _, fp', rfl, rfl, rfl, by omega, hR', hO', (unhide HST).1, (unhide HST).2.1, (unhide HST).2.2.1, (unhide HN).2.2, (unhide HN).1, (unhide HN).2.1⟩, by simp [intOf] <;> omega⟩
    · have hie : i = D.length := by omega
      subst hie
      have e1 : decide ((D.length : Int) < (D.length : Int)) = false := by simp
      rw [List.take_length] at hsm
      have hev : evsOf (Mk.feedAll (Mk.make_ d a t false) D) = evs := sm_evs hsm ⟨hl1, hl2⟩
      obtain ⟨H, hs1, hs2, hs3, hs4, hs5, hs6, hs7, hs8, hs9⟩ := unhide HDOC
      rw [hev] at hs1 hs9 hs7
      have hevl : evs.length ≤ 1000000000 := by rw [hs7]; exact hs8
      have hisd : Mk.isDocument s = true := by
        have h1 := unhide HIS
        obtain ⟨L1, T1, hL1, _⟩ := hsm
        generalize Mk.feedAll (Mk.make_ d a t false) D = FF at *
        rw [hL1]
        exact h1
      have hcl : (Mk.close s).2 = 0 := by
        unfold Mk.close
        rw [if_pos hse, if_pos hisd]
      obtain ⟨va, vc, rfl⟩ := R.got.slice
      have HC := hide (close_any R.rd)
      have HR := hide R
      have HBR := hide hbwr
      have HSH := hide (fun (w' : World) (hg : Got w' (.slice va evs.length vc) evs fp) hfp => shape_any hg hfp hs1 hs2 hs3 hevl hs9)
      have f1 : decide ((H.dep : Int) ≤ d) = true := by simpa using hs4
      have f2 : decide ((H.att : Int) ≤ a) = true := by simpa using hs5
      have f3 : decide ((H.tok : Int) ≤ t) = true := by simpa using hs6
      clear R O hsm hev hs1 hs2 hs3 hs4 hs5 hs6 hs7 hs8 hs9 hisd hbwr hW hV HDOC
      go_wp2_with fail
      refine (unhide HC).mono ?_
      rintro e w2' ⟨rfl, L', hM⟩
      rw [hcl]
      have hfr : ∀ k, k < wr.heap.size → k ≠ b → k ∉ foot s L → w2'.heap[k]? = wr.heap[k]? := fun k hk h1 h2 => hM.fr.block k hk h1 h2
      have hgot2 : Got w2' (.slice va evs.length vc) evs fp := (unhide HR).got.keep fun k hk => hfr k ((unhide HR).fpb k hk).2.1 ((unhide HR).fpb k hk).2.2.1 ((unhide HR).fpb k hk).2.2.2
      have hs2' := hM.fr.size
      have HS2 := hide (unhide HSH w2' hgot2 (fun k hk => by have := ((unhide HR).fpb k hk).2.1; omega))
      have hox : w2'.heap[w.heap.size]? = some (.cells #[.int .i64 d, .int .i64 a, .int .i64 t, .bool false] 25 (0, 0)) := by
        have hbx := (unhide HR).box w.heap.size (by omega)
        rw [hfr _ hbx.1 hbx.2.1 hbx.2.2, (unhide HR).bel.block _ (by omega)]
        exact unhide HX1
      have hbw2 : Below w.heap.size w w2' := (unhide HBR).trans ⟨hM.fr.os, hM.fr.tape, hM.fr.output, hM.fr.size, fun k hk => by
        have hbx := (unhide HR).box k (by omega)
        exact hfr k hbx.1 hbx.2.1 hbx.2.2⟩
      have HOX := hide hox
      have HBW2 := hide hbw2
      have hsz2 : w.heap.size < w2'.heap.size := (Array.getElem?_eq_some_iff.1 hox).1
      clear hfr hgot2 hM HC HR hox hbw2
      go_wp2_with fail
      refine (unhide HS2).mono ?_
      rintro e w3' ⟨rfl, hb3'⟩
      have hox3 : w3'.heap[w.heap.size]? = some (.cells #[.int .i64 d, .int .i64 a, .int .i64 t, .bool false] 25 (0, 0)) := (hb3'.block _ hsz2).trans (unhide HOX)
      have hc3 : ∀ j, w3'.cell? ⟨w.heap.size, j, none⟩ = [.int .i64 d, .int .i64 a, .int .i64 t, .bool false][j]? := fun j => by simp [World.cell?, hox3]
      have HFI := hide ((unhide HBW2).trans (hb3'.mono (by omega)))
      have hsz3 : w.heap.size < w3'.heap.size := (Array.getElem?_eq_some_iff.1 hox3).1
      clear hox3 hb3' HS2
      go_wp2
      go_ret
      exact ⟨rfl, unhide HFI⟩
end Go.Proofs.YtmgfijllcdadgabGreatDoor
