/-
  CONTRACTS of package markup (3): Feed.
-/
import Derived.Test.YtkkakfocjbnomaaDoorFeed
namespace Go.Proofs.YtkkakfocjbnomaaDoor
set_option linter.unusedVariables false
set_option linter.unusedSimpArgs false
open Go.RowKit
open Mk (St Bs Ev Att)

theorem got_nil (w : World) : Got w (.slice none 0 0) [] [] :=
  ⟨[], rfl, World.ownsRow_nil w 0 _ _, (fun p hp => by cases hp), (fun k hv => by cases hv), (fun k hk => by cases hk)⟩

set_option maxHeartbeats 1000000 in
theorem Feed_any {w : World} {b k : Nat} {s : St} {L : Lay} (h : RdL w b s L) (hI : Inv k s) (l : Bs) (hk : k + 12 * l.length ≤ 70000000) (hG : Gl w) (hb2 : 1 < b) (a0 : 0 ≤ s.at_) (a1 : s.at_ ≤ 1000000000) (g c : Nat) (hg : g < w.heap.size) (hgb : g ≠ b) (hgf : g ∉ foot s L)
    (hp : ∀ j (hj : j < l.length), w.cell? ⟨g, j, none⟩ = some (.int .u8 (l[j].toNat : Int))) :
    Calls Tryd.prog 18 #[.pointer (some ⟨b, 0, none⟩), .slice (some ⟨g, 0, none⟩) l.length c] w fun e w' => ∃ v fp L', e = .returned (.tuple #[v, .int .i64 (Mk.feed s l).2.2]) ∧ Got w' v (Mk.feed s l).2.1 fp ∧ (∃ a n c, v = .slice a n c) ∧ Mv w b (foot s L) w' (Mk.feed s l).1 L' ∧ ∀ k ∈ fp, b < k ∧ k < w'.heap.size ∧ k ∉ foot (Mk.feed s l).1 L' ∧ (k ∈ foot s L ∨ w.heap.size ≤ k) := by
  by_cases e1 : s.ended = 0
  · have hr : Mk.feed s l = (Mk.take (Mk.feedAll s l), (Mk.endText (Mk.feedAll s l)).list, (Mk.feedAll s l).ended) := by simp [Mk.feed, e1]
    rw [hr]
    clear hr
    have hc := h.cell
    have hlt := h.lt
    have hfl := h.foot_lt
    have hblk : ∃ o, w.heap[g]? = some o := by
      cases ho : w.heap[g]? with
      | none => simp at ho; omega
      | some o => exact ⟨o, rfl⟩
    have HM := hide h
    have HG := hide hG
    have HI := hide hI
    have HP := hide hp
    have HFL := hide hfl
    unfold cellsOf at hc
    clear h hG hI hp hfl hblk
    have hgn : ((g : Nat) == b) = false := by rw [beq_eq_false_iff_ne]; exact hgb
    obtain ⟨rr, hrr⟩ : ∃ rr, rr = Mk.feedAll s l := ⟨_, rfl⟩
    have HRR := hide hrr
    rw [← hrr]
    clear hrr
    go_enter Tryd.func18, Tryd.ntmps18
    go_wp2
    go_loopw [6] (fun i w' => ∃ k : Nat, k ≤ l.length ∧ i = .int .i64 k ∧ ∃ L1, Mv w b (foot s L) w' (Mk.feedAll s (l.take k)) L1) (fun i _ => l.length - (intOf i).toNat)
    case atStart => exact ⟨0, by omega, rfl, L, (unhide HM).start⟩
    case round =>
      obtain ⟨j, hj, rfl, L1, hm⟩ := hrel
      clear hc
      have hgf1 : g ∉ foot (Mk.feedAll s (l.take j)) L1 := fun hin => by
        rcases hm.fr.foot g hin with h9 | h9
        · exact hgf h9
        · omega
      have hin1 := inv_feedAll (l.take j) (unhide HI)
      have hat1 := feedAll_at (l.take j) s
      have hln : (l.take j).length = j := by simp; omega
      rw [hln] at hin1 hat1
      have hG1 := hm.gl (unhide HG) hb2 (by omega) (fun q hq => ((unhide HFL) q hq).1)
      have hgk : wr.heap[g]? = w.heap[g]? := hm.fr.block g hg hgb hgf
      by_cases hjl : j < l.length
      · have hsn := feedAll_snoc (l.take j) l[j] s
        rw [← List.take_succ_eq_append_getElem hjl] at hsn
        have hcell : wr.cell? ⟨g, j, none⟩ = some (.int .u8 (l[j].toNat : Int)) := (World.cell?_of_block (a := ⟨g, j, none⟩) hgk).trans ((unhide HP) j hjl)
        by_cases e2 : (Mk.feedAll s (l.take j)).ended = 0
        · have hby := byte_le l[j]
          have hfb : Mk.feedByte (Mk.feedAll s (l.take j)) l[j] = { (Mk.read { Mk.feedAll s (l.take j) with at_ := (Mk.feedAll s (l.take j)).at_ + 1 } (l[j].toNat : Int)).1 with ended := (Mk.read { Mk.feedAll s (l.take j) with at_ := (Mk.feedAll s (l.take j)).at_ + 1 } (l[j].toNat : Int)).2 } := by
            unfold Mk.feedByte
            rw [if_pos e2]
          rw [hfb] at hsn
          clear hfb
          generalize (l[j].toNat : Int) = x at *
          generalize hs2 : Mk.feedAll s (l.take (j + 1)) = s2 at *
          generalize Mk.feedAll s (l.take j) = s1 at *
          have hm1 := (hm.store 26 (.int .i64 (s1.at_ + 1)) { s1 with at_ := s1.at_ + 1 } rfl rfl rfl).drew
          have hG2 := hm1.gl (unhide HG) hb2 (by omega) (fun q hq => ((unhide HFL) q hq).1)
          have HX := hide (read_any hm1.rd (Inv.mk (s := { s1 with at_ := s1.at_ + 1 }) hin1.hx hin1.ht hin1.c0 hin1.c1 hin1.hl hin1.ho hin1.ha hin1.hs hin1.pt hin1.rn hin1.r0 hin1.r1 hin1.m0 hin1.m1 hin1.am hin1.on hin1.hn hin1.ev hin1.l0 hin1.l1 hin1.cl0 hin1.cl1) (by omega) x hby.1 hby.2 hG2 hb2)
          have hc := hm.rd.cell
          have hf := hm.rd.frozen
          have hlt1 := hm.rd.lt
          have HM1 := hide hm1
          have HSN := hide hsn
          have HS2 := hide hs2
          unfold cellsOf at hc
          clear hm hm1 hG1 hG2 hin1 hsn hs2 hgk hgf1 hby
          generalize hr2 : Mk.read { s1 with at_ := s1.at_ + 1 } x = r2 at *
          have HR2 := hide hr2
          clear hr2
          go_wp2
          go_region_with (go_at_call 29; refine (unhide HX).mono ?_; rintro e w1 ⟨rfl, L2, hm2⟩; have hc2 := hm2.rd.cell; have hf2 := hm2.rd.frozen; have hlt2 := hm2.rd.lt; have HM2 := hide hm2; clear hm2; unfold cellsOf at hc2)
          all_goals
            go_wp2
            go_roundw
            case rel =>
              refine ⟨j + 1, by omega, by go_num, L2, ?_⟩
              rw [unhide HS2, unhide HSN]
              exact ((unhide HM1).call (unhide HM2)).store 27 _ _ rfl rfl rfl
            case measure => simp [intOf]; omega
        · have hfin : Mk.feedAll s (l.take j) = rr := by
            rw [unhide HRR]
            have h9 : l = l.take j ++ l.drop j := (List.take_append_drop j l).symm
            conv => rhs; rw [h9]
            rw [feedAll_append, feedAll_ended (l.drop j) _ e2]
          rw [hfin] at hm hin1 hgf1
          have HK := hide (Take_any hm.rd (by have := hin1.hx; omega) (by have := hin1.hl; omega))
          have hc := hm.rd.cell
          have hlt1 := hm.rd.lt
          have HM1 := hide hm
          have e3 : (rr.ended == 0) = false := by rw [beq_eq_false_iff_ne, ← hfin]; exact e2
          unfold cellsOf at hc
          clear hm hG1 hin1 hgk hgf1 hfin hat1 HRR
          go_wp2_with fail
          refine (unhide HK).mono ?_
          rintro e w1 ⟨v, fp, L2, rfl, hgot, ⟨va, vn, vc, rfl⟩, hm2, hfp⟩
          have hc2 := hm2.rd.cell
          have hlt2 := hm2.rd.lt
          have HG2 := hide hgot
          have HM2 := hide hm2
          have HFP := hide hfp
          have een : (Mk.take rr).ended = rr.ended := by unfold Mk.take Mk.endText; split <;> rfl
          unfold cellsOf at hc2
          clear hgot hm2 hfp HK hc
          go_wp2
          go_quiet (fail)
          go_wp2
          go_ret2
          refine ⟨_, fp, L2, rfl, (unhide HG2).keep (fun _ _ => by rw [heap_drewN]), ⟨_, _, _, rfl⟩, ((unhide HM1).call (unhide HM2)).drewN _, fun q hq => ?_⟩
          have h7 := (unhide HFP) q hq
          refine ⟨h7.1, by rw [heap_drewN]; exact h7.2.1, h7.2.2.1, ?_⟩
          rcases h7.2.2.2 with h8 | h8
          · exact (unhide HM1).fr.foot q h8
          · exact .inr (Nat.le_trans (unhide HM1).fr.size h8)
      · have hfin : Mk.feedAll s (l.take j) = rr := by
          rw [unhide HRR]
          rw [List.take_of_length_le (by omega)]
        rw [hfin] at hm hin1 hgf1
        have HK := hide (Take_any hm.rd (by have := hin1.hx; omega) (by have := hin1.hl; omega))
        have hc := hm.rd.cell
        have hlt1 := hm.rd.lt
        have HM1 := hide hm
        have e3 : decide ((j : Int) < (l.length : Int)) = false := by simp; omega
        unfold cellsOf at hc
        clear hm hG1 hin1 hgk hgf1 hfin hat1 HRR
        go_wp2_with fail
        refine (unhide HK).mono ?_
        rintro e w1 ⟨v, fp, L2, rfl, hgot, ⟨va, vn, vc, rfl⟩, hm2, hfp⟩
        have hc2 := hm2.rd.cell
        have hlt2 := hm2.rd.lt
        have HG2 := hide hgot
        have HM2 := hide hm2
        have HFP := hide hfp
        have een : (Mk.take rr).ended = rr.ended := by unfold Mk.take Mk.endText; split <;> rfl
        unfold cellsOf at hc2
        clear hgot hm2 hfp HK hc
        go_wp2
        go_quiet (fail)
        go_wp2
        go_ret2
        refine ⟨_, fp, L2, rfl, (unhide HG2).keep (fun _ _ => by rw [heap_drewN]), ⟨_, _, _, rfl⟩, ((unhide HM1).call (unhide HM2)).drewN _, fun q hq => ?_⟩
        have h7 := (unhide HFP) q hq
        refine ⟨h7.1, by rw [heap_drewN]; exact h7.2.1, h7.2.2.1, ?_⟩
        rcases h7.2.2.2 with h8 | h8
        · exact (unhide HM1).fr.foot q h8
        · exact .inr (Nat.le_trans (unhide HM1).fr.size h8)
  · have hr : Mk.feed s l = (s, [], s.ended) := by simp [Mk.feed, e1]
    rw [hr]
    have hc := h.cell
    have hlt := h.lt
    have HM := hide h
    have e2 : (s.ended != 0) = true := by simpa using e1
    unfold cellsOf at hc
    clear h hI hG hp hr e1
    go_enter Tryd.func18, Tryd.ntmps18
    go_wp2
    go_quiet (fail)
    go_wp2
    go_ret2
    exact ⟨_, [], L, rfl, got_nil _, ⟨_, _, _, rfl⟩, (unhide HM).start.drewN _, fun q hq => by cases hq⟩
end Go.Proofs.YtkkakfocjbnomaaDoor
