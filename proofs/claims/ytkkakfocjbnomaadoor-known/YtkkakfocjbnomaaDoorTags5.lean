/-
  CONTRACTS of package reader: end tags.
-/
import Derived.Test.YtkkakfocjbnomaaDoorTags2
namespace Go.Proofs.YtkkakfocjbnomaaDoor
set_option linter.unusedVariables false
set_option linter.unusedSimpArgs false
open Go.RowKit
open Mk (St Bs Ev Att)

/-- The innermost open element. -/
theorem opn_last {w : World} {b : Nat} {s : St} {L : Lay} (h : RdL w b s L) (hn : s.opn ≠ []) : ∃ (l : List Bs) (x : Bs) (g : Nat), s.opn = l ++ [x] ∧ s.opn.length = l.length + 1 ∧ L.oa = some ⟨g, 0, none⟩ ∧ l.length + 1 ≤ L.oc ∧ w.cell? ⟨g, l.length, none⟩ = some (.string ⟨x.toArray⟩) := by
  have hrow := h.rows.own (opnRow s L) (by simp [rowsOf])
  have hlen : s.opn.length = s.opn.dropLast.length + 1 := by
    have := List.length_pos_iff.2 hn
    rw [List.length_dropLast]; omega
  obtain ⟨g, cap, hv, _, _⟩ := World.ownsRow.form hrow (by show 0 < s.opn.length; omega)
  have hv' : Value.slice L.oa s.opn.length L.oc = .slice (some ⟨g, 0, none⟩) s.opn.length cap := hv
  injection hv' with h5 h6 h7
  have hcap : s.opn.length ≤ L.oc := by
    rcases hrow.2 with ⟨h1, h2⟩ | ⟨g', cap', cur, hv2, _, _, hnc, _⟩
    · simp [opnRow] at h2; exact absurd h2 hn
    · have hv3 : Value.slice L.oa s.opn.length L.oc = .slice (some ⟨g', 0, none⟩) s.opn.length cap' := hv2
      injection hv3 with _ _ h8
      rw [h8]; exact hnc
  refine ⟨s.opn.dropLast, s.opn.getLast hn, g, (List.dropLast_concat_getLast hn).symm, hlen, h5, by omega, ?_⟩
  have h2 : w.ownsRow (b + 1) 9 1 (.slice (some ⟨g, 0, none⟩) s.opn.length L.oc) s.opn.length (s.opn.map sv) := by rw [← h5]; exact hrow
  rw [row_cell h2 s.opn.dropLast.length (by omega)]
  rw [List.getElem?_map, List.getElem?_eq_getElem (by omega)]
  simp only [Option.map_some, sv]
  congr 4
  rw [List.getLast_eq_getElem]
  congr 1
  omega

theorem innermost_any {w : World} {b : Nat} {s : St} {L : Lay} (h : RdL w b s L) (ho : s.opn.length ≤ 100000000) :
    Calls Tryd.prog 87 #[.pointer (some ⟨b, 0, none⟩)] w fun e w' => e = .returned (.string ⟨(Mk.innermost s).toArray⟩) ∧ ∃ n, w' = w.drewN n := by
  have hc := h.cell
  unfold cellsOf at hc
  by_cases hn : s.opn = []
  · have hi : Mk.innermost s = [] := by simp [Mk.innermost, hn]
    have hl : s.opn.length = 0 := by simp [hn]
    rw [hi]
    clear h hi hn
    go_enter Tryd.func87, Tryd.ntmps87
    go_wp2
    go_ret
    exact ⟨rfl, 0, rfl⟩
  · obtain ⟨l, x, g, h1, h2, h3, h4, h5⟩ := opn_last h hn
    have hi : Mk.innermost s = x := by simp [Mk.innermost, h1]
    rw [hi]
    have e0 : ((l.length : Int) + 1 == 0) = false := by rw [beq_eq_false_iff_ne]; omega
    clear h hi h1 hn
    go_enter Tryd.func87, Tryd.ntmps87
    go_wp2
    go_quiet (fail)
    go_wp2
    go_ret
    exact ⟨rfl, _, rfl⟩

section
variable {w0 w : World} {b : Nat} {f0 : List Nat} {s : St} {L : Lay}
theorem Mv.popOpen (m : Mv w0 b f0 w s L) (l : List Bs) (x : Bs) (h1 : s.opn = l ++ [x]) :
    Mv w0 b f0 (w.setCell ⟨b, 5, none⟩ (.slice L.oa l.length L.oc)) { s with opn := l } L := by
  have hrow := m.rd.rows.own (opnRow s L) (by simp [rowsOf])
  have hlen : s.opn.length = l.length + 1 := by simp [h1]
  have hown : (opnRow { s with opn := l } L).owned w (b + 1) := by
    rcases hrow.2 with ⟨h2, h3⟩ | ⟨g, cap, cur, hv, hb, hg, hnc, hm, hsz, htake⟩
    · have h4 : s.opn.length = 0 := h3
      omega
    · have hv3 : Value.slice L.oa s.opn.length L.oc = .slice (some ⟨g, 0, none⟩) s.opn.length cap := hv
      injection hv3 with h5 _ h7
      have hnc' : s.opn.length ≤ cap := hnc
      refine ⟨by simp [opnRow], .inr ⟨g, cap, cur, ?_, hb, hg, ?_, hm, hsz, ?_⟩⟩
      · simp [opnRow, h5, h7]
      · show l.length ≤ cap; omega
      · have ht : cur.toList.take (s.opn.length * 1) = s.opn.map sv := htake
        show cur.toList.take (l.length * 1) = l.map sv
        have : cur.toList.take (l.length * 1) = (cur.toList.take (s.opn.length * 1)).take l.length := by rw [List.take_take]; congr 1; omega
        rw [this, ht, h1, List.map_append]
        simp
  have hgb : w.grownBy w (opnRow s L).v.ownBlock := ⟨rfl, rfl, rfl, Nat.le_refl _, fun _ _ _ => rfl⟩
  exact m.grow (s' := { s with opn := l }) (L' := L) (r := opnRow s L) (r' := opnRow { s with opn := l } L) (rs := tokRow s L :: attRow s L :: lstRow s L :: txtRow s L :: L.es.map evRow) 5 _ (.refl _) (.refl _) hown hgb (.inl (by simp [opnRow]; cases L.oa <;> rfl)) rfl m.rd.evs
end

set_option maxHeartbeats 1000000 in
theorem endInnermost_any {w : World} {b : Nat} {s : St} {L : Lay} (h : RdL w b s L) (hB : Bd s) :
    Calls Tryd.prog 88 #[.pointer (some ⟨b, 0, none⟩)] w fun e w' => e = .returned (.tuple #[]) ∧ ∃ L', Mv w b (foot s L) w' (Mk.endInnermost s) L' := by
  have HI := hide (innermost_any h hB.ho)
  have ho := hB.ho
  have HM := hide h
  have HB := hide hB
  obtain ⟨nm, hnm⟩ : ∃ nm, Mk.innermost s = nm := ⟨_, rfl⟩
  by_cases hn : s.opn = []
  · have hl : s.opn.length = 0 := by simp [hn]
    have hr : Mk.endInnermost s = Mk.tellEnd s nm := by
      unfold Mk.endInnermost
      rw [hnm, hn]
      have : ({ s with opn := [].dropLast } : St) = s := by rw [List.dropLast_nil, ← hn]
      rw [this]
    rw [hr]
    rw [hnm] at HI
    clear h hn hr hnm hB
    go_enter Tryd.func88, Tryd.ntmps88
    go_wp2_with fail
    refine (unhide HI).mono ?_
    rintro e w1 ⟨rfl, n, rfl⟩
    have hm := (unhide HM).start.drewN n
    have hc := hm.rd.cell
    have hlt := hm.rd.lt
    have HT := hide (tellEnd_any hm.rd (unhide HB) nm)
    have HM1 := hide hm
    unfold cellsOf at hc
    clear hm HI HB
    go_wp2_with (go_at_call 102; refine (unhide HT).mono ?_; rintro e w2 ⟨rfl, L2, hm2⟩; have HX := hide hm2; clear hm2)
    go_end0
    exact ⟨rfl, L2, (unhide HM1).call (unhide HX)⟩
  · obtain ⟨l, x, g, h1, h2, h3, h4, h5⟩ := opn_last h hn
    have hr : Mk.endInnermost s = Mk.tellEnd { s with opn := l } nm := by
      unfold Mk.endInnermost
      rw [hnm, h1]
      simp
    rw [hr]
    rw [hnm] at HI
    have H1 := hide h1
    have H3 := hide h3
    clear h hn hr hnm hB h1 h5
    go_enter Tryd.func88, Tryd.ntmps88
    go_wp2_with fail
    refine (unhide HI).mono ?_
    rintro e w1 ⟨rfl, n, rfl⟩
    have hm := (unhide HM).start.drewN n
    have hc := hm.rd.cell
    have hf := hm.rd.frozen
    have hlt := hm.rd.lt
    have HM1 := hide hm
    unfold cellsOf at hc
    clear hm HI
    generalize w.drewN n = w1 at *
    go_wp2
    go_region
    all_goals
      have hm2 := ((unhide HM1).popOpen l x (unhide H1)).drew
      rw [unhide H3] at hm2
      have HT := hide (tellEnd_any hm2.rd { unhide HB with ho := by simp; omega } nm)
      have HM2 := hide hm2
      clear hm2
      go_wp2_with (go_at_call 102; refine (unhide HT).mono ?_; rintro e w2 ⟨rfl, L2, hm2⟩; have HX := hide hm2; clear hm2)
      go_end0
      exact ⟨rfl, L2, (unhide HM2).call (unhide HX)⟩

theorem readEndSpace_any {w : World} {b : Nat} {s : St} {L : Lay} (h : RdL w b s L) (hB : Bd s) (x : Int) :
    Calls Tryd.prog 70 #[.pointer (some ⟨b, 0, none⟩), .int .u8 x] w (Does w b s L (Mk.readEndSpace s x)) := by
  have hc := h.cell
  have hf := h.frozen
  have hlt := h.lt
  have HM := hide h
  have HE := hide (endInnermost_any h hB)
  unfold cellsOf at hc
  clear h hB
  cases es : Mk.isSpace x
  · cases e1 : (x == 62)
    · have hr : Mk.readEndSpace s x = (s, 3) := by simp [Mk.readEndSpace, es, e1]
      rw [hr]
      clear hr HE
      go_enter Tryd.func70, Tryd.ntmps70
      go_wp2_with (go_at_call 55; refine (isSpace_any _ _).mono ?_; rintro e w1 ⟨rfl, rfl⟩)
      go_ret
      exact ⟨rfl, L, (unhide HM).start⟩
    · have hr : Mk.readEndSpace s x = (Mk.endInnermost s, 0) := by simp [Mk.readEndSpace, es, e1]
      rw [hr]
      clear hr
      go_enter Tryd.func70, Tryd.ntmps70
      go_wp2_with (first | (go_at_call 55; refine (isSpace_any _ _).mono ?_; rintro e w1 ⟨rfl, rfl⟩) | (go_at_call 88; refine (unhide HE).mono ?_; rintro e w2 ⟨rfl, L2, hm2⟩; have HX := hide hm2; clear hm2))
      go_ret
      exact ⟨rfl, L2, unhide HX⟩
  · have hr : Mk.readEndSpace s x = ({ s with state := 21 }, 0) := by simp [Mk.readEndSpace, es]
    rw [hr]
    clear hr HE
    go_enter Tryd.func70, Tryd.ntmps70
    go_wp2_with (go_at_call 55; refine (isSpace_any _ _).mono ?_; rintro e w1 ⟨rfl, rfl⟩)
    go_ret
    exact ⟨rfl, L, (unhide HM).start.store 4 _ _ rfl rfl rfl⟩

theorem readEndName_any {w : World} {b : Nat} {s : St} {L : Lay} (h : RdL w b s L) (hB : Bd s) (x : Int) (hil : (Mk.innermost s).length ≤ 100000000) :
    Calls Tryd.prog 69 #[.pointer (some ⟨b, 0, none⟩), .int .u8 x] w (Does w b s L (Mk.readEndName s x)) := by
  have HI := hide (innermost_any h hB.ho)
  have HM := hide h
  have HB := hide hB
  have m0 := hB.m0
  have m1 := hB.m1
  obtain ⟨nm, hnm⟩ : ∃ nm, Mk.innermost s = nm := ⟨_, rfl⟩
  rw [hnm] at HI hil
  by_cases e1 : s.matched < nm.length
  · obtain ⟨k, hk⟩ : ∃ k : Nat, s.matched = (k : Int) := ⟨s.matched.toNat, by omega⟩
    have hkl : k < nm.length := by omega
    cases e2 : (((nm[k].toNat : Nat) : Int) != x)
    · have hr : Mk.readEndName s x = ({ s with matched := (k : Int) + 1 }, 0) := by
        have e3 : ((nm[k].toNat : Nat) : Int) = x := by simpa using e2
        unfold Mk.readEndName
        rw [hnm, if_pos e1, hk]
        simp [hkl, e3]
      rw [hr]
      have e2' : ((((⟨nm.toArray⟩ : ByteArray)[k]'(by simpa [ByteArray.size] using hkl)).toNat : Int) != x) = false := e2
      clear hr h hB hnm e2
      go_enter Tryd.func69, Tryd.ntmps69
      go_wp2_with fail
      refine (unhide HI).mono ?_
      rintro e w1 ⟨rfl, n, rfl⟩
      have hm := (unhide HM).start.drewN n
      have hc := hm.rd.cell
      have hf := hm.rd.frozen
      have hlt := hm.rd.lt
      have HM1 := hide hm
      unfold cellsOf at hc
      clear hm HI
      generalize w.drewN n = w1 at *
      go_wp2
      go_ret
      exact ⟨rfl, L, (unhide HM1).store 15 _ _ rfl rfl rfl⟩
    · have hr : Mk.readEndName s x = (s, 5) := by
        have e3 : ((nm[k].toNat : Nat) : Int) ≠ x := by simpa using e2
        unfold Mk.readEndName
        rw [hnm, if_pos e1, hk]
        simp [hkl, e3]
      rw [hr]
      have e2' : ((((⟨nm.toArray⟩ : ByteArray)[k]'(by simpa [ByteArray.size] using hkl)).toNat : Int) != x) = true := e2
      clear hr h hB hnm e2
      go_enter Tryd.func69, Tryd.ntmps69
      go_wp2_with fail
      refine (unhide HI).mono ?_
      rintro e w1 ⟨rfl, n, rfl⟩
      have hm := (unhide HM).start.drewN n
      have hc := hm.rd.cell
      have hlt := hm.rd.lt
      have HM1 := hide hm
      unfold cellsOf at hc
      clear hm HI
      generalize w.drewN n = w1 at *
      go_wp2
      go_ret
      exact ⟨rfl, L, unhide HM1⟩
  · have e1' : decide (s.matched < (nm.length : Int)) = false := by simp; omega
    cases e2 : Mk.inName x
    · have hr : Mk.readEndName s x = Mk.readEndSpace s x := by
        unfold Mk.readEndName
        rw [hnm, if_neg e1, e2]
        simp
      rw [hr]
      clear hr h hB hnm e1
      go_enter Tryd.func69, Tryd.ntmps69
      go_wp2_with fail
      refine (unhide HI).mono ?_
      rintro e w1 ⟨rfl, n, rfl⟩
      have hm := (unhide HM).start.drewN n
      have hc := hm.rd.cell
      have hlt := hm.rd.lt
      have HE := hide (readEndSpace_any hm.rd (unhide HB) x)
      have HM1 := hide hm
      unfold cellsOf at hc
      clear hm HI
      generalize w.drewN n = w1 at *
      go_wp2_with (first | (go_at_call 84; refine (inName_any _ _).mono ?_; rintro e w1 ⟨rfl, rfl⟩) | (go_at_call 70; refine (unhide HE).mono ?_; rintro e w2 ⟨rfl, L2, hm2⟩; have HX := hide hm2; clear hm2))
      go_ret
      exact ⟨rfl, L2, (unhide HM1).call (unhide HX)⟩
    · have hr : Mk.readEndName s x = (s, 5) := by
        unfold Mk.readEndName
        rw [hnm, if_neg e1, e2]
        simp
      rw [hr]
      clear hr h hB hnm e1
      go_enter Tryd.func69, Tryd.ntmps69
      go_wp2_with fail
      refine (unhide HI).mono ?_
      rintro e w1 ⟨rfl, n, rfl⟩
      have hm := (unhide HM).start.drewN n
      have hc := hm.rd.cell
      have hlt := hm.rd.lt
      have HM1 := hide hm
      unfold cellsOf at hc
      clear hm HI
      generalize w.drewN n = w1 at *
      go_wp2_with (go_at_call 84; refine (inName_any _ _).mono ?_; rintro e w1 ⟨rfl, rfl⟩)
      go_ret
      exact ⟨rfl, L, unhide HM1⟩
end Go.Proofs.YtkkakfocjbnomaaDoor
