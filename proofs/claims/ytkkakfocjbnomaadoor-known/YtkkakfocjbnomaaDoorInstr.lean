/-
  CONTRACTS of package reader: instructions.
-/
import Derived.Test.YtkkakfocjbnomaaDoorAsides
namespace Go.Proofs.YtkkakfocjbnomaaDoor
set_option linter.unusedVariables false
set_option linter.unusedSimpArgs false
open Go.RowKit
open Mk (St Bs Ev Att)

theorem isXML_any {w : World} {base : Nat} {a : Option Addr} {c : Nat} {l : Bs} (h : w.ownsRow base 5 1 (.slice a l.length c) l.length (l.map bv)) :
    Calls Tryd.prog 86 #[.slice a l.length c] w fun e w' => e = .returned (.bool (Mk.isXML l)) ∧ w' = w := by
  by_cases h3 : l.length = 3
  · match l, h3, h with
    | [x, y, z], _, h =>
      rcases h.2 with ⟨_, hn⟩ | ⟨g, cap, cur, hv, hb, hg, hnc, _, hsz, htake⟩
      · cases hn
      · cases hv
        have hq : ∀ j, j < 3 → w.cell? ⟨g, j, none⟩ = some (([x, y, z].map bv).getD j undef) := by
          intro j hj
          rw [cell_of_row w g j cur _ _ hg]
          have h1 : ([x, y, z].map bv)[j]? = some (([x, y, z].map bv).getD j undef) := by
            match j, hj with
            | 0, _ => rfl
            | 1, _ => rfl
            | 2, _ => rfl
          rw [← htake, List.getElem?_take_of_lt (by simpa using hj)] at h1
          rw [← htake]
          simpa using h1
        have q0 := hq 0 (by decide)
        have q1 := hq 1 (by decide)
        have q2 := hq 2 (by decide)
        simp [bv] at q0 q1 q2
        clear hq htake hg h
        have hm : Mk.isXML [x, y, z] = (((x.toNat : Int) == 120 || (x.toNat : Int) == 88) && ((y.toNat : Int) == 109 || (y.toNat : Int) == 77) && ((z.toNat : Int) == 108 || (z.toNat : Int) == 76)) := rfl
        rw [hm]
        clear hm
        generalize (x.toNat : Int) = x at *
        generalize (y.toNat : Int) = y at *
        generalize (z.toNat : Int) = z at *
        go_enter Tryd.func86, Tryd.ntmps86
        go_wp2
        all_goals (go_ret; exact ⟨retB (by simp_all), rfl⟩)
  · have e0 : ((l.length : Int) == 3) = false := by rw [beq_eq_false_iff_ne]; omega
    have hm : Mk.isXML l = false := by
      match l, h3 with
      | [], _ => rfl
      | [_], _ => rfl
      | [_, _], _ => rfl
      | [_, _, _], h3 => exact absurd rfl h3
      | _ :: _ :: _ :: _ :: _, _ => rfl
    rw [hm]
    clear hm h
    go_enter Tryd.func86, Tryd.ntmps86
    go_wp2
    go_ret
    exact ⟨rfl, rfl⟩

theorem ln_any {w : World} {b : Nat} {s : St} {L : Lay} (h : RdL w b s L) (hB : Bd s) (x : Int) (h0 : 0 ≤ x) (h1 : x ≤ 255) :
    Calls Tryd.prog 85 #[.pointer (some ⟨b, 0, none⟩), .int .u8 x] w (Does w b s L (Mk.lengthenName s x)) :=
  lengthenName_any h x h0 h1 (Nat.le_trans hB.hx (by decide)) (Nat.le_trans hB.ht (by decide)) hB.c0 (Int.le_trans hB.c1 (by decide))

theorem readInstructionName_any {w : World} {b : Nat} {s : St} {L : Lay} (h : RdL w b s L) (hB : Bd s) (x : Int) (h0 : 0 ≤ x) (h1 : x ≤ 255) :
    Calls Tryd.prog 66 #[.pointer (some ⟨b, 0, none⟩), .int .u8 x] w (Does w b s L (Mk.readInstructionName s x)) := by
  have hc := h.cell
  have hf := h.frozen
  have hlt := h.lt
  have HM := hide h
  have HN := hide (ln_any h hB x h0 h1)
  have HX := hide (isXML_any (h.rows.own (tokRow s L) (by simp [rowsOf])))
  have HT := hide (takeToken_any h)
  unfold cellsOf at hc
  clear h hB
  cases ec : (s.count == 0 && !Mk.beginsName x)
  · cases ei : Mk.inName x
    · cases ex : Mk.isXML s.token
      · rw [ex] at HX
        cases eq : (x == 63)
        · cases es : Mk.isSpace x
          · have hr : Mk.readInstructionName s x = (s, 3) := by simp only [Mk.readInstructionName, ec, ei, ex, eq, es]; rfl
            rw [hr]
            cases e0 : (s.count == 0)
            · clear hr ec
              go_enter Tryd.func66, Tryd.ntmps66
              go_wp2_with (first
                | (go_at_call 82; refine (beginsName_any _ _).mono ?_; rintro e w1 ⟨rfl, rfl⟩)
                | (go_at_call 84; refine (inName_any _ _).mono ?_; rintro e w1 ⟨rfl, rfl⟩)
                | (go_at_call 55; refine (isSpace_any _ _).mono ?_; rintro e w1 ⟨rfl, rfl⟩)
                | (go_at_call 86; refine (unhide HX).mono ?_; rintro e w1 ⟨rfl, rfl⟩))
              go_ret
              exact ⟨rfl, L, (unhide HM).start⟩
            · have eb : Mk.beginsName x = true := by simpa [e0] using ec
              clear hr ec
              go_enter Tryd.func66, Tryd.ntmps66
              go_wp2_with (first
                | (go_at_call 82; refine (beginsName_any _ _).mono ?_; rintro e w1 ⟨rfl, rfl⟩)
                | (go_at_call 84; refine (inName_any _ _).mono ?_; rintro e w1 ⟨rfl, rfl⟩)
                | (go_at_call 55; refine (isSpace_any _ _).mono ?_; rintro e w1 ⟨rfl, rfl⟩)
                | (go_at_call 86; refine (unhide HX).mono ?_; rintro e w1 ⟨rfl, rfl⟩))
              go_ret
              exact ⟨rfl, L, (unhide HM).start⟩
          · have hr : Mk.readInstructionName s x = ({ Mk.dropToken s with name := s.token, state := 10 }, 0) := by simp only [Mk.readInstructionName, ec, ei, ex, eq, es]; rfl
            rw [hr]
            cases e0 : (s.count == 0)
            · clear hr ec
              go_enter Tryd.func66, Tryd.ntmps66
              go_wp2_with (first
                | (go_at_call 82; refine (beginsName_any _ _).mono ?_; rintro e w1 ⟨rfl, rfl⟩)
                | (go_at_call 84; refine (inName_any _ _).mono ?_; rintro e w1 ⟨rfl, rfl⟩)
                | (go_at_call 55; refine (isSpace_any _ _).mono ?_; rintro e w1 ⟨rfl, rfl⟩)
                | (go_at_call 86; refine (unhide HX).mono ?_; rintro e w1 ⟨rfl, rfl⟩)
                | (go_at_call 79; refine (unhide HT).mono ?_; rintro e w1 ⟨rfl, L1, hm1⟩; have hc1 := hm1.rd.cell; have hf1 := hm1.rd.frozen; have HM1 := hide hm1; clear hm1; unfold cellsOf at hc1))
              go_ret
              exact ⟨rfl, L1, ((unhide HM1).store 9 _ { Mk.dropToken s with name := s.token } rfl rfl rfl).store 4 _ _ rfl rfl rfl⟩
            · have eb : Mk.beginsName x = true := by simpa [e0] using ec
              clear hr ec
              go_enter Tryd.func66, Tryd.ntmps66
              go_wp2_with (first
                | (go_at_call 82; refine (beginsName_any _ _).mono ?_; rintro e w1 ⟨rfl, rfl⟩)
                | (go_at_call 84; refine (inName_any _ _).mono ?_; rintro e w1 ⟨rfl, rfl⟩)
                | (go_at_call 55; refine (isSpace_any _ _).mono ?_; rintro e w1 ⟨rfl, rfl⟩)
                | (go_at_call 86; refine (unhide HX).mono ?_; rintro e w1 ⟨rfl, rfl⟩)
                | (go_at_call 79; refine (unhide HT).mono ?_; rintro e w1 ⟨rfl, L1, hm1⟩; have hc1 := hm1.rd.cell; have hf1 := hm1.rd.frozen; have HM1 := hide hm1; clear hm1; unfold cellsOf at hc1))
              go_ret
              exact ⟨rfl, L1, ((unhide HM1).store 9 _ { Mk.dropToken s with name := s.token } rfl rfl rfl).store 4 _ _ rfl rfl rfl⟩
        · have hr : Mk.readInstructionName s x = ({ Mk.dropToken s with name := s.token, state := 9 }, 0) := by simp only [Mk.readInstructionName, ec, ei, ex, eq]; rfl
          rw [hr]
          cases e0 : (s.count == 0)
          · clear hr ec
            go_enter Tryd.func66, Tryd.ntmps66
            go_wp2_with (first
              | (go_at_call 82; refine (beginsName_any _ _).mono ?_; rintro e w1 ⟨rfl, rfl⟩)
              | (go_at_call 84; refine (inName_any _ _).mono ?_; rintro e w1 ⟨rfl, rfl⟩)
              | (go_at_call 55; refine (isSpace_any _ _).mono ?_; rintro e w1 ⟨rfl, rfl⟩)
              | (go_at_call 86; refine (unhide HX).mono ?_; rintro e w1 ⟨rfl, rfl⟩)
              | (go_at_call 79; refine (unhide HT).mono ?_; rintro e w1 ⟨rfl, L1, hm1⟩; have hc1 := hm1.rd.cell; have hf1 := hm1.rd.frozen; have HM1 := hide hm1; clear hm1; unfold cellsOf at hc1))
            go_ret
            exact ⟨rfl, L1, ((unhide HM1).store 9 _ { Mk.dropToken s with name := s.token } rfl rfl rfl).store 4 _ _ rfl rfl rfl⟩
          · have eb : Mk.beginsName x = true := by simpa [e0] using ec
            clear hr ec
            go_enter Tryd.func66, Tryd.ntmps66
            go_wp2_with (first
              | (go_at_call 82; refine (beginsName_any _ _).mono ?_; rintro e w1 ⟨rfl, rfl⟩)
              | (go_at_call 84; refine (inName_any _ _).mono ?_; rintro e w1 ⟨rfl, rfl⟩)
              | (go_at_call 55; refine (isSpace_any _ _).mono ?_; rintro e w1 ⟨rfl, rfl⟩)
              | (go_at_call 86; refine (unhide HX).mono ?_; rintro e w1 ⟨rfl, rfl⟩)
              | (go_at_call 79; refine (unhide HT).mono ?_; rintro e w1 ⟨rfl, L1, hm1⟩; have hc1 := hm1.rd.cell; have hf1 := hm1.rd.frozen; have HM1 := hide hm1; clear hm1; unfold cellsOf at hc1))
            go_ret
            exact ⟨rfl, L1, ((unhide HM1).store 9 _ { Mk.dropToken s with name := s.token } rfl rfl rfl).store 4 _ _ rfl rfl rfl⟩
      · rw [ex] at HX
        have hr : Mk.readInstructionName s x = (s, 3) := by simp only [Mk.readInstructionName, ec, ei, ex]; rfl
        rw [hr]
        cases e0 : (s.count == 0)
        · clear hr ec
          go_enter Tryd.func66, Tryd.ntmps66
          go_wp2_with (first
            | (go_at_call 82; refine (beginsName_any _ _).mono ?_; rintro e w1 ⟨rfl, rfl⟩)
            | (go_at_call 84; refine (inName_any _ _).mono ?_; rintro e w1 ⟨rfl, rfl⟩)
            | (go_at_call 55; refine (isSpace_any _ _).mono ?_; rintro e w1 ⟨rfl, rfl⟩)
            | (go_at_call 86; refine (unhide HX).mono ?_; rintro e w1 ⟨rfl, rfl⟩))
          go_ret
          exact ⟨rfl, L, (unhide HM).start⟩
        · have eb : Mk.beginsName x = true := by simpa [e0] using ec
          clear hr ec
          go_enter Tryd.func66, Tryd.ntmps66
          go_wp2_with (first
            | (go_at_call 82; refine (beginsName_any _ _).mono ?_; rintro e w1 ⟨rfl, rfl⟩)
            | (go_at_call 84; refine (inName_any _ _).mono ?_; rintro e w1 ⟨rfl, rfl⟩)
            | (go_at_call 55; refine (isSpace_any _ _).mono ?_; rintro e w1 ⟨rfl, rfl⟩)
            | (go_at_call 86; refine (unhide HX).mono ?_; rintro e w1 ⟨rfl, rfl⟩))
          go_ret
          exact ⟨rfl, L, (unhide HM).start⟩
    · have hr : Mk.readInstructionName s x = Mk.lengthenName s x := by simp only [Mk.readInstructionName, ec, ei]; rfl
      rw [hr]
      cases e0 : (s.count == 0)
      · clear hr ec
        go_enter Tryd.func66, Tryd.ntmps66
        go_wp2_with (first
          | (go_at_call 82; refine (beginsName_any _ _).mono ?_; rintro e w1 ⟨rfl, rfl⟩)
          | (go_at_call 84; refine (inName_any _ _).mono ?_; rintro e w1 ⟨rfl, rfl⟩)
          | (go_at_call 55; refine (isSpace_any _ _).mono ?_; rintro e w1 ⟨rfl, rfl⟩)
          | (go_at_call 86; refine (unhide HX).mono ?_; rintro e w1 ⟨rfl, rfl⟩)
          | (go_at_call 85; refine (unhide HN).mono ?_; rintro e w1 ⟨rfl, L1, hm1⟩; have HM1 := hide hm1; clear hm1))
        go_ret
        exact ⟨rfl, L1, unhide HM1⟩
      · have eb : Mk.beginsName x = true := by simpa [e0] using ec
        clear hr ec
        go_enter Tryd.func66, Tryd.ntmps66
        go_wp2_with (first
          | (go_at_call 82; refine (beginsName_any _ _).mono ?_; rintro e w1 ⟨rfl, rfl⟩)
          | (go_at_call 84; refine (inName_any _ _).mono ?_; rintro e w1 ⟨rfl, rfl⟩)
          | (go_at_call 55; refine (isSpace_any _ _).mono ?_; rintro e w1 ⟨rfl, rfl⟩)
          | (go_at_call 86; refine (unhide HX).mono ?_; rintro e w1 ⟨rfl, rfl⟩)
          | (go_at_call 85; refine (unhide HN).mono ?_; rintro e w1 ⟨rfl, L1, hm1⟩; have HM1 := hide hm1; clear hm1))
        go_ret
        exact ⟨rfl, L1, unhide HM1⟩
  · have hr : Mk.readInstructionName s x = (s, 3) := by simp only [Mk.readInstructionName, ec]; rfl
    rw [hr]
    have e0 : (s.count == 0) = true := by simp at ec; simp [ec]
    have eb : Mk.beginsName x = false := by simp at ec; simp [ec]
    clear hr ec
    go_enter Tryd.func66, Tryd.ntmps66
    go_wp2_with (first
      | (go_at_call 82; refine (beginsName_any _ _).mono ?_; rintro e w1 ⟨rfl, rfl⟩)
      | (go_at_call 84; refine (inName_any _ _).mono ?_; rintro e w1 ⟨rfl, rfl⟩)
      | (go_at_call 55; refine (isSpace_any _ _).mono ?_; rintro e w1 ⟨rfl, rfl⟩)
      | (go_at_call 86; refine (unhide HX).mono ?_; rintro e w1 ⟨rfl, rfl⟩))
    go_ret
    exact ⟨rfl, L, (unhide HM).start⟩
end Go.Proofs.YtkkakfocjbnomaaDoor
