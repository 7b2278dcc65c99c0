/- NstA, NstB, NstC -/
import Derived.Test.YtmgfijllcdadgabGreatDoorCNest5
import Derived.Test.YtmgfijllcdadgabGreatDoorM03
import Derived.Test.YtmgfijllcdadgabGreatDoorM26
import Derived.Test.YtmgfijllcdadgabGreatDoorM25
import Derived.Test.YtmgfijllcdadgabGreatDoorM11
namespace Go.Proofs.YtmgfijllcdadgabGreatDoor
set_option linter.unusedVariables false
set_option linter.unusedSimpArgs false
open Go.RowKit
open Mk (St Bs Ev Att)

theorem larger_any (a b : Nat) (w : World) : Calls Tryz.prog 18 #[.int .i64 (a : Int), .int .i64 (b : Int)] w fun e w' => e = .returned (.int .i64 ((max a b : Nat) : Int)) ∧ w' = w := by
  by_cases h : b < a
  · have e : max a b = a := by omega
    have e1 : decide ((b : Int) < (a : Int)) = true := by simp; omega
    rw [e]
    clear e
    go_enter Tryz.func18, Tryz.ntmps18
    go_wp2
    go_ret
    exact ⟨rfl, rfl⟩
  · have e : max a b = b := by omega
    have e1 : decide ((b : Int) < (a : Int)) = false := by simp; omega
    rw [e]
    clear e
    go_enter Tryz.func18, Tryz.ntmps18
    go_wp2
    go_ret
    exact ⟨rfl, rfl⟩
theorem chars_take (l : Bs) (i : Nat) (y : UInt8) (hy : l[i]? = some y) : chars (l.take (i + 1)) = chars (l.take i) + if (decide (y < 128) || decide (191 < y)) = true then 1 else 0 := by
  rw [List.take_add_one, hy, chars_app]
  unfold chars
  simp only [Option.toList_some, List.countP_cons, List.countP_nil, Nat.zero_add]
set_option maxHeartbeats 1000000 in
theorem characters_any (l : Bs) (hl : l.length ≤ 1000000000000000000) (w : World) : Calls Tryz.prog 63 #[.string ⟨l.toArray⟩] w fun e w' => e = .returned (.int .i64 (chars l : Int)) ∧ w' = w := by
  have hcl : ∀ i, i ≤ l.length → chars (l.take i) ≤ i := fun i hi => by have := chars_le (l.take i); rw [List.length_take] at this; omega
  have HCT := hide (chars_take l)
  go_enter Tryz.func63, Tryz.ntmps63
  go_wp2_with fail
  go_loopg [3, 4] l.length (fun g s3 s4 wx => wx = w ∧ ∃ (i n : Nat), i ≤ l.length ∧ g = l.length - i ∧ s3 = .int .i64 (n : Int) ∧ s4 = .int .i64 (i : Int) ∧ n ≤ i ∧ Hid (n = chars (l.take i)))
  case atStart => exact ⟨rfl, 0, 0, by omega, rfl, rfl, rfl, Nat.le_refl _, rfl⟩
  case round =>
    obtain ⟨hwr, i, n, hi, rfl, rfl, rfl, hni, HF⟩ := hrel
    obtain rfl := hwr.symm
    by_cases h3 : i < l.length
    · have e1 : decide ((i : Int) < (l.length : Int)) = true := by simp; omega
      have hk1 : (i : Int) < (l.length : Int) := by omega
      obtain ⟨y, hy⟩ : ∃ y, l[i]? = some y := ⟨l[i], by simp [h3]⟩
      have hsa : ∀ h, (ByteArray.mk l.toArray)[i]'h = y := fun h => (List.getElem?_eq_some_iff.1 hy).2
      have HT := hide (unhide HCT i y hy)
      have d1 : decide (y < 128) = decide ((y.toNat : Int) < 128) := by
        apply decide_eq_decide.2
        show y.toNat < 128 ↔ _
        omega
      have d2 : decide (191 < y) = decide (191 < (y.toNat : Int)) := by
        apply decide_eq_decide.2
        show 191 < y.toNat ↔ _
        omega
      clear hy HCT
      cases f1 : decide ((y.toNat : Int) < 128)
      · cases f2 : decide (191 < (y.toNat : Int))
        · have HN : Hid (chars (l.take (i + 1)) = n) := by
            show _ = _
            rw [unhide HT, d1, d2, f1, f2, ← unhide HF]; rfl
          clear HT HF d1 d2
          go_wp2
          go_roundg (l.length - (i + 1))
          case measure => omega
          case rel => exact ⟨rfl, i + 1, n, by omega, rfl, rfl, by simp, by omega, (unhide HN).symm⟩
        · have HN : Hid (chars (l.take (i + 1)) = n + 1) := by
            show _ = _
            rw [unhide HT, d1, d2, f1, f2, ← unhide HF]; rfl
          clear HT HF d1 d2
          go_wp2
          go_roundg (l.length - (i + 1))
          case measure => omega
          case rel => exact ⟨rfl, i + 1, n + 1, by omega, rfl, by simp, by simp, by omega, (unhide HN).symm⟩
      · have HN : Hid (chars (l.take (i + 1)) = n + 1) := by
          show _ = _
          rw [unhide HT, d1, d2, f1, ← unhide HF]; rfl
        clear HT HF d1 d2
        go_wp2
        go_roundg (l.length - (i + 1))
        case measure => omega
        case rel => exact ⟨rfl, i + 1, n + 1, by omega, rfl, by simp, by simp, by omega, (unhide HN).symm⟩
    · obtain rfl : i = l.length := by omega
      have e1 : decide ((l.length : Int) < (l.length : Int)) = false := by simp
      have hn : n = chars l := by have := unhide HF; rw [List.take_length] at this; exact this
      subst hn
      go_wp2
      go_ret
      exact ⟨rfl, rfl⟩
end Go.Proofs.YtmgfijllcdadgabGreatDoor

namespace Go.Proofs.YtmgfijllcdadgabGreatDoor
set_option linter.unusedVariables false
set_option linter.unusedSimpArgs false
open Go.RowKit
open Mk (St Bs Ev Att)

/-- The events of a list lie behind one another. -/
def EvsAt (w : World) (ea : Option Addr) (x : Option Nat) (l : List Ev) : Prop :=
  ∀ k (hk : k < l.length), ∃ g p, ea = some ⟨g, p, none⟩ ∧ g < w.heap.size ∧ x ≠ some g ∧ w.cell? ⟨g, p + k * 5, none⟩ = some (.int .i64 l[k].kind) ∧ w.cell? ⟨g, p + k * 5 + 1, none⟩ = some (.string ⟨l[k].name.toArray⟩) ∧ w.cell? ⟨g, p + k * 5 + 3, none⟩ = some (.string ⟨l[k].val.toArray⟩)
theorem stk_cons (o : List Bs) (e : Ev) (r : List Ev) : stk o (e :: r) = match stk1 o e with | none => none | some o' => stk o' r := rfl
theorem stk1_2 {o o' : List Bs} {e : Ev} (hk : e.kind = 2) (h : stk1 o e = some o') : ∃ q, o = q ++ [e.name] ∧ o' = q := by
  unfold stk1 at h
  rw [if_neg (by rw [hk]; decide), if_pos hk] at h
  split at h
  · cases h
  · rename_i hn
    cases h
    refine ⟨o.dropLast, ?_, rfl⟩
    have h1 : o ≠ [] := fun e => hn (.inl e)
    have h2 : o.getLastD [] = e.name := by
      cases hd : decide (o.getLastD [] = e.name)
      · exact absurd (.inr (by simpa using hd)) hn
      · simpa using hd
    rw [List.getLastD_eq_getLast?, List.getLast?_eq_some_getLast h1] at h2
    rw [← h2]
    exact (List.dropLast_concat_getLast h1).symm
theorem stk1_3 {o o' : List Bs} {e : Ev} (hk : e.kind = 3) (h : stk1 o e = some o') : o' = o ∧ o ≠ [] ∧ e.val ≠ [] := by
  unfold stk1 at h
  rw [if_neg (by rw [hk]; decide), if_neg (by rw [hk]; decide), if_pos hk] at h
  split at h
  · cases h
  · rename_i hn
    cases h
    exact ⟨rfl, fun e => hn (.inl e), fun e => hn (.inr e)⟩
set_option maxHeartbeats 4000000 in
set_option maxRecDepth 100000 in
theorem stack_any {w : World} {base : Nat} {o o' : List Bs} {l : List Ev} {v : Value} {ea : Option Addr} {ec : Nat} (ho : w.ownsRow base 9 1 v o.length (o.map sv)) (hbase : base ≤ w.heap.size)
    (he : EvsAt w ea v.ownBlock l) (hs : stk o l = some o') (hlen : o.length + l.length ≤ 1000000000) :
    Calls Tryz.prog 35 #[v, .slice ea l.length ec] w fun e w' => ∃ v', e = .returned (.tuple #[v', .bool true]) ∧ w'.ownsRow base 9 1 v' o'.length (o'.map sv) ∧ Jf w w' v v' := by
  obtain ⟨i0, hi, hz0, hz1, hz2⟩ := info_parts infoStr
  have HE := hide he
  have HO := hide ho
  have HS := hide hs
  obtain ⟨a0, c0, rfl⟩ := slice_form ho
  clear he ho hs
  go_enter Tryz.func35, Tryz.ntmps35
  go_wp2_with fail
  go_loopw [0, 6] (fun s0 s6 wx => ∃ (k : Nat) (v : Value) (q : List Bs), k ≤ l.length ∧ s6 = .int .i64 k ∧ s0 = v ∧ q.length ≤ o.length + k ∧ wx.ownsRow base 9 1 v q.length (q.map sv) ∧ Jf w wx (.slice a0 o.length c0) v ∧ Hid (stk q (l.drop k) = some o')) (fun _ i _ => l.length - (intOf i).toNat)
  case atStart => exact ⟨0, _, o, by omega, rfl, rfl, by omega, unhide HO, Jf.refl _ _, unhide HS⟩
  case round =>
    obtain ⟨k, v, q, hk, rfl, rfl, hql, hrow, jf, HT⟩ := hrel
    clear HO HS
    obtain ⟨a, c, rfl⟩ := slice_form hrow
    by_cases hlt : k < l.length
    · have e1 : decide ((k : Int) < (l.length : Int)) = true := by simp; omega
      have e2 : (k : Int) < (l.length : Int) := by omega
      obtain ⟨g, p, rfl, hg1, hg2, p0, p1, p3⟩ := (unhide HE) k hlt
      have hcw : ∀ j, wr.cell? ⟨g, j, none⟩ = w.cell? ⟨g, j, none⟩ := fun j => by
        simp only [World.cell?]
        rw [jf.gr.block g hg1 (fun e => hg2 e.symm)]
      have hgr : g < wr.heap.size := by have := jf.gr.size; omega
      rw [← hcw] at p0 p1 p3
      have hT := unhide HT
      rw [List.drop_eq_getElem_cons hlt, stk_cons] at hT
      have hbr : base ≤ wr.heap.size := by have := jf.gr.size; omega
      clear hcw HT
      generalize l[k] = x at *
      by_cases hk1 : x.kind = 1
      · have e3 : (x.kind == 1) = true := by simpa using hk1
        have hst : stk1 q x = some (q ++ [x.name]) := by unfold stk1; rw [if_pos hk1]
        rw [hst] at hT
        have HT := hide hT
        have HR := hide (World.ownsRow.alloc hrow (.cells #[.string ⟨x.name.toArray⟩] 9))
        have HB := hide (show (wr.alloc (.cells #[.string ⟨x.name.toArray⟩] 9)).heap[wr.heap.size]? = _ from heap_alloc_new wr _)
        have H63 := hide (show q.length + 1 ≤ maxLen by unfold maxLen; omega)
        have HBB := hide (show base ≤ (wr.alloc (.cells #[.string ⟨x.name.toArray⟩] 9)).heap.size by simp; omega)
        have HJ := hide jf
        clear hT hst jf hk1 hrow
        go_wp2_with (at_builtin; refine wpList_append_lies _ rfl (.tmp 23) (.tmp 29) 22 rfl base 9 i0 _ 1 16 Tryz.underlying22 hi hz0 hz1 hz2 rfl (by decide) (.slice a q.length c) q.length (q.map sv) (by simp [Act.eval]) (unhide HR) ⟨wr.heap.size, 0, none⟩ 1 1 [.string ⟨x.name.toArray⟩] (by simp [Act.eval]) rfl (World.news_of_block (unhide HB)) (by intro u hu; simp at hu; subst hu; rfl) (by decide) (unhide H63) (by omega) (unhide HBB) (wr.heap.size + 1) (by simp) ?_; intro g2 cap w2 hown hgrow hat hlt2; have HOW := hide hown; have HGR := hide hgrow; have HAT := hide hat; clear hown hgrow hat)
        go_roundw
        case rel =>
          refine ⟨k + 1, _, q ++ [x.name], by omega, by go_num, rfl, by simp; omega, ?_, ?_, unhide HT⟩
          · have h := unhide HOW
            simpa [sv] using h
          · have h1 := (unhide HJ).step (v' := .slice a q.length c) (grownBy_allocFirst (unhide HGR)) (.inl rfl)
            refine ⟨h1.gr, ?_⟩
            rcases unhide HAT with h | h
            · rcases (unhide HJ).lies with h2 | ⟨g3, h2, h3⟩
              · exact .inl (by rw [← h2, h]; rfl)
              · exact .inr ⟨g2, rfl, by rw [h] at h2; cases h2; exact h3⟩
            · exact .inr ⟨g2, rfl, by have := (unhide HJ).gr.size; omega⟩
        case measure => simp [intOf]; omega
      · have e3 : (x.kind == 1) = false := by simpa using hk1
        by_cases hk2 : x.kind = 2
        · have e4 : (x.kind == 2) = true := by simpa using hk2
          obtain ⟨q1, hq1, hst⟩ : ∃ q1, q = q1 ++ [x.name] ∧ stk1 q x = some q1 := by
            cases h : stk1 q x with
            | none => rw [h] at hT; cases hT
            | some o1 => obtain ⟨q1, h1, h2⟩ := stk1_2 hk2 h; exact ⟨q1, h1, by rw [h2]⟩
          rw [hst] at hT
          have HT := hide hT
          subst hq1
          have hqn : (q1 ++ [x.name]).length = q1.length + 1 := by simp
          have hrow' : wr.ownsRow base 9 1 (.slice a (q1 ++ [x.name]).length c) (q1 ++ [x.name]).length ((q1 ++ [x.name]).flatMap fun n => [sv n]) := by
            have e : ((q1 ++ [x.name]).flatMap fun n => [sv n]) = (q1 ++ [x.name]).map sv := by rw [List.map_eq_flatMap]
            rw [e]; exact hrow
          obtain ⟨g5, hg5, hgl5, hcl⟩ := spElem (m := 1) (l := q1 ++ [x.name]) (fun n => [sv n]) (fun _ => rfl) (by decide) hrow' q1.length (by simp)
          have hc5 : wr.cell? ⟨g5, q1.length, none⟩ = some (.string ⟨x.name.toArray⟩) := by
            have := hcl 0 (by decide)
            simpa [sv] using this
          have hsh := own_shrink hrow q1.length (by simp)
          rw [Nat.mul_one] at hsh
          have hsh' : wr.ownsRow base 9 1 (.slice a q1.length c) q1.length (q1.map sv) := by
            have e : ((q1 ++ [x.name]).map sv).take q1.length = q1.map sv := by rw [← List.map_take]; simp
            rw [e] at hsh; exact hsh
          rw [hqn]
          rw [hqn] at jf hql
          have hcap : q1.length + 1 ≤ c := by
            rcases hrow.2 with ⟨h8, h9⟩ | ⟨g', cap', cur, hv8, _, hg8, hnc, _⟩
            · rw [hqn] at h9; omega
            · injection hv8 with _ _ h10; rw [hqn] at hnc; omega
          have HSH := hide hsh'
          have HJ := hide jf
          subst hg5
          have e5 : (((q1.length + 1 : Nat) : Int) == 0) = false := by simp; omega
          have e6 : (((q1.length : Int) + 1) == 0) = false := by simp; omega
          clear hT hst jf hrow hrow' hcl hsh hsh' hqn hk1 hk2
          go_wp2
          go_quiet (fail)
          go_wp2
          go_roundw
          case rel =>
            refine ⟨k + 1, _, q1, by omega, by go_num, rfl, by omega, by first | exact owned_drewN (unhide HSH) _ | (have h := owned_drewN (unhide HSH) nq; simpa using h), ?_, unhide HT⟩
            have h := unhide HJ
            exact ⟨⟨h.gr.os, h.gr.tape, h.gr.output, h.gr.size, h.gr.block⟩, h.lies⟩
          case measure => simp [intOf]; omega
        · have e4 : (x.kind == 2) = false := by simpa using hk2
          by_cases hk3 : x.kind = 3
          · have e5 : (x.kind == 3) = true := by simpa using hk3
            obtain ⟨hq1, hq2, hst⟩ : q ≠ [] ∧ x.val ≠ [] ∧ stk1 q x = some q := by
              cases h : stk1 q x with
              | none => rw [h] at hT; cases hT
              | some o1 => obtain ⟨h1, h2, h3⟩ := stk1_3 hk3 h; exact ⟨h2, h3, by rw [h1]⟩
            rw [hst] at hT
            have HT := hide hT
            have hpos : 0 < q.length := List.length_pos_iff.2 hq1
            have e6 : ((q.length : Int) == 0) = false := by simp; omega
            have e7 : (x.val == []) = false := by simpa using hq2
            have HR := hide hrow
            have HJ := hide jf
            clear hT hst hrow jf hq1 hq2 hk1 hk2 hk3
            go_wp2
            go_roundw
            case rel => exact ⟨k + 1, _, q, by omega, by go_num, rfl, by omega, unhide HR, unhide HJ, unhide HT⟩
            case measure => simp [intOf]; omega
          · have e5 : (x.kind == 3) = false := by simpa using hk3
            have hst : stk1 q x = some q := by unfold stk1; rw [if_neg hk1, if_neg hk2, if_neg hk3]
            rw [hst] at hT
            have HT := hide hT
            have HR := hide hrow
            have HJ := hide jf
            clear hT hst hrow jf hk1 hk2 hk3
            go_wp2
            go_roundw
            case rel => exact ⟨k + 1, _, q, by omega, by go_num, rfl, by omega, unhide HR, unhide HJ, unhide HT⟩
            case measure => simp [intOf]; omega
    · have e1 : decide ((k : Int) < (l.length : Int)) = false := by simp; omega
      have hT := unhide HT
      rw [List.drop_of_length_le (by omega)] at hT
      obtain rfl : q = o' := Option.some.inj hT
      have HR := hide hrow
      have HJ := hide jf
      clear HT hrow jf
      go_wp2
      go_ret2
      exact ⟨_, rfl, unhide HR, unhide HJ⟩
end Go.Proofs.YtmgfijllcdadgabGreatDoor

namespace Go.Proofs.YtmgfijllcdadgabGreatDoor
set_option linter.unusedVariables false
set_option linter.unusedSimpArgs false
open Go.RowKit
open Mk (St Bs Ev Att)

/-- The attributes lie behind one another. -/
def AtsAt (w : World) (aa : Option Addr) (l : List Att) : Prop :=
  ∀ k (hk : k < l.length), ∃ g, aa = some ⟨g, 0, none⟩ ∧ g < w.heap.size ∧ w.cell? ⟨g, k * 3, none⟩ = some (.string ⟨l[k].name.toArray⟩) ∧ w.cell? ⟨g, k * 3 + 2, none⟩ = some (.string ⟨l[k].val.toArray⟩)
theorem AtsAt.of {w : World} {l : List Att} {a : Option Addr} {c : Nat} (h : w.ownsRow 0 112 3 (.slice a l.length c) l.length (atsRow l)) : AtsAt w a l := fun k hk => by
  obtain ⟨g, h1, h2, h3⟩ := spElem (m := 3) (l := l) atCells (fun _ => rfl) (by decide) h k hk
  exact ⟨g, h1, h2, h3 0 (by decide), h3 2 (by decide)⟩
theorem AtsAt.drew {w : World} {l : List Att} {a : Option Addr} (h : AtsAt w a l) (n : Nat) : AtsAt (w.drewN n) a l := h
theorem AtsAt.keep {w w' : World} {l : List Att} {a : Option Addr} (h : AtsAt w a l) (hb : Below w.heap.size w w') : AtsAt w' a l := fun k hk => by
  obtain ⟨g, h1, h2, h3, h4⟩ := h k hk
  have hc : ∀ j, w'.cell? ⟨g, j, none⟩ = w.cell? ⟨g, j, none⟩ := fun j => by simp only [World.cell?]; rw [hb.block _ h2]
  exact ⟨g, h1, by have := hb.size; omega, by rw [hc]; exact h3, by rw [hc]; exact h4⟩
set_option maxHeartbeats 2000000 in
set_option maxRecDepth 100000 in
theorem repeated_any {w : World} {l : List Att} {a : Option Addr} {c : Nat} (h : AtsAt w a l) (hn : (Names l).Nodup) (hl : l.length ≤ 1000000) :
    Calls Tryz.prog 41 #[.slice a l.length c] w fun e w' => e = .returned (.bool false) ∧ ∃ n, w' = w.drewN n := by
  have HA := hide h
  have HN : Hid (∀ i k (hi : i < l.length) (hk : k < l.length), k < i → (l[i].name == l[k].name) = false) := by
    intro i k hi hk hki
    rw [beq_eq_false_iff_ne]
    intro e
    have h1 := List.pairwise_iff_getElem.1 hn k i (by unfold Names; simpa using hk) (by unfold Names; simpa using hi) hki
    unfold Names at h1
    simp only [List.getElem_map] at h1
    exact h1 e.symm
  clear h hn
  go_enter Tryz.func41, Tryz.ntmps41
  go_wp2_with fail
  go_loopw [3] (fun s3 wx => ∃ (i n : Nat), i ≤ l.length ∧ s3 = .int .i64 i ∧ wx = w.drewN n) (fun i _ => l.length - (intOf i).toNat)
  case atStart => exact ⟨0, 0, by omega, rfl, rfl⟩
  case round =>
    obtain ⟨i, n, hi, rfl, rfl⟩ := hrel
    by_cases hlt : i < l.length
    · have e1 : decide ((i : Int) < (l.length : Int)) = true := by simp; omega
      have e2 : (i : Int) < (l.length : Int) := by omega
      obtain ⟨g, hg, hg1, p0, _⟩ := (unhide HA) i hlt
      have HP := hide p0
      have HK : Hid (∀ k, k < i → ∃ y : Bs, (l[i].name == y) = false ∧ w.cell? ⟨g, k * 3, none⟩ = some (.string ⟨y.toArray⟩)) := fun k hk => by
        obtain ⟨g', hg', _, q0, _⟩ := (unhide HA) k (by omega)
        rw [hg] at hg'
        cases hg'
        exact ⟨_, (unhide HN) i k hlt (by omega) hk, q0⟩
      subst hg
      clear p0
      generalize l[i].name = x at *
      go_wp2_with fail
      go_loopw [4] (fun s4 wx => ∃ (k m : Nat), k ≤ i ∧ s4 = .int .i64 k ∧ wx = w.drewN m) (fun k _ => i - (intOf k).toNat)
      case atStart => exact ⟨0, n, by omega, rfl, rfl⟩
      case round =>
        obtain ⟨k, m, hk, rfl, rfl⟩ := hrel
        by_cases hlt2 : k < i
        · have e3 : decide ((k : Int) < (i : Int)) = true := by simp; omega
          have e4 : (k : Int) < (l.length : Int) := by omega
          obtain ⟨y, hy1, q0⟩ := (unhide HK) k hlt2
          have p0 := unhide HP
          clear HK HP HA HN
          go_wp2
          go_quiet (fail)
          go_wp2
          go_roundw
          case rel => exact ⟨k + 1, _, by omega, by go_num, by first | rfl | exact drewN_two _ _ _⟩
          case measure => simp [intOf]; omega
        · have e3 : decide ((k : Int) < (i : Int)) = false := by simp; omega
          go_wp2
          go_roundw
          case rel => exact ⟨i + 1, m, by omega, by go_num, rfl⟩
          case measure => simp [intOf]; omega
    · have e1 : decide ((i : Int) < (l.length : Int)) = false := by simp; omega
      go_wp2
      go_ret
      exact ⟨rfl, n, rfl⟩
theorem longA_take (n : Nat) (l : List Att) (i : Nat) (hi : i < l.length) : longA n (l.take (i + 1)) = max (max (longA n (l.take i)) (chars l[i].val)) l[i].name.length := by
  have hsn : ∀ (l : List Att) (n : Nat) (a : Att), longA n (l ++ [a]) = max (max (longA n l) (chars a.val)) a.name.length := by
    intro l
    induction l with
    | nil => intro n a; rfl
    | cons b r ih => intro n a; exact ih _ a
  rw [List.take_add_one]
  simp only [List.getElem?_eq_getElem hi, Option.toList_some]
  exact hsn _ _ _
set_option maxHeartbeats 4000000 in
set_option maxRecDepth 100000 in
theorem longest_any {w : World} {x : Ev} {a : Option Addr} {c : Nat} (h : AtsAt w a x.attrs) (hn : x.name.length ≤ 1000000000000000000) (hv : x.val.length ≤ 1000000000000000000) (hl : x.attrs.length ≤ 1000000) (ha : ∀ y ∈ x.attrs, y.name.length ≤ 1000000000000000000 ∧ y.val.length ≤ 1000000000000000000) :
    Calls Tryz.prog 42 #[.agg #[.int .i64 x.kind, .string ⟨x.name.toArray⟩, .string ⟨x.space.toArray⟩, .string ⟨x.val.toArray⟩, .slice a x.attrs.length c]] w fun e w' => e = .returned (.int .i64 (longE x : Int)) ∧ Below w.heap.size w w' := by
  have HC := hide (fun (l : Bs) (hl : l.length ≤ 1000000000000000000) w => characters_any l hl w)
  have HL := hide (fun (a b : Nat) w => larger_any a b w)
  have hb0 := (Below.refl w.heap.size w).alloc (Nat.le_refl _) (.cells #[.int .i64 x.kind, .string ⟨x.name.toArray⟩, .string ⟨x.space.toArray⟩, .string ⟨x.val.toArray⟩, .slice a x.attrs.length c] 53 (0, 0))
  have HA := hide (h.keep hb0)
  have HH := hide ha
  have HB0 := hide hb0
  obtain ⟨M, hM⟩ : ∃ M, M = if x.kind = 3 then x.name.length else max x.name.length (chars x.val) := ⟨_, rfl⟩
  have HFIN : Hid (longE x = longA M x.attrs) := by show _ = _; unfold longE; rw [hM]
  generalize longE x = FIN at *
  generalize x.attrs = l at *
  have HM := hide hM
  clear h ha hb0 hM
  go_enter Tryz.func42, Tryz.ntmps42
  have HT := hide (longA_take M l)
  obtain ⟨W, hW⟩ : ∃ W, W = w.alloc (.cells #[.int .i64 x.kind, .string ⟨x.name.toArray⟩, .string ⟨x.space.toArray⟩, .string ⟨x.val.toArray⟩, .slice a l.length c] 53 (0, 0)) := ⟨_, rfl⟩
  rw [← hW] at HA HB0
  have hWc : ∀ j, W.cell? ⟨w.heap.size, j, none⟩ = [.int .i64 x.kind, .string ⟨x.name.toArray⟩, .string ⟨x.space.toArray⟩, .string ⟨x.val.toArray⟩, .slice a l.length c][j]? := fun j => by rw [hW]; simp only [World.cell?]; rw [heap_alloc_new]; simp
  have HWC := hide hWc
  have HW := hide hW
  clear hW hWc
  cases e3 : (x.kind != 3)
  all_goals
    go_wp2_with (first | (go_at_call 63; refine (unhide HC _ hv _).mono ?_; rintro e w' ⟨rfl, rfl⟩) | (go_at_call 18; refine (unhide HL _ _ _).mono ?_; rintro e w' ⟨rfl, rfl⟩))
    go_loopg [3, 5] l.length (fun g s3 s5 wx => wx = W ∧ ∃ (i n : Nat), i ≤ l.length ∧ g = l.length - i ∧ s3 = .int .i64 (n : Int) ∧ s5 = .int .i64 (i : Int) ∧ Hid (n = longA M (l.take i)))
    case atStart =>
      refine ⟨(unhide HW).symm, 0, M, by omega, rfl, ?_, rfl, rfl⟩
      rw [unhide HM]
      have e4 : x.kind = 3 ∨ x.kind ≠ 3 := by omega
      rcases e4 with e4 | e4
      · simp [e4] at e3 ⊢
      · simp [e4] at e3 ⊢
    case round =>
      obtain ⟨hwr, i, n, hi, rfl, rfl, rfl, HF⟩ := hrel
      subst hwr
      have hc4 := unhide HWC
      by_cases h3 : i < l.length
      · have e1 : decide ((i : Int) < (l.length : Int)) = true := by simp; omega
        have hk1 : (i : Int) < (l.length : Int) := by omega
        obtain ⟨g, hg, hgl, p0, p2⟩ := (unhide HA) i h3
        have hy := (unhide HH) l[i] (List.getElem_mem h3)
        have HTi := hide (unhide HT i h3)
        rw [hg] at hc4
        clear HT HA HH HW HWC HFIN HM hg
        generalize l[i] = y at *
        obtain ⟨hy1, hy2⟩ := hy
        go_wp2_with (first | (go_at_call 63; refine (unhide HC _ hy2 _).mono ?_; rintro e w' ⟨rfl, rfl⟩) | (go_at_call 18; refine (unhide HL _ _ _).mono ?_; rintro e w' ⟨rfl, rfl⟩))
        go_roundg (l.length - (i + 1))
        case measure => omega
        case rel => exact ⟨rfl, i + 1, _, by omega, rfl, rfl, by simp, by show _ = _; rw [unhide HTi, ← unhide HF]; omega⟩
      · obtain rfl : i = l.length := by omega
        have e1 : decide ((l.length : Int) < (l.length : Int)) = false := by simp
        have hn : n = FIN := by have := unhide HF; rw [List.take_length, ← unhide HFIN] at this; exact this
        subst hn
        clear HWC HW HA HT HFIN HM
        go_wp2
        go_ret
        exact ⟨rfl, unhide HB0⟩
end Go.Proofs.YtmgfijllcdadgabGreatDoor
