/-
  CONTRACTS of package markupkeep: sameNames, same, fine.
-/
import Derived.Test.YtkkakfocjbnomaaDoorRun2
namespace Go.Proofs.YtkkakfocjbnomaaDoor
set_option linter.unusedVariables false
set_option linter.unusedSimpArgs false
open Go.RowKit
open Mk (St Bs Ev Att)

theorem below_drewN {B : Nat} {a w : World} (h : Below B a w) (n : Nat) : Below B a (w.drewN n) := ⟨h.os, h.tape, h.output, h.size, h.block⟩
theorem map_flat (l : List Bs) : l.map sv = l.flatMap fun x => [sv x] := by
  induction l with
  | nil => rfl
  | cons x r ih => simp [ih]
set_option maxHeartbeats 1000000 in
theorem sameNames_eq {n1 n2 : Nat} {w : World} {a1 a2 : Option Addr} {o1 o2 c1 c2 : Nat} {l : List Bs} (h1 : Nms n1 w a1 o1 c1 l) (h2 : Nms n2 w a2 o2 c2 l) :
    Calls Tryd.prog 35 #[.slice a1 o1 c1, .slice a2 o2 c2] w fun e w' => e = .returned (.bool true) ∧ ∃ n, w' = w.drewN n := by
  obtain rfl := h1.len
  obtain rfl := h2.len
  have hl := own_len h1
  have g1 := h1
  have g2 := h2
  unfold Nms at g1 g2
  rw [map_flat] at g1 g2
  have HE1 := hide (fun k hk => elem_cells (fun x : Bs => [sv x]) (fun _ => rfl) (by decide) g1 rfl k hk)
  have HE2 := hide (fun k hk => elem_cells (fun x : Bs => [sv x]) (fun _ => rfl) (by decide) g2 rfl k hk)
  clear h1 h2 g1 g2
  have e0 : ((l.length : Int) != (l.length : Int)) = false := by simp
  go_enter Tryd.func35, Tryd.ntmps35
  go_wp2
  go_loopw [5] (fun i w' => ∃ k : Nat, k ≤ l.length ∧ i = .int .i64 k ∧ ∃ n, w' = w.drewN n) (fun i _ => l.length - (intOf i).toNat)
  case atStart => exact ⟨0, by omega, rfl, 0, rfl⟩
  case round =>
    obtain ⟨k, hk, rfl, n, rfl⟩ := hrel
    by_cases hlt : k < l.length
    · obtain ⟨g1, d1, f1, _, q1⟩ := (unhide HE1) k hlt
      obtain ⟨g2, d2, f2, _, q2⟩ := (unhide HE2) k hlt
      injection f1 with f1 _ f1c
      injection f2 with f2 _ f2c
      subst f1
      subst f2
      subst f1c
      subst f2c
      have p10 := q1 0 (by decide)
      have p20 := q2 0 (by decide)
      simp [sv] at p10 p20
      clear q1 q2 HE1 HE2
      generalize l[k] = x at *
      go_wp2
      go_quiet (fail)
      go_wp2
      go_roundw
      case rel => exact ⟨k + 1, by omega, by go_num, _, rfl⟩
      case measure => simp [intOf]; omega
    · have e1 : decide ((k : Int) < (l.length : Int)) = false := by simp; omega
      clear HE1 HE2
      go_wp2
      go_ret
      exact ⟨rfl, n, rfl⟩

theorem fine_yes (v : Value) (at_ : Int) (q : Plc) (hv : ∃ a n c, v = .slice a n c) (w : World) : Calls Tryd.prog 34 #[.agg (outCells v 0 0 at_ q)] w fun e w' => e = .returned (.bool true) ∧ Below w.heap.size w w' := by
  obtain ⟨va, vn, vc, rfl⟩ := hv
  unfold outCells
  go_enter Tryd.func34, Tryd.ntmps34
  go_wp2
  go_ret
  exact ⟨rfl, (Below.refl _ _).alloc (by simp) _⟩

theorem same_eq {w : World} {v1 v2 : Value} {l : List Ev} {fp1 fp2 : List Nat} {n1 n2 : Nat} {s1 s2 : St} (h1 : Got w v1 l fp1) (h2 : Got w v2 l fp2) (hf1 : ∀ k ∈ fp1, k < w.heap.size) (hf2 : ∀ k ∈ fp2, k < w.heap.size) (err en at_ : Int) (q1 q2 : Plc) (hq1 : PlOk n1 w q1 s1) (hq2 : PlOk n2 w q2 s2) (hp : s1.line = s2.line ∧ s1.column = s2.column ∧ s1.opn = s2.opn) :
    Calls Tryd.prog 26 #[.agg (outCells v1 err en at_ q1), .agg (outCells v2 err en at_ q2)] w fun e w' => e = .returned (.bool true) ∧ Below w.heap.size w w' := by
  obtain ⟨a1, c1, rfl⟩ := h1.slice
  obtain ⟨a2, c2, rfl⟩ := h2.slice
  have hnb : ∀ {n : Nat} {w' : World} {q : Plc} {m : List Bs}, Nms n w q.oa q.on q.oc m → Below w.heap.size w w' → Nms n w' q.oa q.on q.oc m := fun h hb => h.keep fun k _ hk => hb.block k hk
  have HS := hide (fun (w' : World) (hb : Below w.heap.size w w') => sameEvents_eq (h1.keep fun k hk => hb.block k (hf1 k hk)) (h2.keep fun k hk => hb.block k (hf2 k hk)))
  have hq2' := hq2.nm
  rw [← hp.2.2] at hq2'
  have HNm := hide (fun (w' : World) (hb : Below w.heap.size w w') => sameNames_eq (hnb hq1.nm hb) (hnb hq2' hb))
  have e4 : (q1.ln == q2.ln) = true := by rw [hq1.ln, hq2.ln, hp.1]; simp
  have e5 : (q1.co == q2.co) = true := by rw [hq1.co, hq2.co, hp.2.1]; simp
  clear h1 h2 hf1 hf2 hq1 hq2 hq2' hp hnb
  obtain ⟨ln1, co1, oa1, on1, oc1⟩ := q1
  obtain ⟨ln2, co2, oa2, on2, oc2⟩ := q2
  unfold outCells
  go_enter Tryd.func26, Tryd.ntmps26
  go_wp2_with fail
  have hb1 := ((Below.refl w.heap.size w).alloc (Nat.le_refl _) (.cells #[.slice a1 l.length c1, .int .i64 err, .int .i64 en, .int .i64 at_, .int .i64 ln1, .int .i64 co1, .slice oa1 on1 oc1] 32 (0, 0))).alloc (by simp) (.cells #[.slice a2 l.length c2, .int .i64 err, .int .i64 en, .int .i64 at_, .int .i64 ln2, .int .i64 co2, .slice oa2 on2 oc2] 32 (0, 0))
  refine (unhide HS _ hb1).mono ?_
  rintro e w1 ⟨rfl, n, rfl⟩
  have hb2 := below_drewN hb1 n
  clear hb1
  go_wp2_with fail
  refine (unhide HNm _ hb2).mono ?_
  rintro e w1 ⟨rfl, n3, rfl⟩
  have e1 : (err == err) = true := by simp
  have e2 : (en == en) = true := by simp
  have e3 : (at_ == at_) = true := by simp
  have hfin := below_drewN hb2 n3
  rw [drewN_two] at hfin
  clear hb2 HS HNm
  go_wp2
  go_ret
  exact ⟨rfl, hfin⟩
end Go.Proofs.YtkkakfocjbnomaaDoor
