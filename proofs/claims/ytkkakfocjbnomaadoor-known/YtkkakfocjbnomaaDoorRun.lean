/-
  CONTRACTS of package markupkeep: pick, options, run.
-/
import Derived.Test.YtkkakfocjbnomaaDoorJoined2
import Derived.Test.YtkkakfocjbnomaaDoorFeed2
import Derived.Laws.IdiomStrings
namespace Go.Proofs.YtkkakfocjbnomaaDoor
set_option linter.unusedVariables false
set_option linter.unusedSimpArgs false
open Go.RowKit
open Mk (St Bs Ev Att)

/-- Which of n things the raw number c speaks of. -/
def pk (c n : Int) : Int := (if c < 0 then -(c + 1) else c) % n
theorem pk_bd (c n : Int) (hn : 0 < n) : 0 ≤ pk c n ∧ pk c n < n := by
  unfold pk
  exact ⟨Int.emod_nonneg _ (by omega), Int.emod_lt_of_pos _ hn⟩
theorem retI {k : IntKind} {a b : Int} (h : a = b) : Ending.returned (.int k a) = .returned (.int k b) := by rw [h]
theorem pick_any (c n : Int) (c0 : -9223372036854775808 ≤ c) (c1 : c ≤ 9223372036854775807) (n0 : 0 < n) (n1 : n ≤ 1000000000000) (w : World) :
    Calls Tryd.prog 8 #[.int .i64 c, .int .i64 n] w fun e w' => e = .returned (.int .i64 (pk c n)) ∧ w' = w := by
  by_cases h : c < 0
  · have e0 : (n == 0) = false := by rw [beq_eq_false_iff_ne]; omega
    go_enter Tryd.func8, Tryd.ntmps8
    go_wp2
    go_ret
    refine ⟨retI ?_, rfl⟩
    unfold pk
    rw [if_pos h, ← Int.neg_tmod, Int.tmod_eq_emod_of_nonneg (by omega)]
  · have e0 : (n == 0) = false := by rw [beq_eq_false_iff_ne]; omega
    go_enter Tryd.func8, Tryd.ntmps8
    go_wp2
    go_ret
    exact ⟨retI (by unfold pk; rw [if_neg (by omega)]), rfl⟩

/-- A number of Go's int. -/
def I64 (c : Int) : Prop := -9223372036854775808 ≤ c ∧ c ≤ 9223372036854775807
theorem options_any (a b c : Int) (n : Bool) (ha : I64 a) (hb : I64 b) (hc : I64 c) (w : World) :
    Calls Tryd.prog 12 #[.int .i64 a, .int .i64 b, .int .i64 c, .bool n] w fun e w' => e = .returned (.agg #[.int .i64 (1 + pk a 64), .int .i64 (pk b 33), .int .i64 (8 + pk c 1017), .bool n]) ∧ Below w.heap.size w w' := by
  have HA := hide (fun w => pick_any a 64 ha.1 ha.2 (by decide) (by decide) w)
  have HB := hide (fun w => pick_any b 33 hb.1 hb.2 (by decide) (by decide) w)
  have HC := hide (fun w => pick_any c 1017 hc.1 hc.2 (by decide) (by decide) w)
  have b1 := pk_bd a 64 (by decide)
  have b2 := pk_bd b 33 (by decide)
  have b3 := pk_bd c 1017 (by decide)
  clear ha hb hc
  generalize pk a 64 = p1 at *
  generalize pk b 33 = p2 at *
  generalize pk c 1017 = p3 at *
  go_enter Tryd.func12, Tryd.ntmps12
  go_wp2_with fail
  refine (unhide HA _).mono ?_
  rintro e w' ⟨rfl, rfl⟩
  go_wp2_with fail
  refine (unhide HB _).mono ?_
  rintro e w' ⟨rfl, rfl⟩
  go_wp2_with fail
  refine (unhide HC _).mono ?_
  rintro e w' ⟨rfl, rfl⟩
  go_wp2
  exact bodyPost_ret (v := .agg #[.int .i64 (1 + p1), .int .i64 p2, .int .i64 (8 + p3), .bool n]) (by simp [results, Tryd.results12, go_sem]) rfl ⟨rfl, by repeat (first | exact Below.refl _ _ | refine Below.alloc ?_ (by simp <;> omega) _)⟩

/-- What a text comes to, cut as the numbers say. -/
def runL (s : St) (evs : List Ev) (err : Int) (text : Bs) : List Int → St × List Ev × Int
  | [] => ((Mk.feed s text).1, join evs (Mk.feed s text).2.1, (Mk.feed s text).2.2)
  | c :: r => runL (Mk.feed s (text.take (pk c (text.length + 1)).toNat)).1 (join evs (Mk.feed s (text.take (pk c (text.length + 1)).toNat)).2.1) (Mk.feed s (text.take (pk c (text.length + 1)).toNat)).2.2 (text.drop (pk c (text.length + 1)).toNat) r
end Go.Proofs.YtkkakfocjbnomaaDoor
