/- Golds -/
import Derived.Test.YtmgfijllcdadgaaGreatDoorM28
import Derived.Test.YtmgfijllcdadgaaGreatDoorM21
namespace Go.Proofs.YtmgfijllcdadgaaGreatDoor
set_option linter.unusedVariables false
set_option linter.unusedSimpArgs false
open Go.RowKit
open Mk (St Bs Ev Att)

theorem start_any (nm : Bs) (a : Option Addr) (n c : Nat) (w : World) :
    Calls Tryz.prog 32 #[.string ⟨nm.toArray⟩, .slice a n c] w fun e w' => e = .returned (.agg #[.int .i64 1, .string ⟨nm.toArray⟩, .string ⟨#[]⟩, .string ⟨#[]⟩, .slice a n c]) ∧ Below w.heap.size w w' := by
  go_enter Tryz.func32, Tryz.ntmps32
  go_wp2
  exact bodyPost_ret (v := .agg #[.int .i64 1, .string ⟨nm.toArray⟩, .string ⟨#[]⟩, .string ⟨#[]⟩, .slice a n c]) (by simp [results, Tryz.results32, go_sem]) rfl ⟨rfl, by repeat (first | exact Below.refl _ _ | refine Below.alloc ?_ (by simp <;> omega) _)⟩
theorem end_any (nm : Bs) (w : World) :
    Calls Tryz.prog 33 #[.string ⟨nm.toArray⟩] w fun e w' => e = .returned (.agg #[.int .i64 2, .string ⟨nm.toArray⟩, .string ⟨#[]⟩, .string ⟨#[]⟩, .slice none 0 0]) ∧ Below w.heap.size w w' := by
  go_enter Tryz.func33, Tryz.ntmps33
  go_wp2
  exact bodyPost_ret (v := .agg #[.int .i64 2, .string ⟨nm.toArray⟩, .string ⟨#[]⟩, .string ⟨#[]⟩, .slice none 0 0]) (by simp [results, Tryz.results33, go_sem]) rfl ⟨rfl, by repeat (first | exact Below.refl _ _ | refine Below.alloc ?_ (by simp <;> omega) _)⟩
theorem text_any (nm : Bs) (w : World) :
    Calls Tryz.prog 34 #[.string ⟨nm.toArray⟩] w fun e w' => e = .returned (.agg #[.int .i64 3, .string ⟨#[]⟩, .string ⟨#[]⟩, .string ⟨nm.toArray⟩, .slice none 0 0]) ∧ Below w.heap.size w w' := by
  go_enter Tryz.func34, Tryz.ntmps34
  go_wp2
  exact bodyPost_ret (v := .agg #[.int .i64 3, .string ⟨#[]⟩, .string ⟨#[]⟩, .string ⟨nm.toArray⟩, .slice none 0 0]) (by simp [results, Tryz.results34, go_sem]) rfl ⟨rfl, by repeat (first | exact Below.refl _ _ | refine Below.alloc ?_ (by simp <;> omega) _)⟩

/-! ### What comes of it -/
def eA : Ev := ⟨1, [97], [], [], []⟩
def eZ : Ev := ⟨2, [97], [], [], []⟩
def eC : Ev := ⟨4, [], [], [99], []⟩
def eT : Ev := ⟨5, [116], [], [100, 32], []⟩
def eW : Ev := ⟨1, [97], [], [], [⟨[98], [], [49, 34]⟩, ⟨[99], [], [120, 32, 121, 10]⟩]⟩
def eX (t : Bs) : Ev := ⟨3, [], [], t, []⟩
def nilV : Value := .slice none 0 0
structure Kn where
  text : Bs
  evs : List (Ev × Value)
  err : Int
  en : Int
  at_ : Int
  ln : Int
  co : Int
def goldT (tv : Value) : List Kn :=
  [⟨[60, 97, 47, 62], [(eA, nilV), (eZ, nilV)], 0, 0, 4, 1, 5⟩,
   ⟨[60, 97, 62, 120, 38, 97, 109, 112, 59, 121, 60, 33, 91, 67, 68, 65, 84, 65, 91, 60, 93, 93, 62, 60, 47, 97, 62], [(eA, nilV), ((eX [120, 38, 121, 60]), nilV), (eZ, nilV)], 0, 0, 27, 1, 28⟩,
   ⟨[60, 33, 45, 45, 99, 45, 45, 62, 60, 63, 116, 32, 32, 100, 32, 63, 62, 13, 10, 60, 97, 62, 60, 47, 97, 32, 62], [(eC, nilV), (eT, nilV), (eA, nilV), (eZ, nilV)], 0, 0, 27, 2, 9⟩,
   ⟨[60, 97, 32, 98, 61, 39, 49, 34, 39, 32, 99, 32, 61, 32, 34, 120, 13, 10, 121, 38, 35, 49, 48, 59, 34, 47, 62], [(eW, tv), (eZ, nilV)], 0, 0, 27, 2, 10⟩,
   ⟨[60, 97, 62, 60, 47, 98, 62], [(eA, nilV)], 5, 5, 6, 1, 6⟩,
   ⟨[60, 97, 32, 98, 61, 34, 34, 32, 98, 61, 34, 34, 62], [], 6, 6, 10, 1, 10⟩,
   ⟨[60, 97, 62, 93, 93, 62, 60, 47, 97, 62], [(eA, nilV), ((eX [93, 93]), nilV)], 3, 3, 6, 1, 6⟩,
   ⟨[60, 97, 62, 38, 35, 120, 49, 49, 48, 48, 48, 48, 59], [(eA, nilV)], 4, 4, 12, 1, 12⟩,
   ⟨[60, 97, 32, 98, 61, 34, 49, 50, 51, 52, 53, 54, 55, 56, 57, 48, 49, 50, 51, 52, 53, 54, 55, 34, 47, 62], [], 7, 7, 23, 1, 23⟩,
   ⟨[60, 97, 62, 237, 160], [(eA, nilV)], 2, 2, 5, 1, 4⟩,
   ⟨[60, 97, 62, 60, 98], [(eA, nilV)], 0, 9, 5, 1, 6⟩,
   ⟨[60, 97, 47, 62, 60, 98], [(eA, nilV), (eZ, nilV)], 3, 3, 6, 1, 6⟩,
   ⟨[60, 97, 62, 226, 130, 172, 13, 13, 10, 93, 93, 226], [(eA, nilV), ((eX [226, 130, 172, 10, 10, 93, 93]), nilV)], 0, 9, 12, 3, 3⟩]
def knCells (x : Kn) (u : Value) : List Value := [.string ⟨x.text.toArray⟩, u, .int .i64 x.err, .int .i64 x.en, .int .i64 x.at_, .int .i64 x.ln, .int .i64 x.co]
/-- A list of events, in a block that is new since n0. -/
def SL (n0 : Nat) (w : World) (u : Value) (l : List (Ev × Value)) : Prop :=
  (l = [] ∧ u = .slice none 0 0) ∨ ∃ g, n0 ≤ g ∧ u = .slice (some ⟨g, 0, none⟩) l.length l.length ∧ w.heap[g]? = some (.cells (evsRow l).toArray 65 (0, 0))
inductive Kd where
  | ev (e : Ev) (v : Value)
  | sl (l : List (Ev × Value))
  | kn (x : Kn)
  | all
def Kd.ok (n0 : Nat) (tv : Value) : Kd → Value → World → Prop
  | .ev e u, v, w => v = .agg (evCells e u).toArray
  | .sl l, v, w => SL n0 w v l
  | .kn x, v, w => ∃ a n c, v = .agg (knCells x (.slice a n c)).toArray ∧ SL n0 w (.slice a n c) x.evs
  | .all, v, w => ∃ (g : Nat) (us : List Value), n0 ≤ g ∧ v = .slice (some ⟨g, 0, none⟩) 13 13 ∧ us.length = 13 ∧ w.heap[g]? = some (.cells (((goldT tv).zip us).flatMap fun p => knCells p.1 p.2).toArray 32 (0, 0)) ∧ ∀ p ∈ (goldT tv).zip us, SL n0 w p.2 p.1.evs
def spec (tv : Value) : List Kd :=
  [.ev eA nilV,
   .ev eZ nilV,
   .sl [(eA, nilV), (eZ, nilV)],
   .kn ⟨[60, 97, 47, 62], [(eA, nilV), (eZ, nilV)], 0, 0, 4, 1, 5⟩,
   .ev eA nilV,
   .ev (eX [120, 38, 121, 60]) nilV,
   .ev eZ nilV,
   .sl [(eA, nilV), ((eX [120, 38, 121, 60]), nilV), (eZ, nilV)],
   .kn ⟨[60, 97, 62, 120, 38, 97, 109, 112, 59, 121, 60, 33, 91, 67, 68, 65, 84, 65, 91, 60, 93, 93, 62, 60, 47, 97, 62], [(eA, nilV), ((eX [120, 38, 121, 60]), nilV), (eZ, nilV)], 0, 0, 27, 1, 28⟩,
   .ev eC nilV,
   .ev eT nilV,
   .ev eA nilV,
   .ev eZ nilV,
   .sl [(eC, nilV), (eT, nilV), (eA, nilV), (eZ, nilV)],
   .kn ⟨[60, 33, 45, 45, 99, 45, 45, 62, 60, 63, 116, 32, 32, 100, 32, 63, 62, 13, 10, 60, 97, 62, 60, 47, 97, 32, 62], [(eC, nilV), (eT, nilV), (eA, nilV), (eZ, nilV)], 0, 0, 27, 2, 9⟩,
   .ev eW tv,
   .ev eZ nilV,
   .sl [(eW, tv), (eZ, nilV)],
   .kn ⟨[60, 97, 32, 98, 61, 39, 49, 34, 39, 32, 99, 32, 61, 32, 34, 120, 13, 10, 121, 38, 35, 49, 48, 59, 34, 47, 62], [(eW, tv), (eZ, nilV)], 0, 0, 27, 2, 10⟩,
   .ev eA nilV,
   .sl [(eA, nilV)],
   .kn ⟨[60, 97, 62, 60, 47, 98, 62], [(eA, nilV)], 5, 5, 6, 1, 6⟩,
   .kn ⟨[60, 97, 32, 98, 61, 34, 34, 32, 98, 61, 34, 34, 62], [], 6, 6, 10, 1, 10⟩,
   .ev eA nilV,
   .ev (eX [93, 93]) nilV,
   .sl [(eA, nilV), ((eX [93, 93]), nilV)],
   .kn ⟨[60, 97, 62, 93, 93, 62, 60, 47, 97, 62], [(eA, nilV), ((eX [93, 93]), nilV)], 3, 3, 6, 1, 6⟩,
   .ev eA nilV,
   .sl [(eA, nilV)],
   .kn ⟨[60, 97, 62, 38, 35, 120, 49, 49, 48, 48, 48, 48, 59], [(eA, nilV)], 4, 4, 12, 1, 12⟩,
   .kn ⟨[60, 97, 32, 98, 61, 34, 49, 50, 51, 52, 53, 54, 55, 56, 57, 48, 49, 50, 51, 52, 53, 54, 55, 34, 47, 62], [], 7, 7, 23, 1, 23⟩,
   .ev eA nilV,
   .sl [(eA, nilV)],
   .kn ⟨[60, 97, 62, 237, 160], [(eA, nilV)], 2, 2, 5, 1, 4⟩,
   .ev eA nilV,
   .sl [(eA, nilV)],
   .kn ⟨[60, 97, 62, 60, 98], [(eA, nilV)], 0, 9, 5, 1, 6⟩,
   .ev eA nilV,
   .ev eZ nilV,
   .sl [(eA, nilV), (eZ, nilV)],
   .kn ⟨[60, 97, 47, 62, 60, 98], [(eA, nilV), (eZ, nilV)], 3, 3, 6, 1, 6⟩,
   .ev eA nilV,
   .ev (eX [226, 130, 172, 10, 10, 93, 93]) nilV,
   .sl [(eA, nilV), ((eX [226, 130, 172, 10, 10, 93, 93]), nilV)],
   .kn ⟨[60, 97, 62, 226, 130, 172, 13, 13, 10, 93, 93, 226], [(eA, nilV), ((eX [226, 130, 172, 10, 10, 93, 93]), nilV)], 0, 9, 12, 3, 3⟩,
   .all]
theorem SL.mono {n0 : Nat} {w w' : World} {u : Value} {l : List (Ev × Value)} (h : SL n0 w u l) (hb : Below w.heap.size w w') : SL n0 w' u l := by
  rcases h with h | ⟨g, h1, h2, h3⟩
  · exact .inl h
  · exact .inr ⟨g, h1, h2, (hb.block g (Array.getElem?_eq_some_iff.1 h3).1).trans h3⟩
theorem SL.slice {n0 : Nat} {w : World} {u : Value} {l : List (Ev × Value)} (h : SL n0 w u l) : ∃ a n c, u = .slice a n c := by
  rcases h with ⟨_, h⟩ | ⟨g, _, h, _⟩
  · exact ⟨_, _, _, h⟩
  · exact ⟨_, _, _, h⟩
theorem Kd.mono {n0 : Nat} {tv : Value} {k : Kd} {v : Value} {w w' : World} (h : k.ok n0 tv v w) (hb : Below w.heap.size w w') : k.ok n0 tv v w' := by
  cases k with
  | ev e u => exact h
  | sl l => exact SL.mono h hb
  | kn x =>
    obtain ⟨a, n, c, h1, h2⟩ := h
    exact ⟨a, n, c, h1, h2.mono hb⟩
  | all =>
    obtain ⟨g, us, h1, h2, h3, h4, h5⟩ := h
    exact ⟨g, us, h1, h2, h3, (hb.block g (Array.getElem?_eq_some_iff.1 h4).1).trans h4, fun p hp => (h5 p hp).mono hb⟩
def Sp (n0 : Nat) (tv : Value) (i : Nat) (v : Value) (w : World) : Prop := ∃ k, (spec tv)[i]? = some k ∧ k.ok n0 tv v w

/-- What is so of slots and world while the operations come up. -/
structure GJ (W0 : World) (g1 g2 g3 g4 g5 : Nat) (tv : Value) (listed : Array Bool) (a : Act) (w : World) : Prop where
  sz : listed.size = 47
  tz : a.tmps.size = 60
  df : a.defers = []
  bel : Below W0.heap.size W0 w
  p1 : a.tmps.getD 1 undef = .pointer (some ⟨g1, 0, none⟩)
  p2 : a.tmps.getD 2 undef = .pointer (some ⟨g2, 0, none⟩)
  p3 : a.tmps.getD 3 undef = .pointer (some ⟨g3, 0, none⟩)
  p4 : a.tmps.getD 4 undef = .pointer (some ⟨g4, 0, none⟩)
  p5 : a.tmps.getD 5 undef = .pointer (some ⟨g5, 0, none⟩)
  sp : ∀ i, i < 46 → listed.getD i false = true → Sp W0.heap.size tv i (a.tmps.getD (14 + i) undef) w
  fin : listed.getD 46 false = true → Sp W0.heap.size tv 45 (a.tmps.getD 0 undef) w
/-- What lay there before. -/
structure GC (W0 : World) (g1 g2 g3 g4 g5 : Nat) (tv : Value) : Prop where
  b1 : W0.heap[g1]? = some (.cells (evCells eA nilV).toArray 65 (0, 0))
  b2 : W0.heap[g2]? = some (.cells (evCells eZ nilV).toArray 65 (0, 0))
  b3 : W0.heap[g3]? = some (.cells (evCells eC nilV).toArray 65 (0, 0))
  b4 : W0.heap[g4]? = some (.cells (evCells eT nilV).toArray 65 (0, 0))
  b5 : W0.heap[g5]? = some (.cells (evCells eW tv).toArray 65 (0, 0))
section
variable {W0 : World} {g1 g2 g3 g4 g5 : Nat} {tv : Value} {listed : Array Bool} {a : Act} {w w' : World} {ops : Array Oper} {Q : Exit → Act → World → Prop} {o : Oper}
theorem GC.c1 (h : GC W0 g1 g2 g3 g4 g5 tv) (hb : Below W0.heap.size W0 w) : w.heap[g1]? = some (.cells (evCells eA nilV).toArray 65 (0, 0)) := (hb.block _ (Array.getElem?_eq_some_iff.1 h.b1).1).trans h.b1
theorem GC.c2 (h : GC W0 g1 g2 g3 g4 g5 tv) (hb : Below W0.heap.size W0 w) : w.heap[g2]? = some (.cells (evCells eZ nilV).toArray 65 (0, 0)) := (hb.block _ (Array.getElem?_eq_some_iff.1 h.b2).1).trans h.b2
theorem GC.c3 (h : GC W0 g1 g2 g3 g4 g5 tv) (hb : Below W0.heap.size W0 w) : w.heap[g3]? = some (.cells (evCells eC nilV).toArray 65 (0, 0)) := (hb.block _ (Array.getElem?_eq_some_iff.1 h.b3).1).trans h.b3
theorem GC.c4 (h : GC W0 g1 g2 g3 g4 g5 tv) (hb : Below W0.heap.size W0 w) : w.heap[g4]? = some (.cells (evCells eT nilV).toArray 65 (0, 0)) := (hb.block _ (Array.getElem?_eq_some_iff.1 h.b4).1).trans h.b4
theorem GC.c5 (h : GC W0 g1 g2 g3 g4 g5 tv) (hb : Below W0.heap.size W0 w) : w.heap[g5]? = some (.cells (evCells eW tv).toArray 65 (0, 0)) := (hb.block _ (Array.getElem?_eq_some_iff.1 h.b5).1).trans h.b5

theorem listed_set (listed : Array Bool) (i j : Nat) (h : (listed.setIfInBounds i true).getD j false = true) : j = i ∨ listed.getD j false = true := by
  by_cases hj : j = i
  · exact .inl hj
  · right
    rw [getD_set_ne false (fun e => hj e.symm)] at h
    exact h
theorem GJ.put (h : GJ W0 g1 g2 g3 g4 g5 tv listed a w) (i : Nat) (hi : i < 46) (v : Value) (hb : Below w.heap.size w w') (hsp : Sp W0.heap.size tv i v w') : GJ W0 g1 g2 g3 g4 g5 tv (listed.setIfInBounds i true) (a.put (some (14 + i)) v) w' := by
  have htz := h.tz
  have hp : ∀ k, (a.put (some (14 + i)) v).tmps.getD k undef = if k = 14 + i then v else a.tmps.getD k undef := fun k => getD_put a (14 + i) v k (by omega)
  refine ⟨by simpa using h.sz, by simpa [Act.put] using h.tz, h.df, h.bel.trans (hb.mono h.bel.size), ?_, ?_, ?_, ?_, ?_, ?_, ?_⟩
  · rw [hp, if_neg (by omega)]; exact h.p1
  · rw [hp, if_neg (by omega)]; exact h.p2
  · rw [hp, if_neg (by omega)]; exact h.p3
  · rw [hp, if_neg (by omega)]; exact h.p4
  · rw [hp, if_neg (by omega)]; exact h.p5
  · intro j hj hl
    by_cases e : j = i
    · subst e; rw [hp, if_pos rfl]; exact hsp
    · rw [hp, if_neg (by omega)]
      rcases listed_set _ _ _ hl with hl | hl
      · exact absurd hl e
      · obtain ⟨k, hk, ho⟩ := h.sp j hj hl
        exact ⟨k, hk, Kd.mono ho hb⟩
  · intro hl
    rw [hp, if_neg (by omega)]
    rcases listed_set _ _ _ hl with hl | hl
    · omega
    · obtain ⟨k, hk, ho⟩ := h.fin hl
      exact ⟨k, hk, Kd.mono ho hb⟩

theorem ldI (w : World) (g : Nat) (e : Ev) (v : Value) (h : w.heap[g]? = some (.cells (evCells e v).toArray 65 (0, 0))) : (Instr.loadAt 65 (.pointer (some ⟨g, 0, none⟩))).run Tryz.prog w = .ok (.agg (evCells e v).toArray) w := by
  have h2 := run_loadVar_row (P := Tryz.prog) w g 65 65 (evCells e v).toArray (0, 0) _ h Tryz.underlying65 rfl (by kernel_rfl)
  unfold Instr.loadAt
  simp [Instr.sureAddr, h2]
theorem gstep_ld (hJ : GJ W0 g1 g2 g3 g4 g5 tv listed a w) (i : Nat) (hi : i < 46) (ho : ops[i]? = some o) (hg : o.guard = none) (hd : o.dst = some (14 + i)) (s : Nat) (hop : o.op = .load 65 (.tmp s)) {g : Nat} (hp : a.tmps.getD s undef = .pointer (some ⟨g, 0, none⟩)) {e : Ev} {v : Value} (hc : w.heap[g]? = some (.cells (evCells e v).toArray 65 (0, 0))) (hs : (spec tv)[i]? = some (.ev e v)) :
    wpOp Tryz.prog ops Q i (GJ W0 g1 g2 g3 g4 g5 tv (listed.setIfInBounds i true)) a w := by
  have he : a.eval (.tmp s) = .pointer (some ⟨g, 0, none⟩) := hp
  refine op_val ho hg (.agg (evCells e v).toArray) (w' := w) ?_ ?_
  · unfold execOp
    simp only [hop, he, Sem.run_bind, ldI w g e v hc, Sem.run_pure, Result.andThen_ok]
  · rw [hd]
    exact hJ.put i hi _ (Below.refl _ _) ⟨_, hs, rfl⟩
theorem gstep_call (hJ : GJ W0 g1 g2 g3 g4 g5 tv listed a w) (i : Nat) (hi : i < 46) (ho : ops[i]? = some o) (hg : o.guard = none) (hd : o.dst = some (14 + i)) (t : Bs) (hop : o.op = .call { callee := .value (.func 34), args := #[.const (.string ⟨t.toArray⟩)], argTypes := #[9] }) (hs : (spec tv)[i]? = some (.ev (eX t) nilV)) :
    wpOp Tryz.prog ops Q i (GJ W0 g1 g2 g3 g4 g5 tv (listed.setIfInBounds i true)) a w := by
  refine op_call ho hg 34 #[.string ⟨t.toArray⟩] ?_ ((text_any t w).mono ?_)
  · unfold execOp
    simp [hop, resolve, invoke, Act.eval, Deferred.ofValue, callFunc]
    rw [if_neg (by decide), if_neg (fun h => by cases h)]
  · rintro e w1 ⟨rfl, hb⟩
    refine ⟨_, rfl, ?_⟩
    rw [hd]
    exact hJ.put i hi _ hb ⟨_, hs, rfl⟩
theorem heap_alloc4_new (w : World) (A B C D : Obj) : ((((w.alloc A).alloc B).alloc C).alloc D).heap[w.heap.size + 1 + 1 + 1]? = some D := by
  have := heap_alloc_new (((w.alloc A).alloc B).alloc C) D
  simpa using this
theorem below_new (w : World) (o : Obj) : Below w.heap.size w (w.alloc o) := (Below.refl _ _).alloc (Nat.le_refl _) _
theorem sl_new {n0 : Nat} (w : World) (hn : n0 ≤ w.heap.size) (l : List (Ev × Value)) : SL n0 (w.alloc (.cells (evsRow l).toArray 65 (0, 0))) (.slice (some ⟨w.heap.size, 0, none⟩) l.length l.length) l :=
  .inr ⟨w.heap.size, hn, rfl, heap_alloc_new w _⟩
theorem bsI1 (w : World) (e1 : Ev) (v1 : Value) : (Instr.buildSlice 29 1 #[(0, .agg (evCells e1 v1).toArray)]).run Tryz.prog w = .ok (.slice (some ⟨w.heap.size, 0, none⟩) 1 1) (w.alloc (.cells (evsRow [(e1, v1)]).toArray 65 (0, 0))) := by kernel_rfl
theorem bsI2 (w : World) (e1 e2 : Ev) (v1 v2 : Value) : (Instr.buildSlice 29 2 #[(0, .agg (evCells e1 v1).toArray), (1, .agg (evCells e2 v2).toArray)]).run Tryz.prog w = .ok (.slice (some ⟨w.heap.size, 0, none⟩) 2 2) (w.alloc (.cells (evsRow [(e1, v1), (e2, v2)]).toArray 65 (0, 0))) := by kernel_rfl
theorem bsI3 (w : World) (e1 e2 e3 : Ev) (v1 v2 v3 : Value) : (Instr.buildSlice 29 3 #[(0, .agg (evCells e1 v1).toArray), (1, .agg (evCells e2 v2).toArray), (2, .agg (evCells e3 v3).toArray)]).run Tryz.prog w = .ok (.slice (some ⟨w.heap.size, 0, none⟩) 3 3) (w.alloc (.cells (evsRow [(e1, v1), (e2, v2), (e3, v3)]).toArray 65 (0, 0))) := by kernel_rfl
theorem bsI4 (w : World) (e1 e2 e3 e4 : Ev) (v1 v2 v3 v4 : Value) : (Instr.buildSlice 29 4 #[(0, .agg (evCells e1 v1).toArray), (1, .agg (evCells e2 v2).toArray), (2, .agg (evCells e3 v3).toArray), (3, .agg (evCells e4 v4).toArray)]).run Tryz.prog w = .ok (.slice (some ⟨w.heap.size, 0, none⟩) 4 4) (w.alloc (.cells (evsRow [(e1, v1), (e2, v2), (e3, v3), (e4, v4)]).toArray 65 (0, 0))) := by kernel_rfl
theorem Sp.ev {n0 i : Nat} {v : Value} (h : Sp n0 tv i v w) {e : Ev} {u : Value} (hs : (spec tv)[i]? = some (.ev e u)) : v = .agg (evCells e u).toArray := by
  obtain ⟨k, hk, h2⟩ := h
  rw [hs] at hk
  cases hk
  exact h2
theorem Sp.sl {n0 i : Nat} {v : Value} (h : Sp n0 tv i v w) {l : List (Ev × Value)} (hs : (spec tv)[i]? = some (.sl l)) : SL n0 w v l := by
  obtain ⟨k, hk, h2⟩ := h
  rw [hs] at hk
  cases hk
  exact h2
theorem Sp.kn {n0 i : Nat} {v : Value} (h : Sp n0 tv i v w) {x : Kn} (hs : (spec tv)[i]? = some (.kn x)) : ∃ a n c, v = .agg (knCells x (.slice a n c)).toArray ∧ SL n0 w (.slice a n c) x.evs := by
  obtain ⟨k, hk, h2⟩ := h
  rw [hs] at hk
  cases hk
  exact h2
theorem gstep_sl1 (hJ : GJ W0 g1 g2 g3 g4 g5 tv listed a w) (i : Nat) (hi : i < 46) (ho : ops[i]? = some o) (hg : o.guard = none) (hd : o.dst = some (14 + i)) (s1 : Nat) (hop : o.op = .buildSlice 29 1 #[(0, .tmp s1)]) {j1 : Nat} (q1 : Sp W0.heap.size tv j1 (a.tmps.getD (14 + j1) undef) w) {e1 : Ev} {v1 : Value} (hj1 : 14 + j1 = s1) (hk1 : (spec tv)[j1]? = some (.ev e1 v1)) (hs : (spec tv)[i]? = some (.sl [(e1, v1)])) :
    wpOp Tryz.prog ops Q i (GJ W0 g1 g2 g3 g4 g5 tv (listed.setIfInBounds i true)) a w := by
  have z1 : a.eval (.tmp s1) = .agg (evCells e1 v1).toArray := by subst hj1; exact q1.ev hk1
  refine op_val ho hg (.slice (some ⟨w.heap.size, 0, none⟩) 1 1) (w' := w.alloc (.cells (evsRow [(e1, v1)]).toArray 65 (0, 0))) ?_ ?_
  · unfold execOp
    simp only [hop, List.map_toArray, List.map_cons, List.map_nil, z1, Sem.run_bind, bsI1, Sem.run_pure, Result.andThen_ok]
  · rw [hd]
    exact hJ.put i hi _ (below_new _ _) ⟨_, hs, sl_new w hJ.bel.size [(e1, v1)]⟩
theorem gstep_sl2 (hJ : GJ W0 g1 g2 g3 g4 g5 tv listed a w) (i : Nat) (hi : i < 46) (ho : ops[i]? = some o) (hg : o.guard = none) (hd : o.dst = some (14 + i)) (s1 s2 : Nat) (hop : o.op = .buildSlice 29 2 #[(0, .tmp s1), (1, .tmp s2)]) {j1 : Nat} (q1 : Sp W0.heap.size tv j1 (a.tmps.getD (14 + j1) undef) w) {j2 : Nat} (q2 : Sp W0.heap.size tv j2 (a.tmps.getD (14 + j2) undef) w) {e1 e2 : Ev} {v1 v2 : Value} (hj1 : 14 + j1 = s1) (hk1 : (spec tv)[j1]? = some (.ev e1 v1)) (hj2 : 14 + j2 = s2) (hk2 : (spec tv)[j2]? = some (.ev e2 v2)) (hs : (spec tv)[i]? = some (.sl [(e1, v1), (e2, v2)])) :
    wpOp Tryz.prog ops Q i (GJ W0 g1 g2 g3 g4 g5 tv (listed.setIfInBounds i true)) a w := by
  have z1 : a.eval (.tmp s1) = .agg (evCells e1 v1).toArray := by subst hj1; exact q1.ev hk1
  have z2 : a.eval (.tmp s2) = .agg (evCells e2 v2).toArray := by subst hj2; exact q2.ev hk2
  refine op_val ho hg (.slice (some ⟨w.heap.size, 0, none⟩) 2 2) (w' := w.alloc (.cells (evsRow [(e1, v1), (e2, v2)]).toArray 65 (0, 0))) ?_ ?_
  · unfold execOp
    simp only [hop, List.map_toArray, List.map_cons, List.map_nil, z1, z2, Sem.run_bind, bsI2, Sem.run_pure, Result.andThen_ok]
  · rw [hd]
    exact hJ.put i hi _ (below_new _ _) ⟨_, hs, sl_new w hJ.bel.size [(e1, v1), (e2, v2)]⟩
theorem gstep_sl3 (hJ : GJ W0 g1 g2 g3 g4 g5 tv listed a w) (i : Nat) (hi : i < 46) (ho : ops[i]? = some o) (hg : o.guard = none) (hd : o.dst = some (14 + i)) (s1 s2 s3 : Nat) (hop : o.op = .buildSlice 29 3 #[(0, .tmp s1), (1, .tmp s2), (2, .tmp s3)]) {j1 : Nat} (q1 : Sp W0.heap.size tv j1 (a.tmps.getD (14 + j1) undef) w) {j2 : Nat} (q2 : Sp W0.heap.size tv j2 (a.tmps.getD (14 + j2) undef) w) {j3 : Nat} (q3 : Sp W0.heap.size tv j3 (a.tmps.getD (14 + j3) undef) w) {e1 e2 e3 : Ev} {v1 v2 v3 : Value} (hj1 : 14 + j1 = s1) (hk1 : (spec tv)[j1]? = some (.ev e1 v1)) (hj2 : 14 + j2 = s2) (hk2 : (spec tv)[j2]? = some (.ev e2 v2)) (hj3 : 14 + j3 = s3) (hk3 : (spec tv)[j3]? = some (.ev e3 v3)) (hs : (spec tv)[i]? = some (.sl [(e1, v1), (e2, v2), (e3, v3)])) :
    wpOp Tryz.prog ops Q i (GJ W0 g1 g2 g3 g4 g5 tv (listed.setIfInBounds i true)) a w := by
  have z1 : a.eval (.tmp s1) = .agg (evCells e1 v1).toArray := by subst hj1; exact q1.ev hk1
  have z2 : a.eval (.tmp s2) = .agg (evCells e2 v2).toArray := by subst hj2; exact q2.ev hk2
  have z3 : a.eval (.tmp s3) = .agg (evCells e3 v3).toArray := by subst hj3; exact q3.ev hk3
  refine op_val ho hg (.slice (some ⟨w.heap.size, 0, none⟩) 3 3) (w' := w.alloc (.cells (evsRow [(e1, v1), (e2, v2), (e3, v3)]).toArray 65 (0, 0))) ?_ ?_
  · unfold execOp
    simp only [hop, List.map_toArray, List.map_cons, List.map_nil, z1, z2, z3, Sem.run_bind, bsI3, Sem.run_pure, Result.andThen_ok]
  · rw [hd]
    exact hJ.put i hi _ (below_new _ _) ⟨_, hs, sl_new w hJ.bel.size [(e1, v1), (e2, v2), (e3, v3)]⟩
theorem gstep_sl4 (hJ : GJ W0 g1 g2 g3 g4 g5 tv listed a w) (i : Nat) (hi : i < 46) (ho : ops[i]? = some o) (hg : o.guard = none) (hd : o.dst = some (14 + i)) (s1 s2 s3 s4 : Nat) (hop : o.op = .buildSlice 29 4 #[(0, .tmp s1), (1, .tmp s2), (2, .tmp s3), (3, .tmp s4)]) {j1 : Nat} (q1 : Sp W0.heap.size tv j1 (a.tmps.getD (14 + j1) undef) w) {j2 : Nat} (q2 : Sp W0.heap.size tv j2 (a.tmps.getD (14 + j2) undef) w) {j3 : Nat} (q3 : Sp W0.heap.size tv j3 (a.tmps.getD (14 + j3) undef) w) {j4 : Nat} (q4 : Sp W0.heap.size tv j4 (a.tmps.getD (14 + j4) undef) w) {e1 e2 e3 e4 : Ev} {v1 v2 v3 v4 : Value} (hj1 : 14 + j1 = s1) (hk1 : (spec tv)[j1]? = some (.ev e1 v1)) (hj2 : 14 + j2 = s2) (hk2 : (spec tv)[j2]? = some (.ev e2 v2)) (hj3 : 14 + j3 = s3) (hk3 : (spec tv)[j3]? = some (.ev e3 v3)) (hj4 : 14 + j4 = s4) (hk4 : (spec tv)[j4]? = some (.ev e4 v4)) (hs : (spec tv)[i]? = some (.sl [(e1, v1), (e2, v2), (e3, v3), (e4, v4)])) :
    wpOp Tryz.prog ops Q i (GJ W0 g1 g2 g3 g4 g5 tv (listed.setIfInBounds i true)) a w := by
  have z1 : a.eval (.tmp s1) = .agg (evCells e1 v1).toArray := by subst hj1; exact q1.ev hk1
  have z2 : a.eval (.tmp s2) = .agg (evCells e2 v2).toArray := by subst hj2; exact q2.ev hk2
  have z3 : a.eval (.tmp s3) = .agg (evCells e3 v3).toArray := by subst hj3; exact q3.ev hk3
  have z4 : a.eval (.tmp s4) = .agg (evCells e4 v4).toArray := by subst hj4; exact q4.ev hk4
  refine op_val ho hg (.slice (some ⟨w.heap.size, 0, none⟩) 4 4) (w' := w.alloc (.cells (evsRow [(e1, v1), (e2, v2), (e3, v3), (e4, v4)]).toArray 65 (0, 0))) ?_ ?_
  · unfold execOp
    simp only [hop, List.map_toArray, List.map_cons, List.map_nil, z1, z2, z3, z4, Sem.run_bind, bsI4, Sem.run_pure, Result.andThen_ok]
  · rw [hd]
    exact hJ.put i hi _ (below_new _ _) ⟨_, hs, sl_new w hJ.bel.size [(e1, v1), (e2, v2), (e3, v3), (e4, v4)]⟩
theorem bdI (w : World) (x : Kn) (ua : Option Addr) (un uc : Nat) : (Instr.build 32 #[(0, .string ⟨x.text.toArray⟩), (1, .slice ua un uc), (2, .int .i64 x.err), (3, .int .i64 x.en), (4, .int .i64 x.at_), (5, .int .i64 x.ln), (6, .int .i64 x.co)]).run Tryz.prog w = .ok (.agg (knCells x (.slice ua un uc)).toArray) w := by
  kernel_rfl
theorem gstep_kn (hJ : GJ W0 g1 g2 g3 g4 g5 tv listed a w) (i : Nat) (hi : i < 46) (ho : ops[i]? = some o) (hg : o.guard = none) (hd : o.dst = some (14 + i)) (x : Kn) (s : Nat) (hop : o.op = .build 32 #[(0, .const (.string ⟨x.text.toArray⟩)), (1, .tmp s), (2, .const (.int .i64 x.err)), (3, .const (.int .i64 x.en)), (4, .const (.int .i64 x.at_)), (5, .const (.int .i64 x.ln)), (6, .const (.int .i64 x.co))]) {j : Nat} (q : Sp W0.heap.size tv j (a.tmps.getD (14 + j) undef) w) (hj : 14 + j = s) (hk : (spec tv)[j]? = some (.sl x.evs)) (hs : (spec tv)[i]? = some (.kn x)) :
    wpOp Tryz.prog ops Q i (GJ W0 g1 g2 g3 g4 g5 tv (listed.setIfInBounds i true)) a w := by
  subst hj
  have h1 := q.sl hk
  obtain ⟨ua, un, uc, hu⟩ := h1.slice
  have hu' : a.eval (.tmp (14 + j)) = .slice ua un uc := hu
  rw [hu] at h1
  have c0 : ∀ v, a.eval (.const v) = v := fun _ => rfl
  refine op_val ho hg (.agg (knCells x (.slice ua un uc)).toArray) (w' := w) ?_ ?_
  · unfold execOp
    simp only [hop, List.map_toArray, List.map_cons, List.map_nil, hu', c0, Sem.run_bind, bdI, Sem.run_pure, Result.andThen_ok]
  · rw [hd]
    exact hJ.put i hi _ (Below.refl _ _) ⟨_, hs, ua, un, uc, rfl, h1⟩
theorem gstep_kz (hJ : GJ W0 g1 g2 g3 g4 g5 tv listed a w) (i : Nat) (hi : i < 46) (ho : ops[i]? = some o) (hg : o.guard = none) (hd : o.dst = some (14 + i)) (x : Kn) (hop : o.op = .build 32 #[(0, .const (.string ⟨x.text.toArray⟩)), (1, .const (.slice none 0 0)), (2, .const (.int .i64 x.err)), (3, .const (.int .i64 x.en)), (4, .const (.int .i64 x.at_)), (5, .const (.int .i64 x.ln)), (6, .const (.int .i64 x.co))]) (hx : x.evs = []) (hs : (spec tv)[i]? = some (.kn x)) :
    wpOp Tryz.prog ops Q i (GJ W0 g1 g2 g3 g4 g5 tv (listed.setIfInBounds i true)) a w := by
  have c0 : ∀ v, a.eval (.const v) = v := fun _ => rfl
  refine op_val ho hg (.agg (knCells x (.slice none 0 0)).toArray) (w' := w) ?_ ?_
  · unfold execOp
    simp only [hop, List.map_toArray, List.map_cons, List.map_nil, c0, Sem.run_bind, bdI, Sem.run_pure, Result.andThen_ok]
  · rw [hd]
    exact hJ.put i hi _ (Below.refl _ _) ⟨_, hs, none, 0, 0, rfl, .inl ⟨hx, rfl⟩⟩
def goldK (tv : Value) (i : Nat) : Kn := (goldT tv).getD i ⟨[], [], 0, 0, 0, 0, 0⟩
theorem bsA (w : World) (tv : Value) (a0 : Option Addr) (n0 c0 : Nat) (a1 : Option Addr) (n1 c1 : Nat) (a2 : Option Addr) (n2 c2 : Nat) (a3 : Option Addr) (n3 c3 : Nat) (a4 : Option Addr) (n4 c4 : Nat) (a5 : Option Addr) (n5 c5 : Nat) (a6 : Option Addr) (n6 c6 : Nat) (a7 : Option Addr) (n7 c7 : Nat) (a8 : Option Addr) (n8 c8 : Nat) (a9 : Option Addr) (n9 c9 : Nat) (a10 : Option Addr) (n10 c10 : Nat) (a11 : Option Addr) (n11 c11 : Nat) (a12 : Option Addr) (n12 c12 : Nat) : (Instr.buildSlice 27 13 #[(0, .agg (knCells (goldK tv 0) (.slice a0 n0 c0)).toArray), (1, .agg (knCells (goldK tv 1) (.slice a1 n1 c1)).toArray), (2, .agg (knCells (goldK tv 2) (.slice a2 n2 c2)).toArray), (3, .agg (knCells (goldK tv 3) (.slice a3 n3 c3)).toArray), (4, .agg (knCells (goldK tv 4) (.slice a4 n4 c4)).toArray), (5, .agg (knCells (goldK tv 5) (.slice a5 n5 c5)).toArray), (6, .agg (knCells (goldK tv 6) (.slice a6 n6 c6)).toArray), (7, .agg (knCells (goldK tv 7) (.slice a7 n7 c7)).toArray), (8, .agg (knCells (goldK tv 8) (.slice a8 n8 c8)).toArray), (9, .agg (knCells (goldK tv 9) (.slice a9 n9 c9)).toArray), (10, .agg (knCells (goldK tv 10) (.slice a10 n10 c10)).toArray), (11, .agg (knCells (goldK tv 11) (.slice a11 n11 c11)).toArray), (12, .agg (knCells (goldK tv 12) (.slice a12 n12 c12)).toArray)]).run Tryz.prog w = .ok (.slice (some ⟨w.heap.size, 0, none⟩) 13 13) (w.alloc (.cells (((goldT tv).zip ([.slice a0 n0 c0, .slice a1 n1 c1, .slice a2 n2 c2, .slice a3 n3 c3, .slice a4 n4 c4, .slice a5 n5 c5, .slice a6 n6 c6, .slice a7 n7 c7, .slice a8 n8 c8, .slice a9 n9 c9, .slice a10 n10 c10, .slice a11 n11 c11, .slice a12 n12 c12] : List Value)).flatMap fun p => knCells p.1 p.2).toArray 32 (0, 0))) := by kernel_rfl
theorem gstep_all (hJ : GJ W0 g1 g2 g3 g4 g5 tv listed a w) (ho : ops[45]? = some o) (hg : o.guard = none) (hd : o.dst = some (14 + 45)) (hop : o.op = .buildSlice 27 13 #[(0, .tmp 17), (1, .tmp 22), (2, .tmp 28), (3, .tmp 32), (4, .tmp 35), (5, .tmp 36), (6, .tmp 40), (7, .tmp 43), (8, .tmp 44), (9, .tmp 47), (10, .tmp 50), (11, .tmp 54), (12, .tmp 58)]) (q0 : Sp W0.heap.size tv 3 (a.tmps.getD (14 + 3) undef) w) (q1 : Sp W0.heap.size tv 8 (a.tmps.getD (14 + 8) undef) w) (q2 : Sp W0.heap.size tv 14 (a.tmps.getD (14 + 14) undef) w) (q3 : Sp W0.heap.size tv 18 (a.tmps.getD (14 + 18) undef) w) (q4 : Sp W0.heap.size tv 21 (a.tmps.getD (14 + 21) undef) w) (q5 : Sp W0.heap.size tv 22 (a.tmps.getD (14 + 22) undef) w) (q6 : Sp W0.heap.size tv 26 (a.tmps.getD (14 + 26) undef) w) (q7 : Sp W0.heap.size tv 29 (a.tmps.getD (14 + 29) undef) w) (q8 : Sp W0.heap.size tv 30 (a.tmps.getD (14 + 30) undef) w) (q9 : Sp W0.heap.size tv 33 (a.tmps.getD (14 + 33) undef) w) (q10 : Sp W0.heap.size tv 36 (a.tmps.getD (14 + 36) undef) w) (q11 : Sp W0.heap.size tv 40 (a.tmps.getD (14 + 40) undef) w) (q12 : Sp W0.heap.size tv 44 (a.tmps.getD (14 + 44) undef) w) :
    wpOp Tryz.prog ops Q 45 (GJ W0 g1 g2 g3 g4 g5 tv (listed.setIfInBounds 45 true)) a w := by
  obtain ⟨a0, n0, c0, z0, y0⟩ := q0.kn (x := goldK tv 0) rfl
  have x0 : a.eval (.tmp 17) = _ := z0
  obtain ⟨a1, n1, c1, z1, y1⟩ := q1.kn (x := goldK tv 1) rfl
  have x1 : a.eval (.tmp 22) = _ := z1
  obtain ⟨a2, n2, c2, z2, y2⟩ := q2.kn (x := goldK tv 2) rfl
  have x2 : a.eval (.tmp 28) = _ := z2
  obtain ⟨a3, n3, c3, z3, y3⟩ := q3.kn (x := goldK tv 3) rfl
  have x3 : a.eval (.tmp 32) = _ := z3
  obtain ⟨a4, n4, c4, z4, y4⟩ := q4.kn (x := goldK tv 4) rfl
  have x4 : a.eval (.tmp 35) = _ := z4
  obtain ⟨a5, n5, c5, z5, y5⟩ := q5.kn (x := goldK tv 5) rfl
  have x5 : a.eval (.tmp 36) = _ := z5
  obtain ⟨a6, n6, c6, z6, y6⟩ := q6.kn (x := goldK tv 6) rfl
  have x6 : a.eval (.tmp 40) = _ := z6
  obtain ⟨a7, n7, c7, z7, y7⟩ := q7.kn (x := goldK tv 7) rfl
  have x7 : a.eval (.tmp 43) = _ := z7
  obtain ⟨a8, n8, c8, z8, y8⟩ := q8.kn (x := goldK tv 8) rfl
  have x8 : a.eval (.tmp 44) = _ := z8
  obtain ⟨a9, n9, c9, z9, y9⟩ := q9.kn (x := goldK tv 9) rfl
  have x9 : a.eval (.tmp 47) = _ := z9
  obtain ⟨a10, n10, c10, z10, y10⟩ := q10.kn (x := goldK tv 10) rfl
  have x10 : a.eval (.tmp 50) = _ := z10
  obtain ⟨a11, n11, c11, z11, y11⟩ := q11.kn (x := goldK tv 11) rfl
  have x11 : a.eval (.tmp 54) = _ := z11
  obtain ⟨a12, n12, c12, z12, y12⟩ := q12.kn (x := goldK tv 12) rfl
  have x12 : a.eval (.tmp 58) = _ := z12
  have hrun := bsA w tv a0 n0 c0 a1 n1 c1 a2 n2 c2 a3 n3 c3 a4 n4 c4 a5 n5 c5 a6 n6 c6 a7 n7 c7 a8 n8 c8 a9 n9 c9 a10 n10 c10 a11 n11 c11 a12 n12 c12
  refine op_val ho hg (.slice (some ⟨w.heap.size, 0, none⟩) 13 13) (w' := w.alloc (.cells (((goldT tv).zip ([.slice a0 n0 c0, .slice a1 n1 c1, .slice a2 n2 c2, .slice a3 n3 c3, .slice a4 n4 c4, .slice a5 n5 c5, .slice a6 n6 c6, .slice a7 n7 c7, .slice a8 n8 c8, .slice a9 n9 c9, .slice a10 n10 c10, .slice a11 n11 c11, .slice a12 n12 c12] : List Value)).flatMap fun p => knCells p.1 p.2).toArray 32 (0, 0))) ?_ ?_
  · unfold execOp
    simp only [hop, List.map_toArray, List.map_cons, List.map_nil, x0, x1, x2, x3, x4, x5, x6, x7, x8, x9, x10, x11, x12, Sem.run_bind, hrun, Sem.run_pure, Result.andThen_ok]
  · rw [hd]
    refine hJ.put 45 (by decide) _ (below_new _ _) ⟨.all, rfl, w.heap.size, [.slice a0 n0 c0, .slice a1 n1 c1, .slice a2 n2 c2, .slice a3 n3 c3, .slice a4 n4 c4, .slice a5 n5 c5, .slice a6 n6 c6, .slice a7 n7 c7, .slice a8 n8 c8, .slice a9 n9 c9, .slice a10 n10 c10, .slice a11 n11 c11, .slice a12 n12 c12], hJ.bel.size, rfl, rfl, heap_alloc_new w _, ?_⟩
    have hp : (goldT tv).zip ([.slice a0 n0 c0, .slice a1 n1 c1, .slice a2 n2 c2, .slice a3 n3 c3, .slice a4 n4 c4, .slice a5 n5 c5, .slice a6 n6 c6, .slice a7 n7 c7, .slice a8 n8 c8, .slice a9 n9 c9, .slice a10 n10 c10, .slice a11 n11 c11, .slice a12 n12 c12] : List Value) = [(goldK tv 0, .slice a0 n0 c0), (goldK tv 1, .slice a1 n1 c1), (goldK tv 2, .slice a2 n2 c2), (goldK tv 3, .slice a3 n3 c3), (goldK tv 4, .slice a4 n4 c4), (goldK tv 5, .slice a5 n5 c5), (goldK tv 6, .slice a6 n6 c6), (goldK tv 7, .slice a7 n7 c7), (goldK tv 8, .slice a8 n8 c8), (goldK tv 9, .slice a9 n9 c9), (goldK tv 10, .slice a10 n10 c10), (goldK tv 11, .slice a11 n11 c11), (goldK tv 12, .slice a12 n12 c12)] := rfl
    rw [hp]
    intro p hp2
    simp only [List.mem_cons, List.not_mem_nil, or_false] at hp2
    rcases hp2 with rfl | rfl | rfl | rfl | rfl | rfl | rfl | rfl | rfl | rfl | rfl | rfl | rfl
    · exact y0.mono (below_new _ _)
    · exact y1.mono (below_new _ _)
    · exact y2.mono (below_new _ _)
    · exact y3.mono (below_new _ _)
    · exact y4.mono (below_new _ _)
    · exact y5.mono (below_new _ _)
    · exact y6.mono (below_new _ _)
    · exact y7.mono (below_new _ _)
    · exact y8.mono (below_new _ _)
    · exact y9.mono (below_new _ _)
    · exact y10.mono (below_new _ _)
    · exact y11.mono (below_new _ _)
    · exact y12.mono (below_new _ _)
theorem gstep_fin (hJ : GJ W0 g1 g2 g3 g4 g5 tv listed a w) (ho : ops[46]? = some o) (hg : o.guard = none) (hd : o.dst = some 0) (hop : o.op = .assign (.tmp 59)) (q : Sp W0.heap.size tv 45 (a.tmps.getD (14 + 45) undef) w) :
    wpOp Tryz.prog ops Q 46 (GJ W0 g1 g2 g3 g4 g5 tv (listed.setIfInBounds 46 true)) a w := by
  refine op_val ho hg (a.tmps.getD (14 + 45) undef) (w' := w) ?_ ?_
  · unfold execOp
    simp only [hop]
    rfl
  · rw [hd]
    have htz := hJ.tz
    have hp : ∀ k, (a.put (some 0) (a.tmps.getD (14 + 45) undef)).tmps.getD k undef = if k = 0 then a.tmps.getD (14 + 45) undef else a.tmps.getD k undef := fun k => getD_put a 0 _ k (by omega)
    refine ⟨by simpa using hJ.sz, by simpa [Act.put] using hJ.tz, hJ.df, hJ.bel, ?_, ?_, ?_, ?_, ?_, ?_, ?_⟩
    · rw [hp, if_neg (by omega)]; exact hJ.p1
    · rw [hp, if_neg (by omega)]; exact hJ.p2
    · rw [hp, if_neg (by omega)]; exact hJ.p3
    · rw [hp, if_neg (by omega)]; exact hJ.p4
    · rw [hp, if_neg (by omega)]; exact hJ.p5
    · intro j hj hl
      rw [hp, if_neg (by omega)]
      rcases listed_set _ _ _ hl with hl | hl
      · omega
      · exact hJ.sp j hj hl
    · intro hl
      rw [hp, if_pos rfl]
      exact q
end

end Go.Proofs.YtmgfijllcdadgaaGreatDoor
