/-
  CONTRACTS of package markup (1).
-/
import Derived.Test.YtkkakfocjbnomaaDoorByte
import Derived.Deep.WholeRow
namespace Go.Proofs.YtkkakfocjbnomaaDoor
set_option linter.unusedVariables false
set_option linter.unusedSimpArgs false
open Go.RowKit
open Mk (St Bs Ev Att)

def L0 : Lay := ⟨none, 0, none, 0, none, 0, none, 0, none, 0, []⟩
theorem foot_L0 (d a t : Int) (n : Bool) : foot (Mk.make_ d a t n) L0 = [] := rfl

/-- A new parser lies in a new block. -/
theorem rd_new (w : World) (d a t : Int) (n : Bool) : RdL (w.alloc (.cells (cellsOf (Mk.make_ d a t n) L0).toArray 77)) w.heap.size (Mk.make_ d a t n) L0 := by
  refine ⟨heap_alloc_new w _, ⟨?_, by show ([] : List Nat).Nodup; exact List.nodup_nil⟩, rfl⟩
  intro r hr
  have : r.isNil := by
    simp [rowsOf, L0, opnRow, tokRow, attRow, lstRow, txtRow, Mk.make_, evsRow, atsRow] at hr
    rcases hr with rfl | rfl | rfl | rfl | rfl <;> exact ⟨rfl, rfl, rfl⟩
  exact owned_nil this

theorem rd_new' (w : World) (d a t : Int) (n : Bool) (C : Array Value) (b : Nat) (hb : b = w.heap.size) (hC : C = (cellsOf (Mk.make_ d a t n) L0).toArray) : RdL (w.alloc (.cells C 77)) b (Mk.make_ d a t n) L0 := by
  subst hb
  subst hC
  exact rd_new w d a t n
theorem areOptions_yes (d a t : Int) (n : Bool) (d1 : 1 ≤ d) (d2 : d ≤ 64) (a1 : 0 ≤ a) (a2 : a ≤ 32) (t1 : 8 ≤ t) (t2 : t ≤ 1024) (w : World) :
    Calls Tryd.prog 27 #[.agg #[.int .i64 d, .int .i64 a, .int .i64 t, .bool n]] w fun e w' => e = .returned (.bool true) ∧ w' = w.alloc (.cells #[.int .i64 d, .int .i64 a, .int .i64 t, .bool n] 36) := by
  go_enter Tryd.func27, Tryd.ntmps27
  go_wp2
  go_ret
  exact ⟨rfl, rfl⟩

/-- The cells of a new reader. -/
def rdCells (d a t : Int) (n : Bool) : Array Value :=
  #[.int .i64 d, .int .i64 a, .int .i64 t, .bool n, .int .i64 0, .slice none 0 0, .bool false, .slice none 0 0, .int .i64 0, .string ⟨#[]⟩, .string ⟨#[]⟩, .slice none 0 0, .int .u8 0, .string ⟨#[]⟩,
   .int .i64 0, .int .i64 0, .int .i64 0, .int .i64 0, .int .i64 0, .string ⟨#[]⟩, .int .i64 0, .bool false, .int .i64 1, .int .i64 1, .slice none 0 0, .slice none 0 0]
theorem wpList_build {P : Program} {ops : Array Oper} {rest : List Oper} {o : Oper} {a : Act} {w : World} {Q : Exit → Act → World → Prop} (hgd : o.guard = none) (ty : TypeId) (ps : Array (Nat × Operand)) (ho : o.op = .build ty ps) (v : Value)
    (hr : ∀ w, (Instr.build ty (ps.map fun (i, x) => (i, a.eval x))).run P w = .ok v w) (h : wpList P ops Q rest (a.put o.dst v) w) : wpList P ops Q (o :: rest) a w :=
  wpList_plain hgd fun _ hK => by
    unfold Oper.wp execOp
    simp only [ho, hr, Sem.run_bind, Sem.run_pure, Result.andThen_ok]
    exact hK _ _ h
theorem infoRd : (Tryd.prog.info? 74).map (·.size) = some 26 := by kernel_rfl
set_option maxRecDepth 100000 in
theorem make_any (d a t : Int) (n : Bool) (w : World) :
    Calls Tryd.prog 28 #[.agg #[.int .i64 d, .int .i64 a, .int .i64 t, .bool n]] w fun e w' => e = .returned (.agg (rdCells d a t n)) ∧ w' = (w.alloc (.cells #[.int .i64 d, .int .i64 a, .int .i64 t, .bool n] 36)).alloc (.cells (rdCells d a t n) 74) := by
  have h3 : (storeCells ⟨w.heap.size + 1, 0, none⟩ (rdCells d a t n).toList 0).run Tryd.prog ((w.alloc (.cells #[.int .i64 d, .int .i64 a, .int .i64 t, .bool n] 36)).alloc (.cells #[.int .i64 0, .int .i64 0, .int .i64 0, .bool false, .int .i64 0, .slice none 0 0, .bool false, .slice none 0 0, .int .i64 0, .string ⟨#[]⟩, .string ⟨#[]⟩, .slice none 0 0, .int .u8 0, .string ⟨#[]⟩, .int .i64 0, .int .i64 0, .int .i64 0, .int .i64 0, .int .i64 0, .string ⟨#[]⟩, .int .i64 0, .bool false, .int .i64 0, .int .i64 0, .slice none 0 0, .slice none 0 0] 74)) = .ok () ((w.alloc (.cells #[.int .i64 d, .int .i64 a, .int .i64 t, .bool n] 36)).alloc (.cells (rdCells d a t n) 74)) := by
    have := run_storeCells_new (P := Tryd.prog) (w.alloc (.cells #[.int .i64 d, .int .i64 a, .int .i64 t, .bool n] 36)) 74 #[.int .i64 0, .int .i64 0, .int .i64 0, .bool false, .int .i64 0, .slice none 0 0, .bool false, .slice none 0 0, .int .i64 0, .string ⟨#[]⟩, .string ⟨#[]⟩, .slice none 0 0, .int .u8 0, .string ⟨#[]⟩, .int .i64 0, .int .i64 0, .int .i64 0, .int .i64 0, .int .i64 0, .string ⟨#[]⟩, .int .i64 0, .bool false, .int .i64 0, .int .i64 0, .slice none 0 0, .slice none 0 0] (rdCells d a t n) infoRd rfl (by simp [rdCells, Value.oneCell'])
    have h4 : (w.alloc (.cells #[.int .i64 d, .int .i64 a, .int .i64 t, .bool n] 36)).heap.size = w.heap.size + 1 := by simp
    rw [h4] at this
    exact this
  go_enter Tryd.func28, Tryd.ntmps28
  go_wp2_with (refine wpList_build rfl 74 #[(0, .tmp 3), (1, .const (.int .i64 0)), (16, .const (.int .i64 1)), (17, .const (.int .i64 1))] rfl (.agg (rdCells d a t n)) (fun _ => by kernel_rfl) ?_)
  exact bodyPost_ret (v := .agg (rdCells d a t n)) (results_cell_row rfl _ _ (w.heap.size + 1) 74 (rdCells d a t n) (0, 0) _ rfl (heap_alloc2_new w _ _) Tryd.underlying74 rfl infoRd) rfl ⟨rfl, rfl⟩

/-- The cells of a new parser. -/
def psCells (d a t : Int) (n : Bool) : Array Value := rdCells d a t n ++ #[.int .i64 0, .int .i64 0]
theorem new_any (d a t : Int) (n : Bool) (d1 : 1 ≤ d) (d2 : d ≤ 64) (a1 : 0 ≤ a) (a2 : a ≤ 32) (t1 : 8 ≤ t) (t2 : t ≤ 1024) (w : World) :
    Calls Tryd.prog 17 #[.agg #[.int .i64 d, .int .i64 a, .int .i64 t, .bool n]] w fun e w' => ∃ b, e = .returned (.tuple #[.pointer (some ⟨b, 0, none⟩), .int .i64 0]) ∧ w.heap.size ≤ b ∧ Below w.heap.size w w' ∧ RdL w' b (Mk.make_ d a t n) L0 := by
  have HA := hide (fun w => areOptions_yes d a t n d1 d2 a1 a2 t1 t2 w)
  clear d1 d2 a1 a2 t1 t2
  go_enter Tryd.func17, Tryd.ntmps17
  go_wp2_with (first
    | (go_at_call 27; refine (unhide HA _).mono ?_; rintro e w' ⟨rfl, rfl⟩)
    | (go_at_call 28; refine (make_any _ _ _ _ _).mono ?_; rintro e w' ⟨rfl, rfl⟩)
    | (refine wpList_build rfl 77 #[(0, .tmp 8)] rfl (.agg (psCells d a t n)) (fun _ => by kernel_rfl) ?_))
  go_ret2
  refine ⟨_, rfl, ?_, ?_, rd_new' _ d a t n (psCells d a t n) _ (by simp) rfl⟩
  · omega
  · repeat (first | exact Below.refl _ _ | refine Below.alloc ?_ (by simp <;> omega) _)

theorem isDocument_any {w : World} {b : Nat} {s : St} {L : Lay} (h : RdL w b s L) :
    Calls Tryd.prog 31 #[.pointer (some ⟨b, 0, none⟩)] w fun e w' => e = .returned (.bool (Mk.isDocument s)) ∧ w' = w := by
  have hc := h.cell
  have hlt := h.lt
  unfold cellsOf at hc
  clear h
  cases e1 : s.over
  all_goals
    go_enter Tryd.func31, Tryd.ntmps31
    go_wp2
    go_ret
    exact ⟨retB (by simp [Mk.isDocument, e1]), rfl⟩

theorem close_any {w : World} {b : Nat} {s : St} {L : Lay} (h : RdL w b s L) :
    Calls Tryd.prog 20 #[.pointer (some ⟨b, 0, none⟩)] w (Does w b s L (Mk.close s)) := by
  have hc := h.cell
  have hf := h.frozen
  have hlt := h.lt
  have HM := hide h
  have HD := hide (isDocument_any h)
  unfold cellsOf at hc
  clear h
  by_cases e1 : s.ended = 0
  · cases e2 : Mk.isDocument s
    · rw [e2] at HD
      have hr : Mk.close s = ({ s with ended := 9 }, 9) := by simp [Mk.close, e1, e2]
      rw [hr]
      clear hr
      go_enter Tryd.func20, Tryd.ntmps20
      go_wp2_with (go_at_call 31; refine (unhide HD).mono ?_; rintro e w1 ⟨rfl, rfl⟩)
      go_ret
      exact ⟨rfl, L, (unhide HM).start.store 27 _ _ rfl rfl rfl⟩
    · rw [e2] at HD
      have hr : Mk.close s = ({ s with ended := 10 }, 0) := by simp [Mk.close, e1, e2]
      rw [hr]
      clear hr
      go_enter Tryd.func20, Tryd.ntmps20
      go_wp2_with (go_at_call 31; refine (unhide HD).mono ?_; rintro e w1 ⟨rfl, rfl⟩)
      go_ret
      exact ⟨rfl, L, (unhide HM).start.store 27 _ _ rfl rfl rfl⟩
  · have hr : Mk.close s = (s, s.ended) := by simp [Mk.close, e1]
    rw [hr]
    have e2 : (s.ended != 0) = true := by simpa using e1
    clear hr HD e1
    go_enter Tryd.func20, Tryd.ntmps20
    go_wp2
    go_ret
    exact ⟨rfl, L, (unhide HM).start⟩

theorem at_any {w : World} {b : Nat} {s : St} {L : Lay} (h : RdL w b s L) :
    Calls Tryd.prog 21 #[.pointer (some ⟨b, 0, none⟩)] w fun e w' => e = .returned (.int .i64 s.at_) ∧ w' = w := by
  have hc := h.cell
  have hlt := h.lt
  unfold cellsOf at hc
  clear h
  go_enter Tryd.func21, Tryd.ntmps21
  go_wp2
  go_ret
  exact ⟨rfl, rfl⟩
theorem rPlace_any {w : World} {b : Nat} {s : St} {L : Lay} (h : RdL w b s L) :
    Calls Tryd.prog 32 #[.pointer (some ⟨b, 0, none⟩)] w fun e w' => e = .returned (.tuple #[.int .i64 s.line, .int .i64 s.column]) ∧ ∃ n, w' = w.drewN n := by
  have hc := h.cell
  have hlt := h.lt
  unfold cellsOf at hc
  clear h
  go_enter Tryd.func32, Tryd.ntmps32
  go_wp2
  go_quiet (fail)
  go_wp2
  go_ret2
  exact ⟨rfl, _, rfl⟩
theorem place_any {w : World} {b : Nat} {s : St} {L : Lay} (h : RdL w b s L) :
    Calls Tryd.prog 22 #[.pointer (some ⟨b, 0, none⟩)] w fun e w' => e = .returned (.tuple #[.int .i64 s.line, .int .i64 s.column]) ∧ ∃ n, w' = w.drewN n := by
  have HP := hide (rPlace_any h)
  have hlt := h.lt
  clear h
  go_enter Tryd.func22, Tryd.ntmps22
  go_wp2_with (go_at_call 32; refine (unhide HP).mono ?_; rintro e w' ⟨rfl, n, rfl⟩)
  go_ret2
  exact ⟨rfl, _, rfl⟩
end Go.Proofs.YtkkakfocjbnomaaDoor
