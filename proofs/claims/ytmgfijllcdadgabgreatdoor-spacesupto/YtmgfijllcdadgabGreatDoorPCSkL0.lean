/- SkL0, SkL, SkM, SkN -/
import Derived.Test.YtmgfijllcdadgabGreatDoorPM22
import Derived.Deep.MidRow
import Derived.Test.YtmgfijllcdadgabGreatDoorPCSkI
set_option linter.unusedVariables false
set_option linter.unusedSimpArgs false
namespace Go.Proofs.YtmgfijllcdadgabGreatDoor
open Go.RowKit
theorem all_listed_md {ops : Array Oper} {md : Region.Mode} {listed : Array Bool} (hs : listed.size = ops.size) (hdag : ((List.range ops.size).all fun i => match ops[i]? with | some o => o.after.toList.all (fun e => !Region.binds md e || decide (e.on < i)) | none => true) = true) (hr : Region.ready md ops listed = []) : ∀ i, i < ops.size → listed.getD i false = true := by
  intro i
  induction i using Nat.strongRecOn with
  | ind i ih =>
    intro hi
    have hd : listed.getD i true = listed.getD i false := by
      have : i < listed.size := by omega
      simp [this]
    cases h : listed.getD i false with
    | true => rfl
    | false =>
      have ho : ops[i]? = some ops[i] := Array.getElem?_eq_getElem hi
      have : i ∈ Region.ready md ops listed := mem_ready.2 ⟨by rw [hd, h], ops[i], ho, fun e he hb => by
        have h1 := List.all_eq_true.1 hdag i (List.mem_range.2 hi)
        simp only [ho] at h1
        have h2 := List.all_eq_true.1 h1 e (Array.mem_toList_iff.2 he)
        rw [hb] at h2
        have h3 : e.on < i := by simpa using h2
        exact ih e.on h3 (by omega)⟩
      rw [hr] at this
      cases this
def litVal (B g c : Nat) (ev : Nat → List Value) (i : Nat) : Value :=
  if i % 4 = 0 then .pointer (some ⟨B, 0, none⟩) else if i % 4 = 1 then .slice (some ⟨g, 0, none⟩) 4 c else if i % 4 = 2 then .pointer (some ⟨g, 5 * (i / 4), none⟩) else .agg (ev (i / 4)).toArray
def ev0 : Array Value := #[.int .i64 0, .string ⟨#[]⟩, .string ⟨#[]⟩, .string ⟨#[]⟩, .slice none 0 0]
theorem getD_setN {l : Array Bool} {n : Nat} (h : l.size = n) (i k : Nat) (hi : i < n) : (l.setIfInBounds i true).getD k false = if k = i then true else l.getD k false := by
  by_cases e : k = i
  · subst e; simp [h, hi]
  · rw [getD_set_ne false (fun q => e q.symm), if_neg e]
structure LitJ (w : World) (N B g c : Nat) (ev : Nat → List Value) (f : Nat → Nat) (listed : Array Bool) (x : Act) (wx : World) : Prop where
  sz : listed.size = 24
  tsz : x.tmps.size = N
  df : x.defers = []
  bel : Below w.heap.size w wx
  p1 : x.tmps.getD 1 undef = .pointer (some ⟨B, 0, none⟩)
  sp : ∀ i, i < 16 → listed.getD i false = true → x.tmps.getD (38 + i) undef = litVal B g c ev i
  dep : ∀ k, k < 4 → listed.getD (20 + k) false = true → listed.getD (16 + k) false = true
  al : ∀ k, k < 4 → listed.getD (16 + k) false = true → x.tmps.getD (4 + k) undef = .pointer (some ⟨f k, 0, none⟩) ∧ w.heap.size ≤ f k ∧ ∃ cs, wx.heap[f k]? = some (.cells cs 53 (0, 0)) ∧ cs.size = 5 ∧ (listed.getD (20 + k) false = true → cs = (ev k).toArray)
  inj : ∀ j k, j < 4 → k < 4 → j ≠ k → listed.getD (16 + j) false = true → listed.getD (16 + k) false = true → f j ≠ f k
section
variable {w : World} {N B g c : Nat} {ev : Nat → List Value} {f : Nat → Nat} {listed : Array Bool} {x : Act} {wx : World}
theorem LitJ.val (h : LitJ w N B g c ev f listed x wx) {i : Nat} (hi : i < 16) (hN : 54 ≤ N) : LitJ w N B g c ev f (listed.setIfInBounds i true) (x.put (some (38 + i)) (litVal B g c ev i)) wx := by
  have hs := fun k => getD_setN h.sz i k (by omega)
  have hp := fun k => getD_put x (38 + i) (litVal B g c ev i) k (by rw [h.tsz]; omega)
  refine ⟨by simp [h.sz], by simp [Act.put, h.tsz], h.df, h.bel, ?_, ?_, ?_, ?_, ?_⟩
  · rw [hp, if_neg (by omega)]; exact h.p1
  · intro j hj hl
    rw [hp]
    by_cases e : j = i
    · subst e; rw [if_pos rfl]
    · rw [if_neg (by omega)]
      rw [hs, if_neg e] at hl
      exact h.sp j hj hl
  · intro k hk hl
    rw [hs, if_neg (by omega)] at hl
    rw [hs, if_neg (by omega)]
    exact h.dep k hk hl
  · intro k hk hl
    rw [hs, if_neg (by omega)] at hl
    obtain ⟨a, b, cs, c1, c2, c3⟩ := h.al k hk hl
    refine ⟨by rw [hp, if_neg (by omega)]; exact a, b, cs, c1, c2, fun q => c3 ?_⟩
    rw [hs, if_neg (by omega)] at q
    exact q
  · intro j k hj hk hjk h1 h2
    rw [hs, if_neg (by omega)] at h1
    rw [hs, if_neg (by omega)] at h2
    exact h.inj j k hj hk hjk h1 h2
theorem LitJ.alloc (h : LitJ w N B g c ev f listed x wx) {k0 : Nat} (hk0 : k0 < 4) (hN : 54 ≤ N) (hn : listed.getD (16 + k0) false = false) :
    LitJ w N B g c ev (fun k => if k = k0 then wx.heap.size else f k) (listed.setIfInBounds (16 + k0) true) (x.put (some (4 + k0)) (.pointer (some ⟨wx.heap.size, 0, none⟩))) (wx.alloc (.cells ev0 53 (0, 0))) := by
  have hs := fun k => getD_setN h.sz (16 + k0) k (by omega)
  have hp := fun k => getD_put x (4 + k0) (.pointer (some ⟨wx.heap.size, 0, none⟩)) k (by rw [h.tsz]; omega)
  have hlt : ∀ k, k < 4 → listed.getD (16 + k) false = true → f k < wx.heap.size := fun k hk hl => by
    obtain ⟨_, _, cs, c1, _⟩ := h.al k hk hl
    exact (Array.getElem?_eq_some_iff.1 c1).1
  have hbs := h.bel.size
  refine ⟨by simp [h.sz], by simp [Act.put, h.tsz], h.df, h.bel.alloc hbs _, ?_, ?_, ?_, ?_, ?_⟩
  · rw [hp, if_neg (by omega)]; exact h.p1
  · intro j hj hl
    rw [hs, if_neg (by omega)] at hl
    rw [hp, if_neg (by omega)]
    exact h.sp j hj hl
  · intro k hk hl
    rw [hs, if_neg (by omega)] at hl
    rw [hs]
    split
    · rfl
    · exact h.dep k hk hl
  · intro k hk hl
    by_cases e : k = k0
    · subst e
      refine ⟨by rw [hp]; simp, by simp; exact hbs, ev0, by simp only [if_true]; exact heap_alloc_new wx _, rfl, fun q => ?_⟩
      rw [hs, if_neg (by omega)] at q
      rw [h.dep k hk q] at hn
      cases hn
    · rw [hs, if_neg (by omega)] at hl
      obtain ⟨a, b, cs, c1, c2, c3⟩ := h.al k hk hl
      simp only [if_neg e]
      refine ⟨by rw [hp, if_neg (by omega)]; exact a, b, cs, by rw [Below.heap_alloc _ _ _ (hlt k hk hl)]; exact c1, c2, fun q => c3 ?_⟩
      rw [hs, if_neg (by omega)] at q
      exact q
  · intro j k hj hk hjk h1 h2
    rw [hs] at h1
    rw [hs] at h2
    by_cases ej : j = k0
    · have ek : k ≠ k0 := fun q => hjk (ej.trans q.symm)
      rw [if_neg (by omega)] at h2
      have := hlt k hk h2
      simp only [if_pos ej, if_neg ek]
      omega
    · rw [if_neg (by omega)] at h1
      have := hlt j hj h1
      by_cases ek : k = k0
      · simp only [if_pos ek, if_neg ej]
        omega
      · rw [if_neg (by omega)] at h2
        simp only [if_neg ek, if_neg ej]
        exact h.inj j k hj hk hjk h1 h2
theorem LitJ.store (h : LitJ w N B g c ev f listed x wx) {k0 : Nat} (hk0 : k0 < 4) (hev : (ev k0).length = 5) (hy : listed.getD (16 + k0) false = true) :
    LitJ w N B g c ev f (listed.setIfInBounds (20 + k0) true) x (wx.setRow (f k0) (ev k0).toArray) := by
  have hs := fun k => getD_setN h.sz (20 + k0) k (by omega)
  obtain ⟨a0, b0, cs0, c10, c20, c30⟩ := h.al k0 hk0 hy
  refine ⟨by simp [h.sz], h.tsz, h.df, below_setRow h.bel b0 _, h.p1, ?_, ?_, ?_, ?_⟩
  · intro j hj hl
    rw [hs, if_neg (by omega)] at hl
    exact h.sp j hj hl
  · intro k hk hl
    rw [hs] at hl
    rw [hs, if_neg (by omega)]
    by_cases e : k = k0
    · subst e; exact hy
    · rw [if_neg (by omega)] at hl
      exact h.dep k hk hl
  · intro k hk hl
    rw [hs, if_neg (by omega)] at hl
    obtain ⟨a, b, cs, c1, c2, c3⟩ := h.al k hk hl
    by_cases e : k = k0
    · subst e
      exact ⟨a, b, (ev k).toArray, setRow_heap _ _ _ _ _ _ c1, by simp [hev], fun _ => rfl⟩
    · have hne := h.inj k k0 hk hk0 e hl hy
      refine ⟨a, b, cs, by rw [setRow_other _ _ _ _ (by omega)]; exact c1, c2, fun q => c3 ?_⟩
      rw [hs, if_neg (by omega)] at q
      exact q
  · intro j k hj hk hjk h1 h2
    rw [hs, if_neg (by omega)] at h1
    rw [hs, if_neg (by omega)] at h2
    exact h.inj j k hj hk hjk h1 h2
variable {ops : Array Oper} {Q : Exit → Act → World → Prop} {i : Nat} {o : Oper}
def LitI (w : World) (N B g c : Nat) (ev : Nat → List Value) (listed : Array Bool) (x : Act) (wx : World) : Prop := ∃ f, LitJ w N B g c ev f listed x wx
theorem lit_val (h : LitJ w N B g c ev f listed x wx) (hN : 54 ≤ N) (hi : i < 16) (ho : ops[i]? = some o) (hg : o.guard = none) (hd : o.dst = some (38 + i)) (hr : (execOp x.eval o).run Tryz.prog wx = .ok (.value (litVal B g c ev i)) wx) :
    wpOp Tryz.prog ops Q i (LitI w N B g c ev (listed.setIfInBounds i true)) x wx :=
  op_val ho hg _ hr (by rw [hd]; exact ⟨f, h.val hi hN⟩)
theorem lit_fa (h : LitJ w N B g c ev f listed x wx) (hop : o.op = .fieldAddr 38 (.tmp 1) 0) : (execOp x.eval o).run Tryz.prog wx = .ok (.value (.pointer (some ⟨B, 0, none⟩))) wx := by
  have he : x.eval (.tmp 1) = .pointer (some ⟨B, 0, none⟩) := h.p1
  have hr : (Instr.fieldAt 38 (.pointer (some ⟨B, 0, none⟩)) 0).run Tryz.prog wx = .ok (.pointer (some ⟨B, 0, none⟩)) wx := by kernel_rfl
  unfold execOp
  simp only [hop, he, Sem.run_bind, hr, Sem.run_pure, Result.andThen_ok]
theorem lit_ls {ty : TypeId} {s : Nat} (h : LitJ w N B g c ev f listed x wx) (hB : B < w.heap.size) (hc : w.cell? ⟨B, 0, none⟩ = some (.slice (some ⟨g, 0, none⟩) 4 c)) (hop : o.op = .load ty (.tmp s)) (he : x.tmps.getD s undef = .pointer (some ⟨B, 0, none⟩)) (hag : (isAgg ty).run Tryz.prog wx = .ok false wx) :
    (execOp x.eval o).run Tryz.prog wx = .ok (.value (.slice (some ⟨g, 0, none⟩) 4 c)) wx := by
  have he' : x.eval (.tmp s) = .pointer (some ⟨B, 0, none⟩) := he
  have hc' : wx.cell? ⟨B, 0, none⟩ = some (.slice (some ⟨g, 0, none⟩) 4 c) := by
    rw [← hc]; simp only [World.cell?]; rw [h.bel.block B hB]
  have hr : (Instr.loadAt ty (.pointer (some ⟨B, 0, none⟩))).run Tryz.prog wx = .ok (.slice (some ⟨g, 0, none⟩) 4 c) wx := by
    simp [Instr.loadAt, Instr.sureAddr, loadVar, hag, hc']
  unfold execOp
  simp only [hop, he', Sem.run_bind, hr, Sem.run_pure, Result.andThen_ok]
theorem lit_ix {ty : TypeId} {s : Nat} {k : Int} {m : Nat} (hop : o.op = .indexAddr ty (.tmp s) (.const (.int .i64 k))) (he : x.tmps.getD s undef = .slice (some ⟨g, 0, none⟩) 4 c) (hr : (Instr.indexAt ty (.slice (some ⟨g, 0, none⟩) 4 c) (.int .i64 k)).run Tryz.prog wx = .ok (.pointer (some ⟨g, m, none⟩)) wx) :
    (execOp x.eval o).run Tryz.prog wx = .ok (.value (.pointer (some ⟨g, m, none⟩))) wx := by
  have he' : x.eval (.tmp s) = .slice (some ⟨g, 0, none⟩) 4 c := he
  have c0 : ∀ v, x.eval (.const v) = v := fun _ => rfl
  unfold execOp
  simp only [hop, he', c0, Sem.run_bind, hr, Sem.run_pure, Result.andThen_ok]
theorem lit_le {s m : Nat} {cs : List Value} (h : LitJ w N B g c ev f listed x wx) (hg : g < w.heap.size) (hcs : cs.length = 5) (hc : w.rangeAt g m cs) (hop : o.op = .load 53 (.tmp s)) (he : x.tmps.getD s undef = .pointer (some ⟨g, m, none⟩)) :
    (execOp x.eval o).run Tryz.prog wx = .ok (.value (.agg cs.toArray)) wx := by
  have he' : x.eval (.tmp s) = .pointer (some ⟨g, m, none⟩) := he
  have hc' : wx.rangeAt g m cs := fun j v hj => by
    rw [← hc j v hj]; simp only [World.cell?]; rw [h.bel.block g hg]
  have hr := run_loadAt_mid (P := Tryz.prog) wx g m 53 cs _ hc' Tryz.underlying53 rfl (by rw [hcs]; kernel_rfl)
  unfold execOp
  simp only [hop, he', Sem.run_bind, hr, Sem.run_pure, Result.andThen_ok]
theorem lit_al {k0 : Nat} (h : LitJ w N B g c ev f listed x wx) (hN : 54 ≤ N) (hk0 : k0 < 4) (hn : listed.getD (16 + k0) true = false) (ho : ops[16 + k0]? = some o) (hg : o.guard = none) (hd : o.dst = some (4 + k0)) (hop : o.op = .alloc 53) :
    wpOp Tryz.prog ops Q (16 + k0) (LitI w N B g c ev (listed.setIfInBounds (16 + k0) true)) x wx := by
  have hr : (Instr.alloc 53 true (.tuple #[])).run Tryz.prog wx = .ok (.pointer (some ⟨wx.heap.size, 0, none⟩)) (wx.alloc (.cells ev0 53 (0, 0))) := by kernel_rfl
  refine op_val ho hg (.pointer (some ⟨wx.heap.size, 0, none⟩)) (w' := wx.alloc (.cells ev0 53 (0, 0))) ?_ ?_
  · unfold execOp
    simp only [hop, Sem.run_bind, hr, Sem.run_pure, Result.andThen_ok]
  · rw [hd]
    refine ⟨_, h.alloc hk0 hN ?_⟩
    rw [← hn]
    have := h.sz
    simp [this, show 16 + k0 < 24 from by omega]
theorem lit_st {k0 : Nat} (h : LitJ w N B g c ev f listed x wx) (hk0 : k0 < 4) (hev : (ev k0).length = 5) (h1 : (ev k0).all (·.oneCell') = true) (hy : listed.getD (16 + k0) false = true) (hv : x.tmps.getD (41 + 4 * k0) undef = .agg (ev k0).toArray) (ho : ops[20 + k0]? = some o) (hg : o.guard = none) (hd : o.dst = none) (hop : o.op = .store 53 (.tmp (4 + k0)) (.tmp (41 + 4 * k0))) :
    wpOp Tryz.prog ops Q (20 + k0) (LitI w N B g c ev (listed.setIfInBounds (20 + k0) true)) x wx := by
  obtain ⟨a, b, cs, c1, c2, c3⟩ := h.al k0 hk0 hy
  have ea : x.eval (.tmp (4 + k0)) = .pointer (some ⟨f k0, 0, none⟩) := a
  have eb : x.eval (.tmp (41 + 4 * k0)) = .agg (ev k0).toArray := hv
  have hst := run_storeVar_row (P := Tryz.prog) wx (f k0) 53 53 cs (ev k0).toArray c1 (by rw [show (ev k0).toArray.size = 5 from by simp [hev]]; kernel_rfl) (by rw [c2]; simp [hev]) (by simpa using h1)
  have hr : (Instr.storeAt 53 (.pointer (some ⟨f k0, 0, none⟩)) (.agg (ev k0).toArray)).run Tryz.prog wx = .ok () (wx.setRow (f k0) (ev k0).toArray) := by
    unfold Instr.storeAt
    simp [Instr.sureAddr, hst]
  refine op_skip ho hg hd (w' := wx.setRow (f k0) (ev k0).toArray) ?_ ⟨f, h.store hk0 hev hy⟩
  unfold execOp
  simp only [hop, ea, eb, Sem.run_bind, hr, Sem.run_pure, Result.andThen_ok]
theorem lit_done (h : LitI w N B g c ev listed x wx) (hl : ∀ i, i < 24 → listed.getD i false = true) : x.tmps.size = N ∧ x.defers = [] ∧ Below w.heap.size w wx ∧ ∃ f : Nat → Nat, ∀ k, k < 4 → x.tmps.getD (4 + k) undef = .pointer (some ⟨f k, 0, none⟩) ∧ wx.heap[f k]? = some (.cells (ev k).toArray 53 (0, 0)) := by
  obtain ⟨f, h⟩ := h
  refine ⟨h.tsz, h.df, h.bel, f, fun k hk => ?_⟩
  obtain ⟨a, _, cs, c1, _, c3⟩ := h.al k hk (hl _ (by omega))
  rw [c3 (hl _ (by omega))] at c1
  exact ⟨a, c1⟩
end
end Go.Proofs.YtmgfijllcdadgabGreatDoor
namespace Go.Proofs.YtmgfijllcdadgabGreatDoor
open Go.RowKit
open Mk (St Bs Ev Att)
def litT : Bs := [60, 112, 58, 97, 32, 120, 109, 108, 110, 115, 58, 112, 61, 34, 117, 34, 32, 112, 58, 98, 61, 34, 49, 34, 32, 98, 61, 34, 50, 34, 47, 62]
def litE : List Ev := [⟨6, [112], [], [117], []⟩, ⟨1, [112, 58, 97], [117], [], [⟨[112, 58, 98], [117], [49]⟩, ⟨[98], [], [50]⟩]⟩, ⟨2, [112, 58, 97], [117], [], []⟩, ⟨7, [112], [], [], []⟩]
theorem lit_evs : join [] (out (Mk.feedAll (Mk.make_ 64 32 1024 true) litT).list (Mk.feedAll (Mk.make_ 64 32 1024 true) litT).text) = litE := by kernel_rfl
theorem lit_end : (Mk.feedAll (Mk.make_ 64 32 1024 true) litT).ended = 0 ∧ (Mk.close (Mk.feedAll (Mk.make_ 64 32 1024 true) litT)).2 = 0 := ⟨by kernel_rfl, by kernel_rfl⟩
def litEv (v0 v1 v2 v3 : Value) : Nat → List Value
  | 0 => [.int .i64 6, .string ⟨#[112]⟩, .string ⟨#[]⟩, .string ⟨#[117]⟩, v0]
  | 1 => [.int .i64 1, .string ⟨#[112, 58, 97]⟩, .string ⟨#[117]⟩, .string ⟨#[]⟩, v1]
  | 2 => [.int .i64 2, .string ⟨#[112, 58, 97]⟩, .string ⟨#[117]⟩, .string ⟨#[]⟩, v2]
  | _ => [.int .i64 7, .string ⟨#[112]⟩, .string ⟨#[]⟩, .string ⟨#[]⟩, v3]
theorem range5 {w : World} {g m : Nat} {a b c d e : Value} (h0 : w.cell? ⟨g, m, none⟩ = some a) (h1 : w.cell? ⟨g, m + 1, none⟩ = some b) (h2 : w.cell? ⟨g, m + 2, none⟩ = some c) (h3 : w.cell? ⟨g, m + 3, none⟩ = some d) (h4 : w.cell? ⟨g, m + 4, none⟩ = some e) : w.rangeAt g m [a, b, c, d, e] := by
  intro j v hj
  match j with
  | 0 => cases hj; exact h0
  | 1 => cases hj; exact h1
  | 2 => cases hj; exact h2
  | 3 => cases hj; exact h3
  | 4 => cases hj; exact h4
  | j + 5 => simp at hj
theorem act_list (x : Act) (n : Nat) (h : x.tmps.size = n) (hd : x.defers = []) : x = ⟨((List.range n).map fun i => x.tmps.getD i undef).toArray, []⟩ := by
  obtain ⟨t, d⟩ := x
  simp only at h hd
  subst hd
  congr 1
  apply Array.ext
  · simp [h]
  · intro i h1 h2
    simp [h1]
theorem cells5 {w : World} {g : Nat} {cs : Array Value} {t : TypeId} (h : w.heap[g]? = some (.cells cs t (0, 0))) (j : Nat) : w.cell? ⟨g, j, none⟩ = cs[j]? := by simp [World.cell?, h]
theorem below_24 (i : Nat) (h : i < 24) : i = 0 ∨ i = 1 ∨ i = 2 ∨ i = 3 ∨ i = 4 ∨ i = 5 ∨ i = 6 ∨ i = 7 ∨ i = 8 ∨ i = 9 ∨ i = 10 ∨ i = 11 ∨ i = 12 ∨ i = 13 ∨ i = 14 ∨ i = 15 ∨ i = 16 ∨ i = 17 ∨ i = 18 ∨ i = 19 ∨ i = 20 ∨ i = 21 ∨ i = 22 ∨ i = 23 := by omega
set_option maxHeartbeats 8000000 in
set_option maxRecDepth 100000 in
theorem little_any (w : World) (hG : Gl w) (hs : 6 < w.heap.size) :
    Calls Tryz.prog 43 #[] w fun e w' => e = .returned (.bool true) ∧ Below w.heap.size w w' := by
  have HX := hide (fun w hG hs => run_any 64 32 1024 true (by decide) (by decide) (by decide) (by decide) (by decide) (by decide) litT [] none 0 (by decide) (by decide) w (fun j hj => by cases hj) (fun c hc => by cases hc) hG hs)
  have q := runL_eq 64 32 1024 true litT []
  rw [q.1, q.2.1, q.2.2.1, q.2.2.2, lit_evs, lit_end.1, lit_end.2] at HX
  generalize (Mk.feedAll (Mk.make_ 64 32 1024 true) litT).at_ = at_ at *
  generalize (runL (Mk.make_ 64 32 1024 true) [] 0 litT []) = R1 at *
  have HG := hide hG
  clear hG q
  go_enter Tryz.func43, Tryz.ntmps43
  go_wp2_with fail
  refine (wide_any true _).mono ?_
  rintro e w1 ⟨rfl, hb1⟩
  have hs1 := hb1.size
  go_wp2_with fail
  refine (unhide HX _ ((unhide HG).below hs hb1) (by omega)).mono ?_
  rintro e w2 ⟨v2, fp2, q2, rfl, hg2, hf2, hb2, hp2⟩
  obtain ⟨g, c, aa0, ac0, hv, hgl, k0, n0, s0, v0, a0, _⟩ := hg2.at2 0 (by decide)
  subst hv
  obtain ⟨g', c', aa1, ac1, hv1, _, k1, n1, s1, v1, a1, hat1, hev1⟩ := hg2.at2 1 (by decide)
  cases hv1
  obtain ⟨g', c', aa2, ac2, hv1, _, k2, n2, s2, v2', a2, _⟩ := hg2.at2 2 (by decide)
  cases hv1
  obtain ⟨g', c', aa3, ac3, hv1, _, k3, n3, s3, v3, a3, _⟩ := hg2.at2 3 (by decide)
  cases hv1
  have hst2 := lay_out w2 (.slice (some ⟨g, 0, none⟩) litE.length c) 0 0 at_ q2 ⟨_, _, _, rfl⟩
  have hev1' : w2.ownsRow 0 112 3 (.slice aa1 2 ac1) 2 (atsRow [⟨[112, 58, 98], [117], [49]⟩, ⟨[98], [], [50]⟩]) := hev1
  obtain ⟨ga, hga, hgal, hca⟩ := spElem (m := 3) (l := [(⟨[112, 58, 98], [117], [49]⟩ : Att), ⟨[98], [], [50]⟩]) atCells (fun _ => rfl) (by decide) hev1' 0 (by decide)
  obtain ⟨gb, hgb, hgbl, hcb⟩ := spElem (m := 3) (l := [(⟨[112, 58, 98], [117], [49]⟩ : Att), ⟨[98], [], [50]⟩]) atCells (fun _ => rfl) (by decide) hev1' 1 (by decide)
  subst hga
  cases hgb
  have ca : w2.cell? ⟨ga, 1, none⟩ = some (.string ⟨#[117]⟩) := hca 1 (by decide)
  have cb : w2.cell? ⟨ga, 4, none⟩ = some (.string ⟨#[]⟩) := hcb 1 (by decide)
  have hs2 := hb2.size
  have hbw2 : Below w.heap.size w w2 := hb1.trans (hb2.mono hs1)
  obtain ⟨W2, hW2⟩ : ∃ W2, W2 = w2.alloc (.cells (outCells (.slice (some ⟨g, 0, none⟩) litE.length c) 0 0 at_ q2) 38 (0, 0)) := ⟨_, rfl⟩
  rw [← hW2] at hst2
  have hx2 : W2.heap[w2.heap.size]? = some (.cells (outCells (.slice (some ⟨g, 0, none⟩) litE.length c) 0 0 at_ q2) 38 (0, 0)) := by rw [hW2]; exact heap_alloc_new w2 _
  have hbW2 : Below w.heap.size w W2 := by rw [hW2]; exact hbw2.alloc (by omega) _
  have hk2 : ∀ k, k < w2.heap.size → W2.heap[k]? = w2.heap[k]? := fun k hk => by rw [hW2]; exact Below.heap_alloc _ _ _ hk
  have hl2 : w2.heap.size < W2.heap.size := (Array.getElem?_eq_some_iff.1 hx2).1
  have hc2 : ∀ j, W2.cell? ⟨w2.heap.size, j, none⟩ = [.slice (some ⟨g, 0, none⟩) 4 c, .int .i64 0, .int .i64 0, .int .i64 at_, .int .i64 q2.ln, .int .i64 q2.co, .slice q2.oa q2.on q2.oc][j]? := fun j => by simp [World.cell?, hx2, outCells, litE]
  have HFN := hide (fun w => fine_yes (.slice (some ⟨g, 0, none⟩) litE.length c) at_ q2 ⟨_, _, _, rfl⟩ w)
  have HC := hide (And.intro hk2 hx2)
  have HCS : Hid ((∀ j, w2.cell? ⟨g, j, none⟩ = w2.cell? ⟨g, j, none⟩) ∧ w2.cell? ⟨g, 0, none⟩ = some (.int .i64 6) ∧ w2.cell? ⟨g, 1, none⟩ = some (.string ⟨#[112]⟩) ∧ w2.cell? ⟨g, 2, none⟩ = some (.string ⟨#[]⟩) ∧ w2.cell? ⟨g, 3, none⟩ = some (.string ⟨#[117]⟩) ∧ w2.cell? ⟨g, 4, none⟩ = some (.slice aa0 0 ac0) ∧ w2.cell? ⟨g, 5, none⟩ = some (.int .i64 1) ∧ w2.cell? ⟨g, 6, none⟩ = some (.string ⟨#[112, 58, 97]⟩) ∧ w2.cell? ⟨g, 7, none⟩ = some (.string ⟨#[117]⟩) ∧ w2.cell? ⟨g, 8, none⟩ = some (.string ⟨#[]⟩) ∧ w2.cell? ⟨g, 9, none⟩ = some (.slice (some ⟨ga, 0, none⟩) 2 ac1) ∧ w2.cell? ⟨g, 10, none⟩ = some (.int .i64 2) ∧ w2.cell? ⟨g, 11, none⟩ = some (.string ⟨#[112, 58, 97]⟩) ∧ w2.cell? ⟨g, 12, none⟩ = some (.string ⟨#[117]⟩) ∧ w2.cell? ⟨g, 13, none⟩ = some (.string ⟨#[]⟩) ∧ w2.cell? ⟨g, 14, none⟩ = some (.slice aa2 0 ac2) ∧ w2.cell? ⟨g, 15, none⟩ = some (.int .i64 7) ∧ w2.cell? ⟨g, 16, none⟩ = some (.string ⟨#[112]⟩) ∧ w2.cell? ⟨g, 17, none⟩ = some (.string ⟨#[]⟩) ∧ w2.cell? ⟨g, 18, none⟩ = some (.string ⟨#[]⟩) ∧ w2.cell? ⟨g, 19, none⟩ = some (.slice aa3 0 ac3)) :=
    ⟨fun _ => rfl, k0, n0, s0, v0, a0, k1, n1, s1, v1, a1, k2, n2, s2, v2', a2, k3, n3, s3, v3, a3⟩
  have HCA := hide (And.intro ca cb)
  clear hW2 hg2 hf2 hb2 hp2 hbw2 hk2 k0 n0 s0 v0 a0 k1 n1 s1 v1 a1 k2 n2 s2 v2' a2 k3 n3 s3 v3 a3 ca cb hca hcb hev1 hev1' hat1 HX hx2
  go_wp2_with fail
  refine (unhide HFN _).mono ?_
  rintro e w3 ⟨rfl, hb3⟩
  have hk3 : ∀ k, k < w2.heap.size → w3.heap[k]? = w2.heap[k]? := fun k hk => (hb3.block k (by omega)).trans ((unhide HC).1 k hk)
  have hx3 := (hb3.block _ hl2).trans (unhide HC).2
  have hl3 : w2.heap.size < w3.heap.size := (Array.getElem?_eq_some_iff.1 hx3).1
  have hc3 : ∀ j, w3.cell? ⟨w2.heap.size, j, none⟩ = [.slice (some ⟨g, 0, none⟩) 4 c, .int .i64 0, .int .i64 0, .int .i64 at_, .int .i64 q2.ln, .int .i64 q2.co, .slice q2.oa q2.on q2.oc][j]? := fun j => by simp [World.cell?, hx3, outCells, litE]
  have hcg : ∀ j, w3.cell? ⟨g, j, none⟩ = w2.cell? ⟨g, j, none⟩ := fun j => by simp only [World.cell?]; rw [hk3 g hgl]
  have hcga : ∀ j, w3.cell? ⟨ga, j, none⟩ = w2.cell? ⟨ga, j, none⟩ := fun j => by simp only [World.cell?]; rw [hk3 ga hgal]
  obtain ⟨_, r0, r1, r2, r3, r4, r5, r6, r7, r8, r9, r10, r11, r12, r13, r14, r15, r16, r17, r18, r19⟩ := unhide HCS
  obtain ⟨ra, rb⟩ := unhide HCA
  rw [← hcg] at r0 r1 r2 r3 r4 r5 r6 r7 r8 r9 r10 r11 r12 r13 r14 r15 r16 r17 r18 r19
  rw [← hcga] at ra rb
  have hgl3 : g < w3.heap.size := by omega
  have hgal3 : ga < w3.heap.size := by omega
  have HFI := hide (hbW2.trans (hb3.mono (by omega)))
  have hw3 : w.heap.size ≤ w3.heap.size := by omega
  clear hk3 hx3 hcg hcga hb3 HCS HCA HC hc2 hbW2 HFN
  go_wp2
  have hcB := hc3 0
  have g0 := range5 r0 r1 r2 r3 r4
  have g1 := range5 (m := 5) r5 r6 r7 r8 r9
  have g2 := range5 (m := 10) r10 r11 r12 r13 r14
  have g3 := range5 (m := 15) r15 r16 r17 r18 r19
  clear r0 r1 r2 r3 r4 r5 r6 r7 r8 r9 r10 r11 r12 r13 r14 r15 r16 r17 r18 r19
  refine wp_region_any (by kernel_rfl) ?_
  refine wpAny_inv (LitI w3 120 w2.heap.size g c (litEv (.slice aa0 0 ac0) (.slice (some ⟨ga, 0, none⟩) 2 ac1) (.slice aa2 0 ac2) (.slice aa3 0 ac3))) ?stepQ ?doneQ _ _ _ _ ?startQ (idle_all _)
  case startQ =>
    refine ⟨fun _ => 0, rfl, rfl, rfl, ⟨rfl, rfl, rfl, Nat.le_refl _, fun _ _ => rfl⟩, rfl, ?_, ?_, ?_, ?_⟩
    · intro i hi hl
      simp only [Array.getD_eq_getD_getElem?, Array.getElem?_replicate] at hl
      split at hl <;> simp at hl
    · intro i hi hl
      simp only [Array.getD_eq_getD_getElem?, Array.getElem?_replicate] at hl
      split at hl <;> simp at hl
    · intro i hi hl
      simp only [Array.getD_eq_getD_getElem?, Array.getElem?_replicate] at hl
      split at hl <;> simp at hl
    · intro j k hj hk hjk hl
      simp only [Array.getD_eq_getD_getElem?, Array.getElem?_replicate] at hl
      split at hl <;> simp at hl
  case stepQ =>
    intro listed a w6 i hJ hi
    obtain ⟨f, hJ⟩ := hJ
    obtain ⟨h0, o, ho, hall⟩ := mem_ready.1 hi
    have hlt : i < 24 := (Array.getElem?_eq_some_iff.1 ho).1
    clear hi HFI
    rcases below_24 i hlt with rfl | rfl | rfl | rfl | rfl | rfl | rfl | rfl | rfl | rfl | rfl | rfl | rfl | rfl | rfl | rfl | rfl | rfl | rfl | rfl | rfl | rfl | rfl | rfl
    all_goals obtain rfl := Option.some.inj ho
    · exact lit_val hJ (by decide) (by decide) ho rfl rfl (lit_fa hJ rfl)
    · exact lit_val hJ (by decide) (by decide) ho rfl rfl (lit_ls hJ hl3 hcB rfl (hJ.sp 0 (by decide) (hall ⟨0, .data⟩ (by simp) rfl)) (by kernel_rfl))
    · exact lit_val hJ (by decide) (by decide) ho rfl rfl (lit_ix rfl (hJ.sp 1 (by decide) (hall ⟨1, .data⟩ (by simp) rfl)) (by kernel_rfl))
    · exact lit_val hJ (by decide) (by decide) ho rfl rfl (lit_le hJ hgl3 rfl g0 rfl (hJ.sp 2 (by decide) (hall ⟨2, .data⟩ (by simp) rfl)))
    · exact lit_val hJ (by decide) (by decide) ho rfl rfl (lit_fa hJ rfl)
    · exact lit_val hJ (by decide) (by decide) ho rfl rfl (lit_ls hJ hl3 hcB rfl (hJ.sp 4 (by decide) (hall ⟨4, .data⟩ (by simp) rfl)) (by kernel_rfl))
    · exact lit_val hJ (by decide) (by decide) ho rfl rfl (lit_ix rfl (hJ.sp 5 (by decide) (hall ⟨5, .data⟩ (by simp) rfl)) (by kernel_rfl))
    · exact lit_val hJ (by decide) (by decide) ho rfl rfl (lit_le hJ hgl3 rfl g1 rfl (hJ.sp 6 (by decide) (hall ⟨6, .data⟩ (by simp) rfl)))
    · exact lit_val hJ (by decide) (by decide) ho rfl rfl (lit_fa hJ rfl)
    · exact lit_val hJ (by decide) (by decide) ho rfl rfl (lit_ls hJ hl3 hcB rfl (hJ.sp 8 (by decide) (hall ⟨8, .data⟩ (by simp) rfl)) (by kernel_rfl))
    · exact lit_val hJ (by decide) (by decide) ho rfl rfl (lit_ix rfl (hJ.sp 9 (by decide) (hall ⟨9, .data⟩ (by simp) rfl)) (by kernel_rfl))
    · exact lit_val hJ (by decide) (by decide) ho rfl rfl (lit_le hJ hgl3 rfl g2 rfl (hJ.sp 10 (by decide) (hall ⟨10, .data⟩ (by simp) rfl)))
    · exact lit_val hJ (by decide) (by decide) ho rfl rfl (lit_fa hJ rfl)
    · exact lit_val hJ (by decide) (by decide) ho rfl rfl (lit_ls hJ hl3 hcB rfl (hJ.sp 12 (by decide) (hall ⟨12, .data⟩ (by simp) rfl)) (by kernel_rfl))
    · exact lit_val hJ (by decide) (by decide) ho rfl rfl (lit_ix rfl (hJ.sp 13 (by decide) (hall ⟨13, .data⟩ (by simp) rfl)) (by kernel_rfl))
    · exact lit_val hJ (by decide) (by decide) ho rfl rfl (lit_le hJ hgl3 rfl g3 rfl (hJ.sp 14 (by decide) (hall ⟨14, .data⟩ (by simp) rfl)))
    · exact lit_al (k0 := 0) hJ (by decide) (by decide) h0 ho rfl rfl rfl
    · exact lit_al (k0 := 1) hJ (by decide) (by decide) h0 ho rfl rfl rfl
    · exact lit_al (k0 := 2) hJ (by decide) (by decide) h0 ho rfl rfl rfl
    · exact lit_al (k0 := 3) hJ (by decide) (by decide) h0 ho rfl rfl rfl
    · exact lit_st (k0 := 0) hJ (by decide) rfl rfl (hall ⟨16, .data⟩ (by simp) rfl) (hJ.sp 3 (by decide) (hall ⟨3, .data⟩ (by simp) rfl)) ho rfl rfl rfl
    · exact lit_st (k0 := 1) hJ (by decide) rfl rfl (hall ⟨17, .data⟩ (by simp) rfl) (hJ.sp 7 (by decide) (hall ⟨7, .data⟩ (by simp) rfl)) ho rfl rfl rfl
    · exact lit_st (k0 := 2) hJ (by decide) rfl rfl (hall ⟨18, .data⟩ (by simp) rfl) (hJ.sp 11 (by decide) (hall ⟨11, .data⟩ (by simp) rfl)) ho rfl rfl rfl
    · exact lit_st (k0 := 3) hJ (by decide) rfl rfl (hall ⟨19, .data⟩ (by simp) rfl) (hJ.sp 15 (by decide) (hall ⟨15, .data⟩ (by simp) rfl)) ho rfl rfl rfl
  case doneQ =>
    intro listed a w6 hJ hr
    have hal := all_listed_md (by obtain ⟨f, h⟩ := hJ; rw [h.sz]; rfl) (by kernel_rfl) hr
    obtain ⟨htz, hdf, hbel, f, hf⟩ := lit_done hJ (fun i hi => hal i hi)
    obtain ⟨e0, b0⟩ := hf 0 (by decide)
    obtain ⟨e1, b1⟩ := hf 1 (by decide)
    obtain ⟨e2, b2⟩ := hf 2 (by decide)
    obtain ⟨e3, b3⟩ := hf 3 (by decide)
    have ra6 : w6.cell? ⟨ga, 1, none⟩ = some (.string ⟨#[117]⟩) := by rw [← ra]; simp only [World.cell?]; rw [hbel.block ga hgal3]
    have rb6 : w6.cell? ⟨ga, 4, none⟩ = some (.string ⟨#[]⟩) := by rw [← rb]; simp only [World.cell?]; rw [hbel.block ga hgal3]
    have HB6 := hide ((unhide HFI).trans (hbel.mono hw3))
    rename_i Q1 K1 hK1
    show K1 a w6
    apply hK1
    clear hJ hr hal hK1 hf hbel HFI ra rb g0 g1 g2 g3 hcB hc3
    simp only [Nat.add_zero, Nat.reduceAdd] at e0 e1 e2 e3
    have hx : a = ⟨#[a.tmps.getD 0 undef, a.tmps.getD 1 undef, a.tmps.getD 2 undef, a.tmps.getD 3 undef, a.tmps.getD 4 undef, a.tmps.getD 5 undef, a.tmps.getD 6 undef, a.tmps.getD 7 undef, a.tmps.getD 8 undef, a.tmps.getD 9 undef, a.tmps.getD 10 undef, a.tmps.getD 11 undef, a.tmps.getD 12 undef, a.tmps.getD 13 undef, a.tmps.getD 14 undef, a.tmps.getD 15 undef, a.tmps.getD 16 undef, a.tmps.getD 17 undef, a.tmps.getD 18 undef, a.tmps.getD 19 undef, a.tmps.getD 20 undef, a.tmps.getD 21 undef, a.tmps.getD 22 undef, a.tmps.getD 23 undef, a.tmps.getD 24 undef, a.tmps.getD 25 undef, a.tmps.getD 26 undef, a.tmps.getD 27 undef, a.tmps.getD 28 undef, a.tmps.getD 29 undef, a.tmps.getD 30 undef, a.tmps.getD 31 undef, a.tmps.getD 32 undef, a.tmps.getD 33 undef, a.tmps.getD 34 undef, a.tmps.getD 35 undef, a.tmps.getD 36 undef, a.tmps.getD 37 undef, a.tmps.getD 38 undef, a.tmps.getD 39 undef, a.tmps.getD 40 undef, a.tmps.getD 41 undef, a.tmps.getD 42 undef, a.tmps.getD 43 undef, a.tmps.getD 44 undef, a.tmps.getD 45 undef, a.tmps.getD 46 undef, a.tmps.getD 47 undef, a.tmps.getD 48 undef, a.tmps.getD 49 undef, a.tmps.getD 50 undef, a.tmps.getD 51 undef, a.tmps.getD 52 undef, a.tmps.getD 53 undef, a.tmps.getD 54 undef, a.tmps.getD 55 undef, a.tmps.getD 56 undef, a.tmps.getD 57 undef, a.tmps.getD 58 undef, a.tmps.getD 59 undef, a.tmps.getD 60 undef, a.tmps.getD 61 undef, a.tmps.getD 62 undef, a.tmps.getD 63 undef, a.tmps.getD 64 undef, a.tmps.getD 65 undef, a.tmps.getD 66 undef, a.tmps.getD 67 undef, a.tmps.getD 68 undef, a.tmps.getD 69 undef, a.tmps.getD 70 undef, a.tmps.getD 71 undef, a.tmps.getD 72 undef, a.tmps.getD 73 undef, a.tmps.getD 74 undef, a.tmps.getD 75 undef, a.tmps.getD 76 undef, a.tmps.getD 77 undef, a.tmps.getD 78 undef, a.tmps.getD 79 undef, a.tmps.getD 80 undef, a.tmps.getD 81 undef, a.tmps.getD 82 undef, a.tmps.getD 83 undef, a.tmps.getD 84 undef, a.tmps.getD 85 undef, a.tmps.getD 86 undef, a.tmps.getD 87 undef, a.tmps.getD 88 undef, a.tmps.getD 89 undef, a.tmps.getD 90 undef, a.tmps.getD 91 undef, a.tmps.getD 92 undef, a.tmps.getD 93 undef, a.tmps.getD 94 undef, a.tmps.getD 95 undef, a.tmps.getD 96 undef, a.tmps.getD 97 undef, a.tmps.getD 98 undef, a.tmps.getD 99 undef, a.tmps.getD 100 undef, a.tmps.getD 101 undef, a.tmps.getD 102 undef, a.tmps.getD 103 undef, a.tmps.getD 104 undef, a.tmps.getD 105 undef, a.tmps.getD 106 undef, a.tmps.getD 107 undef, a.tmps.getD 108 undef, a.tmps.getD 109 undef, a.tmps.getD 110 undef, a.tmps.getD 111 undef, a.tmps.getD 112 undef, a.tmps.getD 113 undef, a.tmps.getD 114 undef, a.tmps.getD 115 undef, a.tmps.getD 116 undef, a.tmps.getD 117 undef, a.tmps.getD 118 undef, a.tmps.getD 119 undef], []⟩ := (act_list a _ htz hdf).trans rfl
    rw [e0, e1, e2, e3] at hx
    clear e0 e1 e2 e3 htz hdf
    generalize a.tmps.getD 0 undef = y0 at hx
    generalize a.tmps.getD 1 undef = y1 at hx
    generalize a.tmps.getD 2 undef = y2 at hx
    generalize a.tmps.getD 3 undef = y3 at hx
    generalize a.tmps.getD 8 undef = y8 at hx
    generalize a.tmps.getD 9 undef = y9 at hx
    generalize a.tmps.getD 10 undef = y10 at hx
    generalize a.tmps.getD 11 undef = y11 at hx
    generalize a.tmps.getD 12 undef = y12 at hx
    generalize a.tmps.getD 13 undef = y13 at hx
    generalize a.tmps.getD 14 undef = y14 at hx
    generalize a.tmps.getD 15 undef = y15 at hx
    generalize a.tmps.getD 16 undef = y16 at hx
    generalize a.tmps.getD 17 undef = y17 at hx
    generalize a.tmps.getD 18 undef = y18 at hx
    generalize a.tmps.getD 19 undef = y19 at hx
    generalize a.tmps.getD 20 undef = y20 at hx
    generalize a.tmps.getD 21 undef = y21 at hx
    generalize a.tmps.getD 22 undef = y22 at hx
    generalize a.tmps.getD 23 undef = y23 at hx
    generalize a.tmps.getD 24 undef = y24 at hx
    generalize a.tmps.getD 25 undef = y25 at hx
    generalize a.tmps.getD 26 undef = y26 at hx
    generalize a.tmps.getD 27 undef = y27 at hx
    generalize a.tmps.getD 28 undef = y28 at hx
    generalize a.tmps.getD 29 undef = y29 at hx
    generalize a.tmps.getD 30 undef = y30 at hx
    generalize a.tmps.getD 31 undef = y31 at hx
    generalize a.tmps.getD 32 undef = y32 at hx
    generalize a.tmps.getD 33 undef = y33 at hx
    generalize a.tmps.getD 34 undef = y34 at hx
    generalize a.tmps.getD 35 undef = y35 at hx
    generalize a.tmps.getD 36 undef = y36 at hx
    generalize a.tmps.getD 37 undef = y37 at hx
    generalize a.tmps.getD 38 undef = y38 at hx
    generalize a.tmps.getD 39 undef = y39 at hx
    generalize a.tmps.getD 40 undef = y40 at hx
    generalize a.tmps.getD 41 undef = y41 at hx
    generalize a.tmps.getD 42 undef = y42 at hx
    generalize a.tmps.getD 43 undef = y43 at hx
    generalize a.tmps.getD 44 undef = y44 at hx
    generalize a.tmps.getD 45 undef = y45 at hx
    generalize a.tmps.getD 46 undef = y46 at hx
    generalize a.tmps.getD 47 undef = y47 at hx
    generalize a.tmps.getD 48 undef = y48 at hx
    generalize a.tmps.getD 49 undef = y49 at hx
    generalize a.tmps.getD 50 undef = y50 at hx
    generalize a.tmps.getD 51 undef = y51 at hx
    generalize a.tmps.getD 52 undef = y52 at hx
    generalize a.tmps.getD 53 undef = y53 at hx
    generalize a.tmps.getD 54 undef = y54 at hx
    generalize a.tmps.getD 55 undef = y55 at hx
    generalize a.tmps.getD 56 undef = y56 at hx
    generalize a.tmps.getD 57 undef = y57 at hx
    generalize a.tmps.getD 58 undef = y58 at hx
    generalize a.tmps.getD 59 undef = y59 at hx
    generalize a.tmps.getD 60 undef = y60 at hx
    generalize a.tmps.getD 61 undef = y61 at hx
    generalize a.tmps.getD 62 undef = y62 at hx
    generalize a.tmps.getD 63 undef = y63 at hx
    generalize a.tmps.getD 64 undef = y64 at hx
    generalize a.tmps.getD 65 undef = y65 at hx
    generalize a.tmps.getD 66 undef = y66 at hx
    generalize a.tmps.getD 67 undef = y67 at hx
    generalize a.tmps.getD 68 undef = y68 at hx
    generalize a.tmps.getD 69 undef = y69 at hx
    generalize a.tmps.getD 70 undef = y70 at hx
    generalize a.tmps.getD 71 undef = y71 at hx
    generalize a.tmps.getD 72 undef = y72 at hx
    generalize a.tmps.getD 73 undef = y73 at hx
    generalize a.tmps.getD 74 undef = y74 at hx
    generalize a.tmps.getD 75 undef = y75 at hx
    generalize a.tmps.getD 76 undef = y76 at hx
    generalize a.tmps.getD 77 undef = y77 at hx
    generalize a.tmps.getD 78 undef = y78 at hx
    generalize a.tmps.getD 79 undef = y79 at hx
    generalize a.tmps.getD 80 undef = y80 at hx
    generalize a.tmps.getD 81 undef = y81 at hx
    generalize a.tmps.getD 82 undef = y82 at hx
    generalize a.tmps.getD 83 undef = y83 at hx
    generalize a.tmps.getD 84 undef = y84 at hx
    generalize a.tmps.getD 85 undef = y85 at hx
    generalize a.tmps.getD 86 undef = y86 at hx
    generalize a.tmps.getD 87 undef = y87 at hx
    generalize a.tmps.getD 88 undef = y88 at hx
    generalize a.tmps.getD 89 undef = y89 at hx
    generalize a.tmps.getD 90 undef = y90 at hx
    generalize a.tmps.getD 91 undef = y91 at hx
    generalize a.tmps.getD 92 undef = y92 at hx
    generalize a.tmps.getD 93 undef = y93 at hx
    generalize a.tmps.getD 94 undef = y94 at hx
    generalize a.tmps.getD 95 undef = y95 at hx
    generalize a.tmps.getD 96 undef = y96 at hx
    generalize a.tmps.getD 97 undef = y97 at hx
    generalize a.tmps.getD 98 undef = y98 at hx
    generalize a.tmps.getD 99 undef = y99 at hx
    generalize a.tmps.getD 100 undef = y100 at hx
    generalize a.tmps.getD 101 undef = y101 at hx
    generalize a.tmps.getD 102 undef = y102 at hx
    generalize a.tmps.getD 103 undef = y103 at hx
    generalize a.tmps.getD 104 undef = y104 at hx
    generalize a.tmps.getD 105 undef = y105 at hx
    generalize a.tmps.getD 106 undef = y106 at hx
    generalize a.tmps.getD 107 undef = y107 at hx
    generalize a.tmps.getD 108 undef = y108 at hx
    generalize a.tmps.getD 109 undef = y109 at hx
    generalize a.tmps.getD 110 undef = y110 at hx
    generalize a.tmps.getD 111 undef = y111 at hx
    generalize a.tmps.getD 112 undef = y112 at hx
    generalize a.tmps.getD 113 undef = y113 at hx
    generalize a.tmps.getD 114 undef = y114 at hx
    generalize a.tmps.getD 115 undef = y115 at hx
    generalize a.tmps.getD 116 undef = y116 at hx
    generalize a.tmps.getD 117 undef = y117 at hx
    generalize a.tmps.getD 118 undef = y118 at hx
    generalize a.tmps.getD 119 undef = y119 at hx
    subst hx
    have k0 := cells5 b0
    have k1 := cells5 b1
    have k2 := cells5 b2
    have k3 := cells5 b3
    clear b0 b1 b2 b3
    simp only [litEv] at k0 k1 k2 k3
    generalize f 0 = f0 at *
    generalize f 1 = f1 at *
    generalize f 2 = f2 at *
    generalize f 3 = f3 at *
    have q00 := k0 0
    have q01 := k0 1
    have q03 := k0 3
    have q10 := k1 0
    have q11 := k1 1
    have q12 := k1 2
    have q14 := k1 4
    have q20 := k2 0
    have q22 := k2 2
    have q30 := k3 0
    have q31 := k3 1
    clear k0 k1 k2 k3
    simp at q00 q01 q03 q10 q11 q12 q14 q20 q22 q30 q31
    go_wp2
    go_ret
    exact ⟨rfl, unhide HB6⟩
end Go.Proofs.YtmgfijllcdadgabGreatDoor
namespace Go.Proofs.YtmgfijllcdadgabGreatDoor
open Go.RowKit
open Mk (St Bs Ev Att)
theorem compl_up {s : St} {T : Bs} (h : (Mk.feedAll s T).ended = 0) : compl s T = T ++ Mk.rest (Mk.feedAll s T) := by
  unfold compl
  have : upTo s T = T := by unfold upTo; rw [if_pos h]
  rw [this]
set_option maxHeartbeats 8000000 in
set_option maxRecDepth 100000 in
theorem spaced_of (hlit : ∀ w : World, Gl w → 6 < w.heap.size → Calls Tryz.prog 43 #[] w fun e w' => e = .returned (.bool true) ∧ Below w.heap.size w w') (d a t : Int) (d1 : 1 ≤ d) (d2 : d ≤ 64) (a1 : 0 ≤ a) (a2 : a ≤ 32) (t1 : 8 ≤ t) (t2 : t ≤ 1024) (text : Bs) (hT : text.length ≤ 1048576) (w : World) (hG : Gl w) (hs : 6 < w.heap.size) :
    Calls Tryz.prog 22 #[.agg #[.int .i64 d, .int .i64 a, .int .i64 t, .bool false], .string ⟨text.toArray⟩] w fun e w' => e = .returned (.bool true) ∧ Below w.heap.size w w' := by
  have HLI := hide hlit
  have HX0 := hide (fun w hG hs => run_any d a t false d1 d2 a1 a2 t1 t2 text [] none 0 (by omega) (by decide) w (fun j hj => by cases hj) (fun c hc => by cases hc) hG hs)
  have HX1 := hide (fun w hG hs => run_any d a t true d1 d2 a1 a2 t1 t2 text [] none 0 (by omega) (by decide) w (fun j hj => by cases hj) (fun c hc => by cases hc) hG hs)
  have q0 := runL_eq d a t false text []
  have q1 := runL_eq d a t true text []
  rw [q0.1, q0.2.1, q0.2.2.1, q0.2.2.2] at HX0
  rw [q1.1, q1.2.1, q1.2.2.1, q1.2.2.2] at HX1
  obtain ⟨⟨H, hH1, hH2, hH3⟩, hlen, hbn, hka, hev⟩ := off_facts d a t d1 d2 t1 a1 a2 text (by omega)
  have hev' : join [] (out (Mk.feedAll (Mk.make_ d a t false) text).list (Mk.feedAll (Mk.make_ d a t false) text).text) = wT (Mk.feedAll (Mk.make_ d a t false) text) := hev
  rw [hev'] at HX0
  have HRS := hide (fun (w' : World) (v : Value) (fp : List Nat) (hg : Got w' v (wT (Mk.feedAll (Mk.make_ d a t false) text)) fp) hfp => resolved_any hg hfp hH1 hH2 hH3 hlen hbn hka)
  have HUN := hide (fun p0 x0 => fun hT h0 EV c0 hk hx0 w va vc fpe hve hfpe hG hs => unspaced_any d a t d1 d2 a1 a2 t1 t2 p0 x0 hT h0 (EV := EV) (c0 := c0) hk hx0 w (va := va) (vc := vc) (fpe := fpe) hve hfpe hG hs)
  have HCD := hide (fun T => compl_doc d a t d1 t1 a2 T)
  have HCI := hide (fun T => compl_isDoc d a t d1 t1 a2 T)
  have HTX : Hid (∀ T, (Mk.feedAll (Mk.make_ d a t false) (compl (Mk.make_ d a t false) T)).text = []) := fun T => by
    obtain ⟨h, H, hx, _⟩ := shape_doc d a t d1 t1 a1 a2 (compl (Mk.make_ d a t false) T) (compl_doc d a t d1 t1 a2 T).1 (compl_isDoc d a t d1 t1 a2 T)
    exact hx
  have HG := hide hG
  by_cases h8 : (Mk.feedAll (Mk.make_ d a t true) text).ended = 8
  · have hsb := spaces_bad d a t d1 t1 a1 a2 text h8
    obtain ⟨p, x, q, c, htx, hat8, h00, hadj1, hbyte, hkk⟩ := hsb
    have hev1 : join [] (out (Mk.feedAll (Mk.make_ d a t true) text).list (Mk.feedAll (Mk.make_ d a t true) text).text) = wT (Mk.feedAll (Mk.make_ d a t true) text) := evs_wT hadj1
    rw [hev1, h8, hat8] at HX1
    have hpl : p.length + 1 ≤ text.length := by rw [htx]; simp
    have hk1 : kRes Sc.zero [] (wT (Mk.feedAll (Mk.make_ d a t false) (compl (Mk.make_ d a t false) (p ++ [x])))) = (c, wT (Mk.feedAll (Mk.make_ d a t true) text), false) := by
      have hw : wT (Mk.feedAll (Mk.make_ d a t false) (compl (Mk.make_ d a t false) (p ++ [x]))) = (Mk.feedAll (Mk.make_ d a t false) (compl (Mk.make_ d a t false) (p ++ [x]))).list := by
        unfold wT
        rw [if_pos (by rw [unhide HTX]; rfl)]
      rw [hw]
      have hd0 := (unhide HCD (p ++ [x])).1
      have hd1 := unhide HCI (p ++ [x])
      have hst : (Mk.feedAll (Mk.make_ d a t false) (compl (Mk.make_ d a t false) (p ++ [x]))).state = 0 := by unfold Mk.isDocument at hd1; simpa using (Bool.and_eq_true_iff.1 hd1).2
      rw [compl_up h00] at hd0 hst ⊢
      exact hkk _ hd0 hst
    have hxt : (ByteArray.extract ⟨text.toArray⟩ 0 (p.length + 1)) = ⟨(p ++ [x]).toArray⟩ := by
      rw [ext_take]
      have : text.take (p.length + 1) = p ++ [x] := by rw [htx, show p ++ x :: q = (p ++ [x]) ++ q by simp]; exact List.take_left' (by simp)
      rw [this]
    have HUN2 := hide (unhide HUN p x (by simp; omega) h00 _ _ hk1 hbyte)
    generalize wT (Mk.feedAll (Mk.make_ d a t false) text) = E0 at *
    generalize wT (Mk.feedAll (Mk.make_ d a t true) text) = E1 at *
    generalize (Mk.feedAll (Mk.make_ d a t false) text).ended = err0 at *
    generalize (Mk.feedAll (Mk.make_ d a t false) text).at_ = at0 at *
    generalize (Mk.close (Mk.feedAll (Mk.make_ d a t false) text)).2 = en0 at *
    generalize (Mk.close (Mk.feedAll (Mk.make_ d a t true) text)).2 = en at *
    generalize (runL (Mk.make_ d a t false) [] 0 text []) = R0 at *
    generalize (runL (Mk.make_ d a t true) [] 0 text []) = R1 at *
    have hn : p.length + 1 = p.length + 1 := rfl
    obtain ⟨N, hN⟩ : ∃ N, N = p.length + 1 := ⟨_, rfl⟩
    have hNi : (p.length : Int) + 1 = (N : Int) := by omega
    rw [hNi] at HX1
    rw [← hN] at hxt hpl
    have hN1 : 1 ≤ N := by omega
    have z1 : decide ((N : Int) < 1) = false := by simp; omega
    have z1' : decide (N < 1) = false := by simp; omega
    have z2 : decide ((text.length : Int) < (N : Int)) = false := by simp; omega
    have z2' : decide (text.length < N) = false := by simp; omega
    have z3 : (N : Int) ≤ (text.length : Int) := by omega
    generalize p ++ [x] = T at *
    clear hG q0 q1 hH1 hH2 hH3 hlen hbn hka hev hev' hev1 h8 hat8 h00 hadj1 hbyte hkk hk1 HUN HCD HCI HTX d1 d2 a1 a2 t1 t2 hlit htx hn hN hNi HRS
    go_enter Tryz.func22, Tryz.ntmps22
    go_wp2_with fail
    obtain ⟨WA, hWA⟩ : ∃ WA, WA = (w.alloc (.cells #[.int .i64 d, .int .i64 a, .int .i64 t, .bool true] 25 (0, 0))).alloc (.cells #[.int .i64 d, .int .i64 a, .int .i64 t, .bool false] 25 (0, 0)) := ⟨_, rfl⟩
    have hbA : Below w.heap.size w WA := by rw [hWA]; exact ((Below.refl _ _).alloc (Nat.le_refl _) _).alloc (by simp) _
    have hAs : WA.heap.size = w.heap.size + 2 := by rw [hWA]; simp
    have hAo : WA.heap[w.heap.size]? = some (.cells #[.int .i64 d, .int .i64 a, .int .i64 t, .bool true] 25 (0, 0)) := by rw [hWA, Below.heap_alloc _ _ _ (by simp)]; exact heap_alloc_new w _
    have hAw : WA.heap[w.heap.size + 1]? = some (.cells #[.int .i64 d, .int .i64 a, .int .i64 t, .bool false] 25 (0, 0)) := by
      rw [hWA]
      have := heap_alloc_new (w.alloc (.cells #[.int .i64 d, .int .i64 a, .int .i64 t, .bool true] 25 (0, 0))) (.cells #[.int .i64 d, .int .i64 a, .int .i64 t, .bool false] 25 (0, 0))
      simpa using this
    rw [← hWA]
    refine (unhide HX0 WA ((unhide HG).below hs hbA) (by omega)).mono ?_
    rintro e w2 ⟨v2, fp2, q2, rfl, hg2, hf2, hb2, hp2⟩
    obtain ⟨x2, c2, rfl⟩ := hg2.slice
    have hst2 := lay_out w2 (.slice x2 E0.length c2) err0 en0 at0 q2 ⟨_, _, _, rfl⟩
    have hs2 := hb2.size
    have hbw2 : Below w.heap.size w w2 := hbA.trans (hb2.mono (by omega))
    obtain ⟨W2, hW2⟩ : ∃ W2, W2 = w2.alloc (.cells (outCells (.slice x2 E0.length c2) err0 en0 at0 q2) 38 (0, 0)) := ⟨_, rfl⟩
    rw [← hW2] at hst2
    have hbW2 : Below w.heap.size w W2 := by rw [hW2]; exact hbw2.alloc (by omega) _
    have hsW2 : w2.heap.size < W2.heap.size := by rw [hW2]; simp
    have ho2 : W2.heap[w.heap.size]? = some (.cells #[.int .i64 d, .int .i64 a, .int .i64 t, .bool true] 25 (0, 0)) := by rw [hW2, Below.heap_alloc _ _ _ (by omega), hb2.block _ (by omega)]; exact hAo
    have how2 : W2.heap[w.heap.size + 1]? = some (.cells #[.int .i64 d, .int .i64 a, .int .i64 t, .bool false] 25 (0, 0)) := by rw [hW2, Below.heap_alloc _ _ _ (by omega), hb2.block _ (by omega)]; exact hAw
    have hlo2 : w.heap.size < W2.heap.size := by omega
    have hco2 : ∀ j, W2.cell? ⟨w.heap.size, j, none⟩ = [.int .i64 d, .int .i64 a, .int .i64 t, .bool true][j]? := fun j => by simp [World.cell?, ho2]
    have HOW := hide how2
    clear hW2 hWA hg2 hf2 hb2 hp2 hbw2 hAo hAw hbA HX0 ho2 how2
    go_wp2_with fail
    refine (unhide HX1 W2 ((unhide HG).below hs hbW2) (by have := hbW2.size; omega)).mono ?_
    rintro e w3 ⟨v3, fp3, q3, rfl, hg3, hf3, hb3, hp3⟩
    obtain ⟨x3, c3, rfl⟩ := hg3.slice
    have hst3 := lay_out w3 (.slice x3 E1.length c3) 8 en (N : Int) q3 ⟨_, _, _, rfl⟩
    have hs3 := hb3.size
    have hbw3 : Below w.heap.size w w3 := hbW2.trans (hb3.mono (by omega))
    obtain ⟨W3, hW3⟩ : ∃ W3, W3 = w3.alloc (.cells (outCells (.slice x3 E1.length c3) 8 en (N : Int) q3) 38 (0, 0)) := ⟨_, rfl⟩
    rw [← hW3] at hst3
    have hx3 : W3.heap[w3.heap.size]? = some (.cells (outCells (.slice x3 E1.length c3) 8 en (N : Int) q3) 38 (0, 0)) := by rw [hW3]; exact heap_alloc_new w3 _
    have hbW3 : Below w.heap.size w W3 := by rw [hW3]; exact hbw3.alloc (by omega) _
    have hl3 : w3.heap.size < W3.heap.size := (Array.getElem?_eq_some_iff.1 hx3).1
    have how3 : W3.heap[w.heap.size + 1]? = some (.cells #[.int .i64 d, .int .i64 a, .int .i64 t, .bool false] 25 (0, 0)) := by rw [hW3, Below.heap_alloc _ _ _ (by omega), hb3.block _ (by omega)]; exact unhide HOW
    have hgW3 : Got W3 (.slice x3 E1.length c3) E1 fp3 := hg3.keep fun k hk => by rw [hW3]; exact Below.heap_alloc _ _ _ (hf3 k hk).2
    have hfW3 : ∀ k ∈ fp3, k < W3.heap.size := fun k hk => by have := (hf3 k hk).2; omega
    have HK3 := hide (And.intro hgW3 (And.intro hfW3 (And.intro hx3 how3)))
    have hl31 : w.heap.size + 1 < W3.heap.size := by omega
    clear hW3 hg3 hf3 hb3 hp3 hbw3 hgW3 hfW3 hx3 how3 hco2 HX1
    go_wp2_with fail
    refine (unhide HLI W3 ((unhide HG).below hs hbW3) (by have := hbW3.size; omega)).mono ?_
    rintro e w4 ⟨rfl, hb4⟩
    have hs4 := hb4.size
    have hbw4 : Below w.heap.size w w4 := hbW3.trans (hb4.mono (by omega))
    have hK := unhide HK3
    have hx4 := (hb4.block _ hl3).trans hK.2.2.1
    have hy4 := (hb4.block _ hl31).trans hK.2.2.2
    have hcx4 : ∀ j, w4.cell? ⟨w3.heap.size, j, none⟩ = [.slice x3 E1.length c3, .int .i64 8, .int .i64 en, .int .i64 (N : Int), .int .i64 q3.ln, .int .i64 q3.co, .slice q3.oa q3.on q3.oc][j]? := fun j => by simp [World.cell?, hx4, outCells]
    have hcy4 : ∀ j, w4.cell? ⟨w.heap.size + 1, j, none⟩ = [.int .i64 d, .int .i64 a, .int .i64 t, .bool false][j]? := fun j => by simp [World.cell?, hy4]
    have l4 : w3.heap.size < w4.heap.size := by omega
    have l5 : w.heap.size + 1 < w4.heap.size := by omega
    have hg34 : Got w4 (.slice x3 E1.length c3) E1 fp3 := hK.1.keep fun k hk => hb4.block k (hK.2.1 k hk)
    have hbd4 : Below w.heap.size w w4.drew := ⟨hbw4.os, hbw4.tape, hbw4.output, hbw4.size, hbw4.block⟩
    have HU4 := hide (unhide HUN2 w4.drew _ _ fp3 (hg34.keep fun k hk => rfl) (fun k hk => by have := hK.2.1 k hk; show k < w4.heap.size; omega) ((unhide HG).below hs hbd4) (by have := hbw4.size; show _ < w4.heap.size; omega))
    have HBD := hide hbd4
    have HB4 := hide hbw4
    have hw4 := hbw4.size
    clear hK hx4 hy4 hg34 hb4 HK3 hbW3 hbW2 HLI HUN2 hbw4 hbd4
    go_wp2_with fail
    go_region_with (go_at_call 44; refine (unhide HU4).mono ?_; rintro e w5 ⟨rfl, hb5⟩; have HB5 := hide hb5; clear hb5)
    all_goals
      go_wp2
      go_ret
      exact ⟨rfl, (unhide HBD).trans ((unhide HB5).mono hw4)⟩
  · have hso := spaces_ok d a t d1 t1 a1 a2 text h8
    obtain ⟨s1, s2, s3, c, hkr, hadj0, hadj1⟩ := hso
    have hev1 : join [] (out (Mk.feedAll (Mk.make_ d a t true) text).list (Mk.feedAll (Mk.make_ d a t true) text).text) = wT (Mk.feedAll (Mk.make_ d a t true) text) := evs_wT hadj1
    rw [hev1, s1, s2, s3] at HX1
    rw [s1] at h8
    unfold KR at hkr
    rw [hkr] at HRS
    generalize wT (Mk.feedAll (Mk.make_ d a t false) text) = E0 at *
    generalize wT (Mk.feedAll (Mk.make_ d a t true) text) = E1 at *
    generalize (Mk.feedAll (Mk.make_ d a t false) text).ended = err at *
    generalize (Mk.feedAll (Mk.make_ d a t false) text).at_ = at_ at *
    generalize (Mk.close (Mk.feedAll (Mk.make_ d a t false) text)).2 = en at *
    generalize (runL (Mk.make_ d a t false) [] 0 text []) = R0 at *
    generalize (runL (Mk.make_ d a t true) [] 0 text []) = R1 at *
    have e8 : (err != 8) = true := by simpa using h8
    clear hG q0 q1 hH1 hH2 hH3 hlen hbn hka hev hev' hev1 s1 s2 s3 hkr hadj0 hadj1 h8 HUN HCD HCI HTX d1 d2 a1 a2 t1 t2 hlit
    go_enter Tryz.func22, Tryz.ntmps22
    go_wp2_with fail
    obtain ⟨WA, hWA⟩ : ∃ WA, WA = (w.alloc (.cells #[.int .i64 d, .int .i64 a, .int .i64 t, .bool true] 25 (0, 0))).alloc (.cells #[.int .i64 d, .int .i64 a, .int .i64 t, .bool false] 25 (0, 0)) := ⟨_, rfl⟩
    have hbA : Below w.heap.size w WA := by rw [hWA]; exact ((Below.refl _ _).alloc (Nat.le_refl _) _).alloc (by simp) _
    have hAs : WA.heap.size = w.heap.size + 2 := by rw [hWA]; simp
    have hAo : WA.heap[w.heap.size]? = some (.cells #[.int .i64 d, .int .i64 a, .int .i64 t, .bool true] 25 (0, 0)) := by rw [hWA, Below.heap_alloc _ _ _ (by simp)]; exact heap_alloc_new w _
    rw [← hWA]
    refine (unhide HX0 WA ((unhide HG).below hs hbA) (by omega)).mono ?_
    rintro e w2 ⟨v2, fp2, q2, rfl, hg2, hf2, hb2, hp2⟩
    obtain ⟨x2, c2, rfl⟩ := hg2.slice
    have hst2 := lay_out w2 (.slice x2 E0.length c2) err en at_ q2 ⟨_, _, _, rfl⟩
    have hs2 := hb2.size
    have hbw2 : Below w.heap.size w w2 := hbA.trans (hb2.mono (by omega))
    obtain ⟨W2, hW2⟩ : ∃ W2, W2 = w2.alloc (.cells (outCells (.slice x2 E0.length c2) err en at_ q2) 38 (0, 0)) := ⟨_, rfl⟩
    rw [← hW2] at hst2
    have hx2 : W2.heap[w2.heap.size]? = some (.cells (outCells (.slice x2 E0.length c2) err en at_ q2) 38 (0, 0)) := by rw [hW2]; exact heap_alloc_new w2 _
    have hbW2 : Below w.heap.size w W2 := by rw [hW2]; exact hbw2.alloc (by omega) _
    have hl2 : w2.heap.size < W2.heap.size := (Array.getElem?_eq_some_iff.1 hx2).1
    have ho2 : W2.heap[w.heap.size]? = some (.cells #[.int .i64 d, .int .i64 a, .int .i64 t, .bool true] 25 (0, 0)) := by rw [hW2, Below.heap_alloc _ _ _ (by omega), hb2.block _ (by omega)]; exact hAo
    have hlo2 : w.heap.size < W2.heap.size := by omega
    have hco2 : ∀ j, W2.cell? ⟨w.heap.size, j, none⟩ = [.int .i64 d, .int .i64 a, .int .i64 t, .bool true][j]? := fun j => by simp [World.cell?, ho2]
    have hgW2 : Got W2 (.slice x2 E0.length c2) E0 fp2 := hg2.keep fun k hk => by rw [hW2]; exact Below.heap_alloc _ _ _ (hf2 k hk).2
    have hfW2 : ∀ k ∈ fp2, k < W2.heap.size := fun k hk => by have := (hf2 k hk).2; omega
    have HK2 := hide (And.intro hgW2 (And.intro hfW2 hx2))
    clear hW2 hWA hg2 hf2 hb2 hp2 hbw2 hgW2 hfW2 hx2 hAo hbA HX0 ho2
    go_wp2_with fail
    refine (unhide HX1 W2 ((unhide HG).below hs hbW2) (by have := hbW2.size; omega)).mono ?_
    rintro e w3 ⟨v3, fp3, q3, rfl, hg3, hf3, hb3, hp3⟩
    obtain ⟨x3, c3, rfl⟩ := hg3.slice
    have hst3 := lay_out w3 (.slice x3 E1.length c3) err en at_ q3 ⟨_, _, _, rfl⟩
    have hs3 := hb3.size
    have hbw3 : Below w.heap.size w w3 := hbW2.trans (hb3.mono (by omega))
    obtain ⟨W3, hW3⟩ : ∃ W3, W3 = w3.alloc (.cells (outCells (.slice x3 E1.length c3) err en at_ q3) 38 (0, 0)) := ⟨_, rfl⟩
    rw [← hW3] at hst3
    have hx3 : W3.heap[w3.heap.size]? = some (.cells (outCells (.slice x3 E1.length c3) err en at_ q3) 38 (0, 0)) := by rw [hW3]; exact heap_alloc_new w3 _
    have hbW3 : Below w.heap.size w W3 := by rw [hW3]; exact hbw3.alloc (by omega) _
    have hl3 : w3.heap.size < W3.heap.size := (Array.getElem?_eq_some_iff.1 hx3).1
    have hk3 : ∀ k, k < W2.heap.size → W3.heap[k]? = W2.heap[k]? := fun k hk => by rw [hW3, Below.heap_alloc _ _ _ (by omega)]; exact hb3.block k hk
    have hgW3 : Got W3 (.slice x3 E1.length c3) E1 fp3 := hg3.keep fun k hk => by rw [hW3]; exact Below.heap_alloc _ _ _ (hf3 k hk).2
    have hfW3 : ∀ k ∈ fp3, k < W3.heap.size := fun k hk => by have := (hf3 k hk).2; omega
    have hg23 : Got W3 (.slice x2 E0.length c2) E0 fp2 := (unhide HK2).1.keep fun k hk => hk3 k ((unhide HK2).2.1 k hk)
    have hx23 : W3.heap[w2.heap.size]? = some (.cells (outCells (.slice x2 E0.length c2) err en at_ q2) 38 (0, 0)) := (hk3 _ hl2).trans (unhide HK2).2.2
    have HK3 := hide (And.intro hgW3 (And.intro hfW3 (And.intro hx3 (And.intro hg23 (And.intro (fun k hk => by have := (unhide HK2).2.1 k hk; omega : ∀ k ∈ fp2, k < W3.heap.size) hx23)))))
    have hl23 : w2.heap.size < W3.heap.size := by omega
    clear hW3 hg3 hf3 hb3 hp3 hbw3 hk3 hgW3 hfW3 hx3 hg23 hx23 hco2 HX1 HK2
    go_wp2_with fail
    refine (unhide HLI W3 ((unhide HG).below hs hbW3) (by have := hbW3.size; omega)).mono ?_
    rintro e w4 ⟨rfl, hb4⟩
    have hs4 := hb4.size
    have hbw4 : Below w.heap.size w w4 := hbW3.trans (hb4.mono (by omega))
    have hK := unhide HK3
    have hx4 := (hb4.block _ hl3).trans hK.2.2.1
    have hy4 := (hb4.block _ hl23).trans hK.2.2.2.2.2
    have hcx4 : ∀ j, w4.cell? ⟨w3.heap.size, j, none⟩ = [.slice x3 E1.length c3, .int .i64 err, .int .i64 en, .int .i64 at_, .int .i64 q3.ln, .int .i64 q3.co, .slice q3.oa q3.on q3.oc][j]? := fun j => by simp [World.cell?, hx4, outCells]
    have hcy4 : ∀ j, w4.cell? ⟨w2.heap.size, j, none⟩ = [.slice x2 E0.length c2, .int .i64 err, .int .i64 en, .int .i64 at_, .int .i64 q2.ln, .int .i64 q2.co, .slice q2.oa q2.on q2.oc][j]? := fun j => by simp [World.cell?, hy4, outCells]
    have l4 : w3.heap.size < w4.heap.size := by omega
    have l5 : w2.heap.size < w4.heap.size := by omega
    have hg24 : Got w4 (.slice x2 E0.length c2) E0 fp2 := hK.2.2.2.1.keep fun k hk => hb4.block k (hK.2.2.2.2.1 k hk)
    have hg34 : Got w4 (.slice x3 E1.length c3) E1 fp3 := hK.1.keep fun k hk => hb4.block k (hK.2.1 k hk)
    have HR4 := hide (unhide HRS w4 (.slice x2 E0.length c2) fp2 hg24 (fun k hk => by have := hK.2.2.2.2.1 k hk; omega))
    have HK4 := hide (And.intro hg34 (And.intro (fun k hk => by have := hK.2.1 k hk; omega : ∀ k ∈ fp3, k < w4.heap.size) (And.intro hx4 hy4)))
    clear hK hx4 hy4 hg24 hg34 hb4 HK3 hbW3 hbW2 HRS HLI
    go_wp2_with fail
    refine (unhide HR4).mono ?_
    rintro e w5 ⟨v5, fp5, rfl, hg5, hf5, hb5⟩
    obtain ⟨x5, c5, rfl⟩ := hg5.slice
    have hs5 := hb5.size
    have hK := unhide HK4
    have hbw5 : Below w.heap.size w w5 := hbw4.trans (hb5.mono (by have := hbw4.size; omega))
    have hx5 := (hb5.block _ l4).trans hK.2.2.1
    have hy5 := (hb5.block _ l5).trans hK.2.2.2
    have hcx5 : ∀ j, w5.cell? ⟨w3.heap.size, j, none⟩ = [.slice x3 E1.length c3, .int .i64 err, .int .i64 en, .int .i64 at_, .int .i64 q3.ln, .int .i64 q3.co, .slice q3.oa q3.on q3.oc][j]? := fun j => by simp [World.cell?, hx5, outCells]
    have hcy5 : ∀ j, w5.cell? ⟨w2.heap.size, j, none⟩ = [.slice x2 E0.length c2, .int .i64 err, .int .i64 en, .int .i64 at_, .int .i64 q2.ln, .int .i64 q2.co, .slice q2.oa q2.on q2.oc][j]? := fun j => by simp [World.cell?, hy5, outCells]
    have l6 : w3.heap.size < w5.heap.size := by omega
    have l7 : w2.heap.size < w5.heap.size := by omega
    have HSE := hide (sameEvents_eq hg5 (hK.1.keep fun k hk => hb5.block k (hK.2.1 k hk)))
    have HB5 := hide hbw5
    have z1 : (err == err) = true := by simp
    have z2 : (en == en) = true := by simp
    have z3 : (at_ == at_) = true := by simp
    clear hK hx5 hy5 hg5 hf5 hb5 hcx4 hcy4 HK4 hbw5 hbw4 HR4
    go_wp2_with fail
    refine (unhide HSE).mono ?_
    rintro e w6 ⟨rfl, n6, rfl⟩
    go_wp2
    go_ret
    exact ⟨rfl, below_drewN (unhide HB5) _⟩
end Go.Proofs.YtmgfijllcdadgabGreatDoor
namespace Go.Proofs.YtmgfijllcdadgabGreatDoor
open Go.RowKit
open Mk (St Bs Ev Att)
theorem spaced_any (d a t : Int) (d1 : 1 ≤ d) (d2 : d ≤ 64) (a1 : 0 ≤ a) (a2 : a ≤ 32) (t1 : 8 ≤ t) (t2 : t ≤ 1024) (text : Bs) (hT : text.length ≤ 1048576) (w : World) (hG : Gl w) (hs : 6 < w.heap.size) :
    Calls Tryz.prog 22 #[.agg #[.int .i64 d, .int .i64 a, .int .i64 t, .bool false], .string ⟨text.toArray⟩] w fun e w' => e = .returned (.bool true) ∧ Below w.heap.size w w' :=
  spaced_of (fun w hG hs => little_any w hG hs) d a t d1 d2 a1 a2 t1 t2 text hT w hG hs
end Go.Proofs.YtmgfijllcdadgabGreatDoor
