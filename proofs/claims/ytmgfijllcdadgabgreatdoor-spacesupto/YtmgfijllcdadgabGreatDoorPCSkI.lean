/- SkI, SkJ, SkK, BndA -/
import Derived.Test.YtmgfijllcdadgabGreatDoorPCSkG
import Derived.Test.YtmgfijllcdadgabGreatDoorPCNest5
import Derived.Test.YtmgfijllcdadgabGreatDoorPCSpaA
import Derived.Test.YtmgfijllcdadgabGreatDoorPCCompl
set_option linter.unusedVariables false
set_option linter.unusedSimpArgs false
namespace Go.Proofs.YtmgfijllcdadgabGreatDoor
open Go.RowKit
open Mk (St Bs Ev Att)
def GE (w : World) (v : Value) (l : List Ev) (fp : List Nat) (es : List (Ev × Value)) : Prop := es.map (·.1) = l ∧ w.ownsRow 0 53 5 v l.length (evsRow es) ∧ (∀ p ∈ es, (evRow p).owned w 0) ∧ (∀ k, v.ownBlock = some k → k ∈ fp) ∧ (∀ k ∈ blks (es.map evRow), k ∈ fp ∧ v.ownBlock ≠ some k)
theorem Got.cat {w w1 : World} {ov mv : Value} {acc m : List Ev} {fp fp2 : List Nat} {es es2 : List (Ev × Value)} (h1 : GE w ov acc fp es) (h2 : GE w mv m fp2 es2) (hd : ∀ k, ov.ownBlock = some k → k ∉ fp2) (hlt : ∀ k ∈ fp, k < w.heap.size) (hlt2 : ∀ k ∈ fp2, k < w.heap.size)
    {g cap : Nat} (hown : w1.ownsRow 0 53 5 (.slice (some ⟨g, 0, none⟩) (acc.length + m.length) cap) (acc.length + m.length) (evsRow es ++ evsRow es2)) (hgr : w.grownBy w1 ov.ownBlock) (hat : ov.ownBlock = some g ∨ g = w.heap.size) :
    Got w1 (.slice (some ⟨g, 0, none⟩) (acc.length + m.length) cap) (acc ++ m) (g :: (fp ++ fp2)) := by
  obtain ⟨e1, r1, a1, f1, b1⟩ := h1
  obtain ⟨e2, r2, a2, f2, b2⟩ := h2
  have ho := hown
  have hkeep : ∀ r : Row, r.owned w 0 → (∀ k, r.v.ownBlock = some k → ov.ownBlock ≠ some k) → r.owned w1 0 := fun r hr hne =>
    owned_keep hr fun k hk => hgr.block k (hr.lt k hk).2 fun e => hne k hk e.symm
  have hng : ∀ k, k < w.heap.size → ov.ownBlock ≠ some k → g ≠ k := fun k hk hne e => by
    subst e
    rcases hat with h | h
    · exact hne h
    · omega
  refine ⟨es ++ es2, by simp [e1, e2], ?_, fun p hp => ?_, fun k hk => ?_, fun k hk => ?_⟩
  · have e : evsRow (es ++ es2) = evsRow es ++ evsRow es2 := by simp [evsRow]
    rw [e, List.length_append]; exact ho
  · rcases List.mem_append.1 hp with hp | hp
    · exact hkeep _ (a1 p hp) fun k hk => (b1 k (mem_blks_of hp hk)).2
    · exact hkeep _ (a2 p hp) fun k hk e => hd k e (b2 k (mem_blks_of hp hk)).1
  · have e : g = k := by simpa [Value.ownBlock] using hk
    subst e; exact List.mem_cons_self
  · obtain ⟨r, hr, hv⟩ := List.mem_filterMap.1 hk
    obtain ⟨p, hp, rfl⟩ := List.mem_map.1 hr
    rcases List.mem_append.1 hp with hp | hp
    · have h7 := b1 k (mem_blks_of hp hv)
      refine ⟨List.mem_cons_of_mem _ (List.mem_append_left _ h7.1), fun e => ?_⟩
      have e : g = k := by simpa [Value.ownBlock] using e
      exact hng k (hlt k h7.1) h7.2 e
    · have h7 := b2 k (mem_blks_of hp hv)
      refine ⟨List.mem_cons_of_mem _ (List.mem_append_right _ h7.1), fun e => ?_⟩
      have e : g = k := by simpa [Value.ownBlock] using e
      exact hng k (hlt2 k h7.1) (fun e2 => hd k e2 h7.1) e
theorem ge_news {w : World} {ma : Option Addr} {mc : Nat} {m : List Ev} {fp : List Nat} {es : List (Ev × Value)} (h : GE w (.slice ma m.length mc) m fp es) (hm : 0 < m.length) : ∃ gm, ma = some ⟨gm, 0, none⟩ ∧ gm < w.heap.size ∧ (∀ j u, (evsRow es)[j]? = some u → w.cell? ((⟨gm, 0, none⟩ : Addr).add j) = some u) ∧ (∀ u ∈ evsRow es, u.oneCell' = true) ∧ (evsRow es).length = m.length * 5 := by
  obtain ⟨e1, r1, a1, f1, b1⟩ := h
  obtain ⟨g, c, hv, hgl⟩ : ∃ g c, (Value.slice ma m.length mc) = .slice (some ⟨g, 0, none⟩) m.length c ∧ g < w.heap.size := by
    rcases r1.2 with ⟨h8, h9⟩ | ⟨g', cap', cur, hv8, _, hg8, _⟩
    · omega
    · exact ⟨g', cap', hv8, (Array.getElem?_eq_some_iff.1 hg8).1⟩
  injection hv with hv _ hvc
  subst hv hvc
  have hlen : (evsRow es).length = m.length * 5 := by rw [evsRow_len, ← e1]; simp
  refine ⟨g, rfl, hgl, fun j u hj => ?_, fun u hu => ?_, hlen⟩
  · have hjl : j < m.length * 5 := by rw [← hlen]; exact (List.getElem?_eq_some_iff.1 hj).1
    have := spRow r1 j hjl
    rw [hj] at this
    by_cases h0 : j = 0
    · subst h0; simpa [Addr.add] using this
    · simpa [Addr.add, h0] using this
  · unfold evsRow at hu
    obtain ⟨p, hp, hu⟩ := List.mem_flatMap.1 hu
    have hs := slice_form (a1 p hp)
    obtain ⟨aa, ac, h2⟩ := hs
    have h2 : p.2 = .slice aa p.1.attrs.length ac := h2
    rw [h2] at hu
    simp [evCells] at hu
    rcases hu with rfl | rfl | rfl | rfl | rfl <;> rfl
structure RsP (l : List Ev) (i : Nat) (bs : List (Bs × Bs)) (ms : List Nat) (o : List Bs) : Prop where
  gd : GoodB bs
  sm : ms.sum = bs.length
  m32 : ∀ m ∈ ms, m ≤ 32
  st : ∃ h, shs Sh.zero (l.take i) = some h ∧ h.opn = o
  ln : ms.length = o.length
  ql : ∀ n ∈ o, Mk.isQualified n = true
theorem sum_le (ms : List Nat) (h : ∀ m ∈ ms, m ≤ 32) : ms.sum ≤ 32 * ms.length := by
  induction ms with
  | nil => simp
  | cons a r ih =>
    have h1 := h a List.mem_cons_self
    have h2 := ih fun m hm => h m (List.mem_cons_of_mem _ hm)
    simp only [List.sum_cons, List.length_cons]
    omega
theorem opGo_len : ∀ (l : List Att) (D E : List (Bs × Bs)), opGo l D = some E → E.length ≤ D.length + l.length
  | [], D, E, h => by cases h; simp
  | a :: r, D, E, h => by
    have e1 : opGo (a :: r) D = if !Mk.isQualified a.name then none else if Mk.isDecl a.name then (if Mk.isGood (Mk.declared a.name) a.val then opGo r (D ++ [(Mk.declared a.name, a.val)]) else none) else opGo r D := rfl
    rw [e1] at h
    split at h
    · cases h
    · split at h
      · split at h
        · have := opGo_len r _ E h
          simp at this ⊢
          omega
        · cases h
      · have := opGo_len r D E h
        simp
        omega
theorem RsP.start {l : List Ev} {i : Nat} {bs : List (Bs × Bs)} {ms : List Nat} {o : List Bs} (h : RsP l i bs ms o) (hi : i < l.length) (hk : l[i].kind = 1) {H : Sh} (hs : shs Sh.zero l = some H) (ha : H.att ≤ 32) {bs' : List (Bs × Bs)} {ms' : List Nat} {r : List Att} (hF : kStart ⟨xmlB :: bs, ms⟩ l[i].name l[i].attrs = some (⟨xmlB :: bs', ms'⟩, r)) : RsP l (i + 1) bs' ms' (o ++ [l[i].name]) := by
  have hd : l = l.take i ++ l[i] :: l.drop (i + 1) := by rw [← List.drop_eq_getElem_cons hi, List.take_append_drop]
  have hmono := (shs_mono l Sh.zero H hs (Nat.le_refl _)).2.2.2.2 l[i] (List.getElem_mem hi)
  rw [kStart_op] at hF
  cases hop : opGo l[i].attrs [] with
  | none => rw [hop] at hF; cases hF
  | some D =>
    rw [hop] at hF
    dsimp only at hF
    split at hF
    · cases hF
    · rename_i hq
      split at hF
      · cases hF
      · split at hF
        · cases hF
        · have hF := Option.some.inj hF
          have h1 : (⟨xmlB :: (bs ++ D), ms ++ [D.length]⟩ : Sc) = ⟨xmlB :: bs', ms'⟩ := congrArg Prod.fst hF
          have h2 : bs ++ D = bs' := by have := congrArg Sc.bnd h1; simpa using this
          have h3 : ms ++ [D.length] = ms' := congrArg Sc.cnt h1
          subst h2 h3
          obtain ⟨h0, hs0, ho0⟩ := h.st
          have hDl := opGo_len _ _ _ hop
          refine ⟨fun x hx => ?_, by simp [h.sm], fun m hm => ?_, ?_, by simp [h.ln], fun x hx => ?_⟩
          · rcases List.mem_append.1 hx with hx | hx
            · exact h.gd x hx
            · exact opGo_good _ _ _ hop (fun y hy => by cases hy) x hx
          · rcases List.mem_append.1 hm with hm | hm
            · exact h.m32 m hm
            · simp at hm; subst hm; simp at hDl; omega
          · have hs2 := hs
            rw [hd, shs_app, hs0] at hs2
            dsimp only at hs2
            rw [shs_cons] at hs2
            cases h1 : sh1 h0 l[i] with
            | none => rw [h1] at hs2; cases hs2
            | some h' =>
              refine ⟨h', ?_, ?_⟩
              · rw [List.take_succ_eq_append_getElem hi, shs_app, hs0]
                dsimp only
                rw [shs_cons, h1]
                rfl
              · obtain ⟨_, o', k1, _, rfl⟩ := sh1_inv h1
                unfold stk1 at k1
                rw [if_pos hk, ho0] at k1
                cases k1; rfl
          · rcases List.mem_append.1 hx with hx | hx
            · exact h.ql x hx
            · simp at hx; subst hx; simpa using hq
theorem RsP.end_ {l : List Ev} {i : Nat} {bs : List (Bs × Bs)} {ms : List Nat} {o : List Bs} (h : RsP l i bs ms o) (hi : i < l.length) (hk : l[i].kind = 2) {H : Sh} (hs : shs Sh.zero l = some H) : ∃ ms0 m, ms = ms0 ++ [m] ∧ m ≤ bs.length ∧ Mk.isQualified l[i].name = true ∧ RsP l (i + 1) (bs.take (bs.length - m)) ms0 o.dropLast := by
  have hd : l = l.take i ++ l[i] :: l.drop (i + 1) := by rw [← List.drop_eq_getElem_cons hi, List.take_append_drop]
  obtain ⟨h0, hs0, ho0⟩ := h.st
  have hs2 := hs
  rw [hd, shs_app, hs0] at hs2
  dsimp only at hs2
  rw [shs_cons] at hs2
  cases h1 : sh1 h0 l[i] with
  | none => rw [h1] at hs2; cases hs2
  | some h' =>
    obtain ⟨_, o', k1, _, hh'⟩ := sh1_inv h1
    obtain ⟨q, hq1, hq2⟩ := stk1_2 hk k1
    rw [ho0] at hq1
    have hol : ms.length = q.length + 1 := by rw [h.ln, hq1]; simp
    obtain ⟨ms0, m, hms⟩ : ∃ ms0 m, ms = ms0 ++ [m] := by
      rcases List.eq_nil_or_concat ms with g | ⟨a, b, g⟩
      · rw [g] at hol; simp at hol
      · exact ⟨a, b, by simpa using g⟩
    have hsum := h.sm
    rw [hms] at hsum
    simp at hsum
    refine ⟨ms0, m, hms, by omega, h.ql _ (by rw [hq1]; simp), ⟨fun x hx => h.gd x (List.mem_of_mem_take hx), by rw [List.length_take]; omega, fun x hx => h.m32 x (by rw [hms]; exact List.mem_append_left _ hx), ⟨h', ?_, ?_⟩, ?_, fun x hx => h.ql x (List.dropLast_subset _ hx)⟩⟩
    · rw [List.take_succ_eq_append_getElem hi, shs_app, hs0]
      dsimp only
      rw [shs_cons, h1]
      rfl
    · rw [hh', hq1]
      dsimp only
      rw [hq2]
      simp
    · rw [hq1]
      rw [hms] at hol
      simp at hol ⊢
      omega
theorem RsP.else_ {l : List Ev} {i : Nat} {bs : List (Bs × Bs)} {ms : List Nat} {o : List Bs} (h : RsP l i bs ms o) (hi : i < l.length) (hk1 : l[i].kind ≠ 1) (hk2 : l[i].kind ≠ 2) {H : Sh} (hs : shs Sh.zero l = some H) : RsP l (i + 1) bs ms o := by
  have hd : l = l.take i ++ l[i] :: l.drop (i + 1) := by rw [← List.drop_eq_getElem_cons hi, List.take_append_drop]
  obtain ⟨h0, hs0, ho0⟩ := h.st
  have hs2 := hs
  rw [hd, shs_app, hs0] at hs2
  dsimp only at hs2
  rw [shs_cons] at hs2
  cases h1 : sh1 h0 l[i] with
  | none => rw [h1] at hs2; cases hs2
  | some h' =>
    obtain ⟨_, o', k1, _, hh'⟩ := sh1_inv h1
    refine ⟨h.gd, h.sm, h.m32, ⟨h', ?_, ?_⟩, h.ln, h.ql⟩
    · rw [List.take_succ_eq_append_getElem hi, shs_app, hs0]
      dsimp only
      rw [shs_cons, h1]
      rfl
    · rw [hh']
      dsimp only
      unfold stk1 at k1
      rw [if_neg hk1, if_neg hk2] at k1
      split at k1
      · split at k1
        · cases k1
        · cases k1; exact ho0
      · cases k1; exact ho0
end Go.Proofs.YtmgfijllcdadgabGreatDoor
namespace Go.Proofs.YtmgfijllcdadgabGreatDoor
open Go.RowKit
open Mk (St Bs Ev Att)
theorem Got.at2 {w : World} {v : Value} {l : List Ev} {fp : List Nat} (hg : Got w v l fp) (k : Nat) (hk : k < l.length) :
    ∃ g c aa ac, v = .slice (some ⟨g, 0, none⟩) l.length c ∧ g < w.heap.size ∧ w.cell? ⟨g, k * 5, none⟩ = some (.int .i64 l[k].kind) ∧ w.cell? ⟨g, k * 5 + 1, none⟩ = some (.string ⟨l[k].name.toArray⟩) ∧ w.cell? ⟨g, k * 5 + 2, none⟩ = some (.string ⟨l[k].space.toArray⟩) ∧ w.cell? ⟨g, k * 5 + 3, none⟩ = some (.string ⟨l[k].val.toArray⟩) ∧ w.cell? ⟨g, k * 5 + 4, none⟩ = some (.slice aa l[k].attrs.length ac) ∧ AtsAt w aa l[k].attrs ∧ (evRow (l[k], .slice aa l[k].attrs.length ac)).owned w 0 := by
  obtain ⟨es, hl, ho, ha, _, _⟩ := hg.ex
  have n1 : es.length = l.length := by rw [← hl]; simp
  have k1 : k < es.length := by omega
  obtain ⟨g, d, f1, hlt, q⟩ := elem_cells (l := es) (fun p => evCells p.1 p.2) (fun _ => rfl) (by decide) ho n1.symm k k1
  have r1 : es[k].1 = l[k] := by simp only [← hl, List.getElem_map]
  have o1 := ha _ (List.getElem_mem k1)
  obtain ⟨aa, ac, h2⟩ := slice_form o1
  have o2 : w.ownsRow 0 112 3 es[k].2 es[k].1.attrs.length (atsRow es[k].1.attrs) := o1
  have h2 : es[k].2 = .slice aa es[k].1.attrs.length ac := h2
  rw [h2, r1] at o2
  have q0 := q 0 (by decide)
  have q1 := q 1 (by decide)
  have q2 := q 2 (by decide)
  have q3 := q 3 (by decide)
  have q4 := q 4 (by decide)
  rw [h2, r1] at q0 q1 q2 q3 q4
  exact ⟨g, d, aa, ac, f1, hlt, q0, q1, q2, q3, q4, AtsAt.of o2, o2⟩
structure RsI (w wx : World) (b : Nat) (bs : List (Bs × Bs)) (ms : List Nat) (L : SLay) (acc : List Ev) (ov : Value) (fp : List Nat) : Prop where
  bel : Below w.heap.size w wx
  sc : ScK w.heap.size wx b (bs.map (·.1)) (bs.map (·.2)) ms L
  got : Got wx ov acc fp
  ow : ∀ k, ov.ownBlock = some k → w.heap.size ≤ k
  ap : ∀ k ∈ fp, k < wx.heap.size ∧ k ≠ b ∧ k ∉ scF (bs.map (·.1)) (bs.map (·.2)) ms L
section
variable {w wx w1 w2 : World} {b : Nat} {bs bs' : List (Bs × Bs)} {ms ms' : List Nat} {L L' : SLay} {acc m : List Ev} {ov mv : Value} {fp fpm : List Nat} {f1 : List Nat}
theorem RsI.bel1 (R : RsI w wx b bs ms L acc ov fp) (hf : Fr wx w1 b (scF (bs.map (·.1)) (bs.map (·.2)) ms L) f1) : Below w.heap.size w w1 ∧ Got w1 ov acc fp := by
  have hb := R.sc.hb
  refine ⟨R.bel.trans ⟨hf.os, hf.tape, hf.output, hf.size, fun k hk => hf.block k (by have := R.bel.size; omega) (by omega) (fun hm => by have := (R.sc.rows.lt k hm).1; omega)⟩, R.got.keep fun k hk => ?_⟩
  have := R.ap k hk
  exact hf.block k this.1 this.2.1 this.2.2
theorem RsI.next (R : RsI w wx b bs ms L acc ov fp) (hs : ScK w.heap.size w1 b (bs'.map (·.1)) (bs'.map (·.2)) ms' L') (hf : Fr wx w1 b (scF (bs.map (·.1)) (bs.map (·.2)) ms L) (scF (bs'.map (·.1)) (bs'.map (·.2)) ms' L')) {es es2 : List (Ev × Value)} (h1 : GE w1 ov acc fp es) (hm : GE w1 mv m fpm es2) (hd : ∀ k, ov.ownBlock = some k → k ∉ fpm) (hfm : ∀ k ∈ fpm, k < w1.heap.size ∧ k ≠ b ∧ k ∉ scF (bs'.map (·.1)) (bs'.map (·.2)) ms' L')
    {g cap : Nat} (hown : w2.ownsRow 0 53 5 (.slice (some ⟨g, 0, none⟩) (acc.length + m.length) cap) (acc.length + m.length) (evsRow es ++ evsRow es2)) (hgr : w1.grownBy w2 ov.ownBlock) (hat : ov.ownBlock = some g ∨ g = w1.heap.size) (hgl : g < w2.heap.size) :
    RsI w w2 b bs' ms' L' (acc ++ m) (.slice (some ⟨g, 0, none⟩) (acc.length + m.length) cap) (g :: (fp ++ fpm)) := by
  obtain ⟨hb1, hg1⟩ := R.bel1 hf
  have hsz := hf.size
  have hwx := R.bel.size
  have hap1 : ∀ k ∈ fp, k < w1.heap.size ∧ k ≠ b ∧ k ∉ scF (bs'.map (·.1)) (bs'.map (·.2)) ms' L' := fun k hk => by
    have h := R.ap k hk
    refine ⟨by omega, h.2.1, fun hm => ?_⟩
    rcases hf.foot k hm with g | g
    · exact h.2.2 g
    · omega
  have hovf : ∀ k, ov.ownBlock = some k → k ∈ fp := R.got.own
  have hbl := BR.lt hs
  have hsl : ∀ k ∈ scF (bs'.map (·.1)) (bs'.map (·.2)) ms' L', k < w1.heap.size := fun k hk => (hs.rows.lt k hk).2
  refine ⟨hb1.trans ⟨hgr.os, hgr.tape, hgr.output, hgr.size, fun k hk => hgr.block k (by omega) fun e => by have := R.ow k e.symm; omega⟩, BR.keep hs fun k hk => hgr.block k (by
    rcases hk with rfl | hk
    · exact hbl
    · exact hsl k hk) fun e => ?_, Got.cat h1 hm hd (fun k hk => (hap1 k hk).1) (fun k hk => (hfm k hk).1) hown hgr hat, fun k hk => ?_, fun k hk => ?_⟩
  · have h := hap1 k (hovf k e.symm)
    rcases hk with hk | hk
    · exact h.2.1 hk
    · exact h.2.2 hk
  · have e : g = k := by simpa [Value.ownBlock] using hk
    subst e
    rcases hat with h | h
    · exact R.ow g h
    · omega
  · rcases List.mem_cons.1 hk with rfl | hk
    · rcases hat with h | h
      · have h2 := hap1 k (hovf k h)
        exact ⟨hgl, h2.2⟩
      · exact ⟨hgl, by omega, fun hm => by have := hsl k hm; omega⟩
    · have hz := hgr.size
      rcases List.mem_append.1 hk with hk | hk
      · have h2 := hap1 k hk
        exact ⟨by omega, h2.2⟩
      · have h2 := hfm k hk
        exact ⟨by omega, h2.2⟩
end
theorem RsP.small {l : List Ev} {i : Nat} {bs : List (Bs × Bs)} {ms : List Nat} {o : List Bs} (P : RsP l i bs ms o) {H : Sh} (hs : shs Sh.zero l = some H) (hdp : H.dep ≤ 64) : bs.length ≤ 2048 ∧ ms.length ≤ 64 := by
  obtain ⟨h, h1, h2⟩ := P.st
  have hs2 := hs
  rw [← List.take_append_drop i l, shs_app, h1] at hs2
  dsimp only at hs2
  have m1 := shs_mono (l.take i) Sh.zero h h1 (Nat.le_refl _)
  have m2 := shs_mono (l.drop i) h H hs2 m1.2.2.2.1
  have h3 := P.ln
  rw [← h2] at h3
  have h4 := P.sm
  have h5 := sum_le ms P.m32
  have h6 : ms.length ≤ 64 := by have := m1.2.2.2.1; omega
  exact ⟨by omega, h6⟩
theorem hasColon_eq : ∀ (n : Bs), Mk.hasColon n = n.any (· == 58)
  | [] => rfl
  | x :: r => by
    have h := hasColon_eq r
    unfold Mk.hasColon at h ⊢
    rw [colon_cons, List.any_cons]
    cases hx : (x == 58)
    · simp only [Bool.false_eq_true, if_false, Bool.false_or, List.length_cons, Nat.add_lt_add_iff_right]
      exact h
    · simp
theorem left_op (bs : List (Bs × Bs)) (ms0 : List Nat) (m : Nat) (hm : m ≤ bs.length) : kLeft ⟨xmlB :: bs, ms0 ++ [m]⟩ = ⟨xmlB :: bs.take (bs.length - m), ms0⟩ ∧ Sc.tag ⟨xmlB :: bs, ms0 ++ [m]⟩ = bs.drop (bs.length - m) := by
  have hf : Sc.fst ⟨xmlB :: bs, ms0 ++ [m]⟩ = (bs.length - m) + 1 := by
    unfold Sc.fst
    dsimp only
    rw [List.getLast?_concat]
    dsimp only
    rw [if_neg (by simp; omega)]
    simp
    omega
  unfold kLeft Sc.tag
  rw [hf]
  exact ⟨by simp, by simp⟩
theorem RsI.one {w wr w5 : World} {b : Nat} {bs : List (Bs × Bs)} {ms : List Nat} {L : SLay} {acc : List Ev} {ov : Value} {fp : List Nat} (R : RsI w wr b bs ms L acc ov fp) {x : Ev} {av : Value} (hev : (evRow (x, av)).owned w 0) {o : Obj} {g5 cap5 : Nat} (hown : w5.ownsRow 0 53 5 (.slice (some ⟨g5, 0, none⟩) 1 cap5) 1 (evCells x av)) (hgr : (wr.alloc o).grownBy w5 none) (hat : g5 = wr.heap.size + 1) :
    ScK w.heap.size w5 b (bs.map (·.1)) (bs.map (·.2)) ms L ∧ Fr wr w5 b (scF (bs.map (·.1)) (bs.map (·.2)) ms L) (scF (bs.map (·.1)) (bs.map (·.2)) ms L) ∧ GE w5 (.slice (some ⟨g5, 0, none⟩) 1 cap5) [x] (g5 :: av.ownBlock.toList) [(x, av)] ∧ (∀ k, ov.ownBlock = some k → k ∉ g5 :: av.ownBlock.toList) ∧ ∀ k ∈ g5 :: av.ownBlock.toList, k < w5.heap.size ∧ k ≠ b ∧ k ∉ scF (bs.map (·.1)) (bs.map (·.2)) ms L := by
  have hb : Below wr.heap.size wr w5 := ((Below.refl _ _).alloc (Nat.le_refl _) o).trans ((spBelowG hgr).mono (by simp))
  have hvl : ∀ k, av.ownBlock = some k → k < w.heap.size := fun k hk => (hev.lt k hk).2
  have hwx := R.bel.size
  have hbb := R.sc.hb
  have hbl := BR.lt R.sc
  have hg5 := (World.ownsRow.lt hown g5 rfl).2
  have hsl : ∀ k ∈ scF (bs.map (·.1)) (bs.map (·.2)) ms L, w.heap.size ≤ k ∧ k < wr.heap.size := fun k hk => R.sc.rows.lt k hk
  refine ⟨BR.below R.sc hb, ⟨hb.os, hb.tape, hb.output, hb.size, fun k hk _ _ => hb.block k hk, fun k hk => .inl hk⟩, ⟨rfl, by simpa [evsRow] using hown, fun p hp => ?_, fun k hk => ?_, fun k hk => ?_⟩, fun k hk hm => ?_, fun k hk => ?_⟩
  · simp at hp; subst hp
    refine owned_keep (w := w) hev fun k hk => ?_
    have := hvl k hk
    rw [hb.block k (by omega)]
    exact R.bel.block k this
  · have e : g5 = k := by simpa [Value.ownBlock] using hk
    subst e; exact List.mem_cons_self
  · obtain ⟨r, hr, hv⟩ := List.mem_filterMap.1 hk
    simp at hr; subst hr
    have hv : av.ownBlock = some k := hv
    have := hvl k hv
    refine ⟨List.mem_cons_of_mem _ (by rw [hv]; simp), fun e => ?_⟩
    have e : g5 = k := by simpa [Value.ownBlock] using e
    omega
  · have h1 := R.ap k (R.got.own k hk)
    have h2 := R.ow k hk
    rcases List.mem_cons.1 hm with rfl | hm
    · omega
    · have hv : av.ownBlock = some k := by simpa using hm
      have := hvl k hv
      omega
  · rcases List.mem_cons.1 hk with rfl | hk
    · exact ⟨hg5, by omega, fun hm => by have := hsl k hm; omega⟩
    · have hv : av.ownBlock = some k := by simpa using hk
      have := hvl k hv
      have := hb.size
      exact ⟨by omega, by omega, fun hm => by have := hsl k hm; omega⟩
set_option maxHeartbeats 8000000 in
set_option maxRecDepth 100000 in
theorem resolved_any {w : World} {v : Value} {l : List Ev} {fp : List Nat} {H : Sh} (hg : Got w v l fp) (hfp : ∀ k ∈ fp, k < w.heap.size) (hs : shs Sh.zero l = some H) (hdp : H.dep ≤ 64) (hat : H.att ≤ 32) (hl : l.length ≤ 100000000)
    (hb : ∀ e ∈ l, e.name.length ≤ 100000000 ∧ ∀ y ∈ e.attrs, y.space = [] ∧ y.name.length ≤ 100000000) (hka : ∀ e ∈ l, e.kind ≠ 1 → e.attrs = []) :
    Calls Tryz.prog 24 #[v] w fun e w' => ∃ v' fp', e = .returned (.tuple #[v', .bool (kRes Sc.zero [] l).2.2]) ∧ Got w' v' (kRes Sc.zero [] l).2.1 fp' ∧ (∀ k ∈ fp', k < w'.heap.size) ∧ Below w.heap.size w w' := by
  obtain ⟨FIN, hFIN⟩ : ∃ FIN, FIN = kRes Sc.zero [] l := ⟨_, rfl⟩
  rw [← hFIN]
  have HFN := hide hFIN
  obtain ⟨va, vc, hv⟩ := hg.slice
  subst hv
  have HG := hide hg
  have HFP := hide hfp
  have HS := hide hs
  have HB := hide hb
  have HKA := hide hka
  obtain ⟨i0, hi, hz0, hz1, hz2⟩ := info_parts infoEv
  clear hg hfp hs hb hka hFIN
  go_enter Tryz.func24, Tryz.ntmps24
  have hR0 : RsI w (w.alloc (.cells #[.slice none 0 0, .slice none 0 0, .slice none 0 0] 89)) w.heap.size [] [] ⟨none, 0, none, 0, none, 0⟩ [] (.slice none 0 0) [] :=
    ⟨(Below.refl _ _).alloc (Nat.le_refl _) _, ⟨heap_alloc_new w _, ⟨fun r hr => owned_nil (by simp [scRows, pRow, vRow, mRow] at hr; rcases hr with rfl | rfl <;> exact ⟨rfl, rfl, rfl⟩), by simp [scRows, pRow, vRow, mRow, blks, Value.ownBlock]⟩, by simp [scRows, pRow, vRow, mRow, blks, Value.ownBlock], Nat.le_refl _⟩, got_nil _, (fun k hk => by cases hk), (fun k hk => by cases hk)⟩
  have hP0 : RsP l 0 [] [] [] := ⟨(fun x hx => by cases hx), rfl, (fun m hm => by cases hm), ⟨Sh.zero, rfl, rfl⟩, rfl, (fun n hn => by cases hn)⟩
  have HR0 := hide hR0
  have HP0 := hide hP0
  clear hR0 hP0
  go_wp2_with fail
  go_loopg [5, 6] l.length (fun g s5 s6 wx => ∃ (i : Nat) (bs : List (Bs × Bs)) (ms : List Nat) (o : List Bs) (L : SLay) (acc : List Ev) (oa : Option Addr) (oc : Nat) (fp' : List Nat), i ≤ l.length ∧ g = l.length - i ∧ s5 = .slice oa acc.length oc ∧ s6 = .int .i64 i ∧ acc.length ≤ 34 * i ∧ Hid (RsI w wx w.heap.size bs ms L acc (.slice oa acc.length oc) fp') ∧ Hid (RsP l i bs ms o) ∧ Hid (FIN = kRes ⟨xmlB :: bs, ms⟩ acc (l.drop i)))
  case atStart => exact ⟨0, [], [], [], _, [], none, 0, [], by omega, rfl, rfl, rfl, by simp, unhide HR0, unhide HP0, unhide HFN⟩
  case round =>
    obtain ⟨i, bs, ms, o, L, acc, oa, oc, fp', hi', rfl, rfl, rfl, hacc, HR, HP, HF⟩ := hrel
    clear HR0 HP0
    by_cases h3 : i < l.length
    · have e1 : decide ((i : Int) < (l.length : Int)) = true := by simp; omega
      have hk1 : (i : Int) < (l.length : Int) := by omega
      obtain ⟨g, c, aa, ac, hva, hgl, c0, c1, c2, c3, c4, hats, hev⟩ := (unhide HG).at2 i h3
      injection hva with hva _ hvc
      subst hva hvc
      have hbel := (unhide HR).bel
      have hcw : ∀ j, wr.cell? ⟨g, j, none⟩ = w.cell? ⟨g, j, none⟩ := fun j => by simp only [World.cell?]; rw [hbel.block _ hgl]
      have hgl2 : g < wr.heap.size := by have := hbel.size; omega
      rw [← hcw] at c0 c1 c2 c3 c4
      have hatx := hats.keep hbel
      obtain ⟨hb1, hb2⟩ := unhide HB l[i] (List.getElem_mem h3)
      have hka := unhide HKA l[i] (List.getElem_mem h3)
      have hsm := (unhide HP).small (unhide HS) hdp
      have hatt := ((shs_mono l Sh.zero H (unhide HS) (Nat.le_refl _)).2.2.2.2 l[i] (List.getElem_mem h3)).1
      have hf := unhide HF
      have hkr : ∀ (x : Ev) r, kRes ⟨xmlB :: bs, ms⟩ acc (x :: r) = match kOne ⟨xmlB :: bs, ms⟩ x with | none => (⟨xmlB :: bs, ms⟩, acc, false) | some (c', m) => kRes c' (acc ++ m) r := fun _ _ => rfl
      rw [List.drop_eq_getElem_cons h3, hkr] at hf
      have hPs := fun hk bs' ms' r hF => (unhide HP).start (bs' := bs') (ms' := ms') (r := r) h3 hk (unhide HS) hat hF
      have hPe := fun hk => (unhide HP).end_ h3 hk (unhide HS)
      have hPo := fun hk1 hk2 => (unhide HP).else_ h3 hk1 hk2 (unhide HS)
      generalize l[i] = x at *
      have hda : ∀ g', aa = some ⟨g', 0, none⟩ → g' ≠ w.heap.size ∧ g' ∉ scF (bs.map (·.1)) (bs.map (·.2)) ms L := fun g' hg' => by
        have h1 : g' < w.heap.size := (hev.lt g' (by show (Value.slice aa x.attrs.length ac).ownBlock = some g'; rw [hg']; rfl)).2
        exact ⟨by omega, fun hm => by have := ((unhide HR).sc.rows.lt g' hm).1; omega⟩
      clear hcw hkr HF hats
      by_cases hk1' : x.kind = 1
      · have t1 : (x.kind == 1) = true := by simpa using hk1'
        have HOp := hide (opens_any (c := ac) (unhide HR).sc (unhide HP).gd (by omega) (by omega) hatx hda hb2 (by omega) 1 x.name x.space x.val hb1)
        have hko : kOne ⟨xmlB :: bs, ms⟩ x = match kStart ⟨xmlB :: bs, ms⟩ x.name x.attrs with | none => none | some (c', l) => some (c', kTold c' x.name l) := by
          unfold kOne
          rw [if_pos hk1']
          cases kStart ⟨xmlB :: bs, ms⟩ x.name x.attrs <;> rfl
        rw [hko] at hf
        have HF := hide hf
        have HPS := hide (hPs hk1')
        have HM34 : Hid (∀ bs' ms' r, kStart ⟨xmlB :: bs, ms⟩ x.name x.attrs = some (⟨xmlB :: bs', ms'⟩, r) → (kTold ⟨xmlB :: bs', ms'⟩ x.name r).length ≤ 34) := fun bs' ms' r hF => by
          rw [kStart_op] at hF
          cases hop : opGo x.attrs [] with
          | none => rw [hop] at hF; cases hF
          | some D =>
            rw [hop] at hF
            dsimp only at hF
            split at hF
            · cases hF
            · split at hF
              · cases hF
              · split at hF
                · cases hF
                · have hF := Option.some.inj hF
                  have h1 : (⟨xmlB :: (bs ++ D), ms ++ [D.length]⟩ : Sc) = ⟨xmlB :: bs', ms'⟩ := congrArg Prod.fst hF
                  rw [← h1]
                  unfold kTold
                  rw [tag_op]
                  have := opGo_len _ _ _ hop
                  simp [kBinds] at this ⊢
                  omega
        clear hf hko hPs hPe hPo hda hatx hev hb1 hb2 hka
        go_wp2_with fail
        refine (unhide HOp).mono ?_
        rintro e w1 (⟨hF0, ⟨mv, rfl⟩, hfr⟩ | ⟨bs', ms', r, L', mv, fpm, hF0, hgd', rfl, hs', hfr, hgm, hfpm⟩)
        · have hfin := unhide HF
          rw [hF0] at hfin
          have hfin : FIN = (⟨xmlB :: bs, ms⟩, acc, false) := hfin
          have HF2 := hide hfin
          have hK := (unhide HR).bel1 hfr
          have HK := hide (And.intro hK hfr.size)
          clear hfin hF0 hfr hK
          go_wp2
          go_ret2
          rw [unhide HF2]
          exact ⟨_, fp', rfl, (unhide HK).1.2, fun k hk => by have := ((unhide HR).ap k hk).1; have := (unhide HK).2; omega, (unhide HK).1.1⟩
        · have hfin := unhide HF
          rw [hF0] at hfin
          have hfin : FIN = kRes ⟨xmlB :: bs', ms'⟩ (acc ++ kTold ⟨xmlB :: bs', ms'⟩ x.name r) (l.drop (i + 1)) := hfin
          have HF2 := hide hfin
          have HP2 := hide (unhide HPS bs' ms' r hF0)
          obtain ⟨ma, mc, rfl⟩ := hgm.slice
          have HRS := hide (And.intro hs' (And.intro hfr (And.intro hgm hfpm)))
          have hmidl : 0 < (kTold ⟨xmlB :: bs', ms'⟩ x.name r).length := by simp [kTold]
          have hml33 : (kTold ⟨xmlB :: bs', ms'⟩ x.name r).length ≤ 34 := unhide HM34 bs' ms' r hF0
          obtain ⟨M, hM⟩ : ∃ M, M = kTold ⟨xmlB :: bs', ms'⟩ x.name r := ⟨_, rfl⟩
          rw [← hM] at hgm hmidl hml33 hfin
          clear HF2
          have HF2 := hide hfin
          rw [← hM]
          clear hM HRS
          have hd : ∀ k, (Value.slice oa acc.length oc).ownBlock = some k → k ∉ fpm := fun k hk hm => by
            have h1 := (unhide HR).ap k ((unhide HR).got.own k hk)
            have h2 := hfpm k hm
            omega
          have hfm := fun k hk => (hfpm k hk).2
          have hmid := (unhide HR).bel1 hfr
          obtain ⟨es, x1⟩ := hmid.2.ex
          obtain ⟨es2, x2⟩ := hgm.ex
          have x1 : GE w1 (.slice oa acc.length oc) acc fp' es := x1
          have x2 : GE w1 (.slice ma M.length mc) M fpm es2 := x2
          obtain ⟨gm, rfl, hgml, hnews, hone, hlen2⟩ := ge_news x2 hmidl
          have HX := hide (And.intro x1 (And.intro x2 (And.intro hd (And.intro hfm (And.intro hs' hfr)))))
          have HO := hide x1.2.1
          have HNW := hide hnews
          have HON := hide hone
          have HLN := hide hlen2
          have H63 := hide (show acc.length + M.length ≤ maxLen by unfold maxLen; omega)
          clear hfin hF0 hs' hfr hgm hfpm hmid x1 x2 hnews hone hlen2 hd hfm
          go_wp2_with (at_builtin; refine wpList_append_lies _ rfl (.tmp 85) (.tmp 86) 35 rfl 0 53 i0 _ 5 80 Tryz.underlying35 hi hz0 hz1 hz2 rfl (by decide) (.slice oa acc.length oc) acc.length (evsRow es) (by simp [Act.eval]) (unhide HO) ⟨gm, 0, none⟩ M.length mc (evsRow es2) (by simp [Act.eval]) (unhide HLN) (unhide HNW) (unhide HON) hmidl (unhide H63) (by omega) (Nat.zero_le _) w1.heap.size rfl ?_; intro g9 cap9 w9 hown hgrow hat9 hlt9; have HNX := hide (RsI.next (unhide HR) (unhide HX).2.2.2.2.1 (unhide HX).2.2.2.2.2 (unhide HX).1 (unhide HX).2.1 (unhide HX).2.2.1 (unhide HX).2.2.2.1 hown hgrow hat9 hlt9); clear hown hgrow hat9)
          go_roundg (l.length - (i + 1))
          case measure => omega
          case rel => exact ⟨i + 1, bs', ms', (o ++ [x.name]), L', acc ++ M, some ⟨g9, 0, none⟩, cap9, _, by omega, rfl, by simp, by simp, by simp; omega, by show RsI _ _ _ _ _ _ _ _ _; simpa using unhide HNX, unhide HP2, unhide HF2⟩
      · by_cases hk2' : x.kind = 2
        · obtain ⟨ms0, m, hms, hm, hqn, hP'⟩ := hPe hk2'
          subst hms
          have HCl := hide (closes_any (a := aa) (c := ac) (l := x.attrs.length) (unhide HR).sc hm (by omega) (by simp at hsm; omega) 2 x.name x.space x.val hb1 hqn)
          have hko : kOne ⟨xmlB :: bs, ms0 ++ [m]⟩ x = some (⟨xmlB :: bs.take (bs.length - m), ms0⟩, ⟨2, x.name, lkS bs (Mk.prefixOf x.name), [], []⟩ :: kUnbinds ((bs.drop (bs.length - m)).reverse)) := by
            unfold kOne
            rw [if_neg hk1', if_pos hk2', if_neg (by simp), (left_op bs ms0 m hm).1]
            unfold kEnd
            rw [(left_op bs ms0 m hm).2]
            dsimp only
            rw [look_value (unhide HP).gd]
          rw [hko] at hf
          dsimp only at hf
          have hm32 : m ≤ 32 := (unhide HP).m32 m (by simp)
          have HP2 := hide hP'
          obtain ⟨M, hM⟩ : ∃ M : List Ev, M = ⟨2, x.name, lkS bs (Mk.prefixOf x.name), [], []⟩ :: kUnbinds ((bs.drop (bs.length - m)).reverse) := ⟨_, rfl⟩
          have hmidl : 0 < M.length := by rw [hM]; simp
          have hml33 : M.length ≤ 34 := by rw [hM]; simp [kUnbinds]; omega
          have HM := hide hM
          rw [← hM] at hf
          have HF2 := hide hf
          clear hf hko hPs hPe hPo hda hatx hev hb1 hb2 hka hP' hM
          go_wp2_with fail
          refine (unhide HCl).mono ?_
          rintro e w1 ⟨L', mv, fpm, rfl, hs', hfr, hgm, hfpm⟩
          rw [← unhide HM] at hgm
          obtain ⟨ma, mc, rfl⟩ := hgm.slice
          have hd : ∀ k, (Value.slice oa acc.length oc).ownBlock = some k → k ∉ fpm := fun k hk hm => by
            have h1 := (unhide HR).ap k ((unhide HR).got.own k hk)
            have h2 := hfpm k hm
            omega
          have hfm := fun k hk => (hfpm k hk).2
          have hmid := (unhide HR).bel1 hfr
          obtain ⟨es, x1⟩ := hmid.2.ex
          obtain ⟨es2, x2⟩ := hgm.ex
          have x1 : GE w1 (.slice oa acc.length oc) acc fp' es := x1
          have x2 : GE w1 (.slice ma M.length mc) M fpm es2 := x2
          obtain ⟨gm, rfl, hgml, hnews, hone, hlen2⟩ := ge_news x2 hmidl
          have HX := hide (And.intro x1 (And.intro x2 (And.intro hd (And.intro hfm (And.intro hs' hfr)))))
          have HO := hide x1.2.1
          have HNW := hide hnews
          have HON := hide hone
          have HLN := hide hlen2
          have H63 := hide (show acc.length + M.length ≤ maxLen by unfold maxLen; omega)
          clear hs' hfr hgm hfpm hmid x1 x2 hnews hone hlen2 hd hfm
          go_wp2_with (at_builtin; refine wpList_append_lies _ rfl (.tmp 85) (.tmp 86) 35 rfl 0 53 i0 _ 5 80 Tryz.underlying35 hi hz0 hz1 hz2 rfl (by decide) (.slice oa acc.length oc) acc.length (evsRow es) (by simp [Act.eval]) (unhide HO) ⟨gm, 0, none⟩ M.length mc (evsRow es2) (by simp [Act.eval]) (unhide HLN) (unhide HNW) (unhide HON) hmidl (unhide H63) (by omega) (Nat.zero_le _) w1.heap.size rfl ?_; intro g9 cap9 w9 hown hgrow hat9 hlt9; have HNX := hide (RsI.next (unhide HR) (unhide HX).2.2.2.2.1 (unhide HX).2.2.2.2.2 (unhide HX).1 (unhide HX).2.1 (unhide HX).2.2.1 (unhide HX).2.2.2.1 hown hgrow hat9 hlt9); clear hown hgrow hat9)
          go_roundg (l.length - (i + 1))
          case measure => omega
          case rel => exact ⟨i + 1, (bs.take (bs.length - m)), ms0, o.dropLast, L', acc ++ M, some ⟨g9, 0, none⟩, cap9, _, by omega, rfl, by simp, by simp, by simp; omega, by show RsI _ _ _ _ _ _ _ _ _; simpa using unhide HNX, unhide HP2, unhide HF2⟩
        · have hP' := hPo hk1' hk2'
          have hno := hka hk1'
          have t1 : (x.kind == 1) = false := by simpa using hk1'
          have t2 : (x.kind == 2) = false := by simpa using hk2'
          have HP2 := hide hP'
          have HEV := hide hev
          have hkon : kOne ⟨xmlB :: bs, ms⟩ x = if x.kind = 5 then (if Mk.hasColon x.name then none else some (⟨xmlB :: bs, ms⟩, [x])) else some (⟨xmlB :: bs, ms⟩, [x]) := by unfold kOne; rw [if_neg hk1', if_neg hk2']
          rw [hkon] at hf
          by_cases hk5 : x.kind = 5
          · have t5 : (x.kind == 5) = true := by simpa using hk5
            rw [if_pos hk5] at hf
            have hcl := hasColon_eq x.name
            have HCL := hide hcl
            have HF := hide hf
            clear hf hkon hPs hPe hPo hda hatx hev hb2 hka hP' hk1' hk2' hno hcl hk5
            go_wp2_with fail
            go_loopg [8, 9] x.name.length (fun g s8 s9 wx => ∃ (k : Nat) (B : Bool), wx = wr ∧ k ≤ x.name.length ∧ g = x.name.length - k ∧ s8 = .bool B ∧ s9 = .int .i64 k ∧ Hid (B = !((x.name.take k).any (· == 58))))
            case atStart => exact ⟨0, true, rfl, by omega, rfl, rfl, rfl, rfl⟩
            case round =>
              obtain ⟨k, B, hwr, hk, rfl, rfl, rfl, HK⟩ := hrel
              obtain rfl := hwr.symm
              by_cases h7 : k < x.name.length
              · have f1 : decide ((k : Int) < (x.name.length : Int)) = true := by simp; omega
                have f2 : (k : Int) < (x.name.length : Int) := by omega
                obtain ⟨y, hy⟩ : ∃ y, x.name[k]? = some y := ⟨x.name[k], by simp [h7]⟩
                have hsa : ∀ h, (ByteArray.mk x.name.toArray)[k]'h = y := fun h => (List.getElem?_eq_some_iff.1 hy).2
                have hyk : x.name[k] = y := (List.getElem?_eq_some_iff.1 hy).2
                have hu := spByte y 58 (by omega)
                have hn : (!((x.name.take (k + 1)).any (· == 58))) = (B && !(y == 58)) := by
                  rw [List.take_succ_eq_append_getElem h7, List.any_append, unhide HK, hyk]
                  simp
                have HN := hide hn
                have e58 : ((y.toNat : Int) == 58) = (y == 58) := hu
                have e59 : ((y.toNat : Int) != 58) = !(y == 58) := by rw [bne, e58]
                clear hn hu hy HK hyk
                generalize (y == 58) = Y at *
                cases B <;> cases Y
                all_goals
                  go_wp2
                  go_roundg (x.name.length - (k + 1))
                  case measure => omega
                  case rel => exact ⟨k + 1, _, rfl, by omega, rfl, rfl, by simp, by show _ = _; rw [unhide HN]; rfl⟩
              · have f1 : decide ((k : Int) < (x.name.length : Int)) = false := by simp; omega
                have f3 : decide (k < x.name.length) = false := by simp; omega
                have hB := unhide HK
                rw [List.take_of_length_le (by omega), ← unhide HCL] at hB
                have hC2 : Mk.hasColon x.name = false ∨ Mk.hasColon x.name = true := by cases Mk.hasColon x.name <;> simp
                rcases hC2 with hC | hC
                · have hB2 : B = true := by rw [hB, hC]; rfl
                  clear hB
                  subst hB2
                  have hf := unhide HF
                  rw [hC] at hf
                  have hf : FIN = kRes ⟨xmlB :: bs, ms⟩ (acc ++ [x]) (l.drop (i + 1)) := hf
                  have HF2 := hide hf
                  clear hf HK hC
                  have HOa := hide (show (wr.alloc (.cells #[.int .i64 x.kind, .string ⟨x.name.toArray⟩, .string ⟨x.space.toArray⟩, .string ⟨x.val.toArray⟩, .slice aa x.attrs.length ac] 53)).ownsRow 0 53 5 (.slice none 0 0) 0 [] from owned_nil (r := ⟨53, 5, .slice none 0 0, 0, []⟩) ⟨rfl, rfl, rfl⟩)
                  have HBa := hide (show (wr.alloc (.cells #[.int .i64 x.kind, .string ⟨x.name.toArray⟩, .string ⟨x.space.toArray⟩, .string ⟨x.val.toArray⟩, .slice aa x.attrs.length ac] 53)).heap[wr.heap.size]? = _ from heap_alloc_new wr _)
                  have H63 := hide (show acc.length + 1 ≤ maxLen by unfold maxLen; omega)
                  go_wp2_with (at_builtin; first | (refine wpList_append_lies _ rfl (.tmp 75) (.tmp 80) 35 rfl 0 53 i0 _ 5 80 Tryz.underlying35 hi hz0 hz1 hz2 rfl (by decide) (.slice none 0 0) 0 [] (by simp [Act.eval]) (unhide HOa) ⟨wr.heap.size, 0, none⟩ 1 1 (evCells x (.slice aa x.attrs.length ac)) (by simp [Act.eval]) rfl (World.news_of_block (unhide HBa)) (by intro u hu; simp [evCells] at hu; rcases hu with rfl | rfl | rfl | rfl | rfl <;> rfl) (by decide) (by unfold maxLen; decide) (by decide) (Nat.zero_le _) (wr.heap.size + 1) (by simp) ?_; intro g5 cap5 w1 hown hgrow hat5 hlt5; obtain ⟨hs', hfr, x2, hd, hfm⟩ := RsI.one (unhide HR) (unhide HEV) hown hgrow (by rcases hat5 with h | h; cases h; exact h); have hmid := (unhide HR).bel1 hfr; obtain ⟨es, x1⟩ := hmid.2.ex; have x1 : GE w1 (.slice oa acc.length oc) acc fp' es := x1; obtain ⟨gm, hgm, hgml, hnews, hone, hlen2⟩ := ge_news x2 (by simp); injection hgm with hgm; injection hgm with hgm _ _; subst hgm; have HX := hide (And.intro x1 (And.intro x2 (And.intro hd (And.intro hfm (And.intro hs' hfr))))); have HO := hide x1.2.1; have HNW := hide hnews; have HON := hide hone; clear hown hgrow hat5 hs' hfr x1 x2 hd hfm hmid hnews hone hlen2 hgml) | (refine wpList_append_lies _ rfl (.tmp 85) (.tmp 86) 35 rfl 0 53 i0 _ 5 80 Tryz.underlying35 hi hz0 hz1 hz2 rfl (by decide) (.slice oa acc.length oc) acc.length (evsRow es) (by simp [Act.eval]) (unhide HO) ⟨g5, 0, none⟩ 1 cap5 (evsRow [(x, Value.slice aa x.attrs.length ac)]) (by simp [Act.eval]) rfl (unhide HNW) (unhide HON) (by decide) (unhide H63) (by omega) (Nat.zero_le _) w1.heap.size rfl ?_; intro g9 cap9 w9 hown hgrow hat9 hlt9; have HNX := hide (RsI.next (unhide HR) (unhide HX).2.2.2.2.1 (unhide HX).2.2.2.2.2 (unhide HX).1 (unhide HX).2.1 (unhide HX).2.2.1 (unhide HX).2.2.2.1 hown hgrow hat9 hlt9); clear hown hgrow hat9))
                  go_roundg (l.length - (i + 1))
                  case measure => omega
                  case rel => exact ⟨i + 1, bs, ms, o, L, acc ++ [x], some ⟨g9, 0, none⟩, cap9, _, by omega, rfl, by simp, by simp, by simp; omega, by show RsI _ _ _ _ _ _ _ _ _; simpa using unhide HNX, unhide HP2, unhide HF2⟩
                · have hB2 : B = false := by rw [hB, hC]; rfl
                  clear hB
                  subst hB2
                  have hf := unhide HF
                  rw [hC] at hf
                  have hf : FIN = (⟨xmlB :: bs, ms⟩, acc, false) := hf
                  have HF2 := hide hf
                  clear hf HK hC
                  have HOa := hide (show (wr.alloc (.cells #[.int .i64 x.kind, .string ⟨x.name.toArray⟩, .string ⟨x.space.toArray⟩, .string ⟨x.val.toArray⟩, .slice aa x.attrs.length ac] 53)).ownsRow 0 53 5 (.slice none 0 0) 0 [] from owned_nil (r := ⟨53, 5, .slice none 0 0, 0, []⟩) ⟨rfl, rfl, rfl⟩)
                  have HBa := hide (show (wr.alloc (.cells #[.int .i64 x.kind, .string ⟨x.name.toArray⟩, .string ⟨x.space.toArray⟩, .string ⟨x.val.toArray⟩, .slice aa x.attrs.length ac] 53)).heap[wr.heap.size]? = _ from heap_alloc_new wr _)
                  have H63 := hide (show acc.length + 1 ≤ maxLen by unfold maxLen; omega)
                  go_wp2_with (at_builtin; (refine wpList_append_lies _ rfl (.tmp 75) (.tmp 80) 35 rfl 0 53 i0 _ 5 80 Tryz.underlying35 hi hz0 hz1 hz2 rfl (by decide) (.slice none 0 0) 0 [] (by simp [Act.eval]) (unhide HOa) ⟨wr.heap.size, 0, none⟩ 1 1 (evCells x (.slice aa x.attrs.length ac)) (by simp [Act.eval]) rfl (World.news_of_block (unhide HBa)) (by intro u hu; simp [evCells] at hu; rcases hu with rfl | rfl | rfl | rfl | rfl <;> rfl) (by decide) (by unfold maxLen; decide) (by decide) (Nat.zero_le _) (wr.heap.size + 1) (by simp) ?_; intro g5 cap5 w1 hown hgrow hat5 hlt5; obtain ⟨hs', hfr, x2, hd, hfm⟩ := RsI.one (unhide HR) (unhide HEV) hown hgrow (by rcases hat5 with h | h; cases h; exact h); have hmid := (unhide HR).bel1 hfr; obtain ⟨es, x1⟩ := hmid.2.ex; have x1 : GE w1 (.slice oa acc.length oc) acc fp' es := x1; obtain ⟨gm, hgm, hgml, hnews, hone, hlen2⟩ := ge_news x2 (by simp); injection hgm with hgm; injection hgm with hgm _ _; subst hgm; have HX := hide (And.intro x1 (And.intro x2 (And.intro hd (And.intro hfm (And.intro hs' hfr))))); have HO := hide x1.2.1; have HNW := hide hnews; have HON := hide hone; clear hown hgrow hat5 hs' hfr x1 x2 hd hfm hmid hnews hone hlen2 hgml))
                  go_ret2
                  have hmid := (unhide HR).bel1 (unhide HX).2.2.2.2.2
                  exact ⟨_, rfl, fp', hmid.2, fun k hk => by have := ((unhide HR).ap k hk).1; have := (unhide HX).2.2.2.2.2.size; omega, hmid.1⟩
          · have t5 : (x.kind == 5) = false := by simpa using hk5
            rw [if_neg hk5] at hf
            dsimp only at hf
            have HF2 := hide hf
            clear hf hkon hPs hPe hPo hda hatx hev hb1 hb2 hka hP' hk1' hk2' hk5 hno
            have HOa := hide (show (wr.alloc (.cells #[.int .i64 x.kind, .string ⟨x.name.toArray⟩, .string ⟨x.space.toArray⟩, .string ⟨x.val.toArray⟩, .slice aa x.attrs.length ac] 53)).ownsRow 0 53 5 (.slice none 0 0) 0 [] from owned_nil (r := ⟨53, 5, .slice none 0 0, 0, []⟩) ⟨rfl, rfl, rfl⟩)
            have HBa := hide (show (wr.alloc (.cells #[.int .i64 x.kind, .string ⟨x.name.toArray⟩, .string ⟨x.space.toArray⟩, .string ⟨x.val.toArray⟩, .slice aa x.attrs.length ac] 53)).heap[wr.heap.size]? = _ from heap_alloc_new wr _)
            have H63 := hide (show acc.length + 1 ≤ maxLen by unfold maxLen; omega)
            go_wp2_with (at_builtin; first | (refine wpList_append_lies _ rfl (.tmp 23) (.tmp 28) 35 rfl 0 53 i0 _ 5 80 Tryz.underlying35 hi hz0 hz1 hz2 rfl (by decide) (.slice none 0 0) 0 [] (by simp [Act.eval]) (unhide HOa) ⟨wr.heap.size, 0, none⟩ 1 1 (evCells x (.slice aa x.attrs.length ac)) (by simp [Act.eval]) rfl (World.news_of_block (unhide HBa)) (by intro u hu; simp [evCells] at hu; rcases hu with rfl | rfl | rfl | rfl | rfl <;> rfl) (by decide) (by unfold maxLen; decide) (by decide) (Nat.zero_le _) (wr.heap.size + 1) (by simp) ?_; intro g5 cap5 w1 hown hgrow hat5 hlt5; obtain ⟨hs', hfr, x2, hd, hfm⟩ := RsI.one (unhide HR) (unhide HEV) hown hgrow (by rcases hat5 with h | h; cases h; exact h); have hmid := (unhide HR).bel1 hfr; obtain ⟨es, x1⟩ := hmid.2.ex; have x1 : GE w1 (.slice oa acc.length oc) acc fp' es := x1; obtain ⟨gm, hgm, hgml, hnews, hone, hlen2⟩ := ge_news x2 (by simp); injection hgm with hgm; injection hgm with hgm _ _; subst hgm; have HX := hide (And.intro x1 (And.intro x2 (And.intro hd (And.intro hfm (And.intro hs' hfr))))); have HO := hide x1.2.1; have HNW := hide hnews; have HON := hide hone; clear hown hgrow hat5 hs' hfr x1 x2 hd hfm hmid hnews hone hlen2 hgml) | (refine wpList_append_lies _ rfl (.tmp 85) (.tmp 86) 35 rfl 0 53 i0 _ 5 80 Tryz.underlying35 hi hz0 hz1 hz2 rfl (by decide) (.slice oa acc.length oc) acc.length (evsRow es) (by simp [Act.eval]) (unhide HO) ⟨g5, 0, none⟩ 1 cap5 (evsRow [(x, Value.slice aa x.attrs.length ac)]) (by simp [Act.eval]) rfl (unhide HNW) (unhide HON) (by decide) (unhide H63) (by omega) (Nat.zero_le _) w1.heap.size rfl ?_; intro g9 cap9 w9 hown hgrow hat9 hlt9; have HNX := hide (RsI.next (unhide HR) (unhide HX).2.2.2.2.1 (unhide HX).2.2.2.2.2 (unhide HX).1 (unhide HX).2.1 (unhide HX).2.2.1 (unhide HX).2.2.2.1 hown hgrow hat9 hlt9); clear hown hgrow hat9))
            go_roundg (l.length - (i + 1))
            case measure => omega
            case rel => exact ⟨i + 1, bs, ms, o, L, acc ++ [x], some ⟨g9, 0, none⟩, cap9, _, by omega, rfl, by simp, by simp, by simp; omega, by show RsI _ _ _ _ _ _ _ _ _; simpa using unhide HNX, unhide HP2, unhide HF2⟩
    · have e1 : decide ((i : Int) < (l.length : Int)) = false := by simp; omega
      have hf := unhide HF
      rw [List.drop_of_length_le (by omega)] at hf
      have hf : FIN = (⟨xmlB :: bs, ms⟩, acc, true) := hf
      have HF2 := hide hf
      clear hf
      go_wp2
      go_ret2
      rw [unhide HF2]
      exact ⟨_, fp', rfl, (unhide HR).got, fun k hk => ((unhide HR).ap k hk).1, (unhide HR).bel⟩
end Go.Proofs.YtmgfijllcdadgabGreatDoor
namespace Go.Proofs.YtmgfijllcdadgabGreatDoor
open Go.RowKit
open Mk (St Bs Ev Att)
set_option maxHeartbeats 8000000 in
set_option maxRecDepth 100000 in
theorem unspaced_any (d a t : Int) (d1 : 1 ≤ d) (d2 : d ≤ 64) (a1 : 0 ≤ a) (a2 : a ≤ 32) (t1 : 8 ≤ t) (t2 : t ≤ 1024) (p0 : Bs) (x0 : UInt8) (hT : (p0 ++ [x0]).length ≤ 1048576) (h0 : (Mk.feedAll (Mk.make_ d a t false) (p0 ++ [x0])).ended = 0) {EV : List Ev} {c0 : Sc}
    (hk : kRes Sc.zero [] (wT (Mk.feedAll (Mk.make_ d a t false) (compl (Mk.make_ d a t false) (p0 ++ [x0])))) = (c0, EV, false)) (hx0 : (x0.toNat : Int) = 47 ∨ (x0.toNat : Int) = 62 ∨ (x0.toNat : Int) = 63 ∨ Mk.isSpace (x0.toNat : Int) = true) (w : World) {va : Option Addr} {vc : Nat} {fpe : List Nat} (hve : Got w (.slice va EV.length vc) EV fpe) (hfpe : ∀ k ∈ fpe, k < w.heap.size) (hG : Gl w) (hs : 6 < w.heap.size) :
    Calls Tryz.prog 44 #[.agg #[.int .i64 d, .int .i64 a, .int .i64 t, .bool false], .string ⟨(p0 ++ [x0]).toArray⟩, .slice va EV.length vc] w fun e w' => e = .returned (.bool true) ∧ Below w.heap.size w w' := by
  obtain ⟨T, hTT⟩ : ∃ T, T = p0 ++ [x0] := ⟨_, rfl⟩
  rw [← hTT] at hT h0 hk ⊢
  have hdoc := compl_doc d a t d1 t1 a2 T
  have hDl : (compl (Mk.make_ d a t false) T).length ≤ 1120000 := by
    have h1 := upTo_len (Mk.make_ d a t false) T
    have h2 := rest_short (W_text d a t false d1 t1 a2 T) (by rw [(opts_feedAll d a t false _).1]; exact d2) (by rw [(opts_feedAll d a t false _).2.1]; exact t2)
    unfold compl
    rw [List.length_append]
    have := h2.1
    omega
  obtain ⟨⟨H, hH1, hH2, hH3⟩, hlen, hbn, hka, hev⟩ := off_facts d a t d1 d2 t1 a1 a2 (compl (Mk.make_ d a t false) T) hDl
  have HCP := hide (fun w hG hs => completed_any d a t false d1 d2 a1 a2 t1 t2 T hT w hG hs)
  have HN := hide (fun w => new_any d a t false d1 d2 a1 a2 t1 t2 w)
  have HINV := hide (inv_make d a t false a2)
  have HFEED := hide (fun (wx : World) (b : Nat) (h : RdL wx b (Mk.make_ d a t false) (L0 b)) hG (hb : 6 + 1 < b) (g c : Nat) h1 h2 h3 h4 => Feed_any h (unhide HINV) T (by omega) hG hb (by simp [Mk.make_]) (by simp [Mk.make_]) g c h1 h2 h3 h4)
  have hfe : (Mk.feed (Mk.make_ d a t false) T).2.2 = 0 := by
    unfold Mk.feed
    rw [if_pos (show (Mk.make_ d a t false).ended = 0 from rfl)]
    exact h0
  have HX := hide (fun w hG hs => run_any d a t false d1 d2 a1 a2 t1 t2 (compl (Mk.make_ d a t false) T) [] none 0 hDl (by decide) w (fun j hj => by cases hj) (fun c hc => by cases hc) hG hs)
  have q := runL_eq d a t false (compl (Mk.make_ d a t false) T) []
  rw [q.1, q.2.1, q.2.2.1, q.2.2.2, hdoc.1, hdoc.2.1] at HX
  have hev' : join [] (out (Mk.feedAll (Mk.make_ d a t false) (compl (Mk.make_ d a t false) T)).list (Mk.feedAll (Mk.make_ d a t false) (compl (Mk.make_ d a t false) T)).text) = wT (Mk.feedAll (Mk.make_ d a t false) (compl (Mk.make_ d a t false) T)) := hev
  rw [hev'] at HX
  have HRS := hide (fun (w' : World) (v : Value) (fp : List Nat) (hg : Got w' v (wT (Mk.feedAll (Mk.make_ d a t false) (compl (Mk.make_ d a t false) T))) fp) hfp => resolved_any hg hfp hH1 hH2 hH3 hlen hbn hka)
  rw [hk] at HRS
  generalize wT (Mk.feedAll (Mk.make_ d a t false) (compl (Mk.make_ d a t false) T)) = EL at *
  generalize (Mk.feedAll (Mk.make_ d a t false) (compl (Mk.make_ d a t false) T)).at_ = at_ at *
  generalize compl (Mk.make_ d a t false) T = D at *
  have HTL : Hid (T.length = p0.length + 1 ∧ ∀ h, (ByteArray.mk T.toArray)[p0.length]'h = x0) := ⟨by rw [hTT]; simp, fun h => by
    have : T[p0.length]? = some x0 := by rw [hTT]; simp
    exact (List.getElem?_eq_some_iff.1 this).2⟩
  have HG := hide hG
  have HVE := hide hve
  have HFE := hide hfpe
  have HX0 := hide hx0
  generalize (runL (Mk.make_ d a t false) [] 0 D []) = R1 at *
  clear hG hve hfpe hx0 hk hev hev' q hdoc hH1 hH2 hH3 hlen hbn hka h0 d1 d2 a1 a2 t1 t2 hTT
  go_enter Tryz.func44, Tryz.ntmps44
  go_wp2_with fail
  have hb0 := (Below.refl w.heap.size w).alloc (Nat.le_refl _) (.cells #[.int .i64 d, .int .i64 a, .int .i64 t, .bool false] 25 (0, 0))
  refine (unhide HN _).mono ?_
  rintro e w2 ⟨b, rfl, hb, hb3, hrd⟩
  simp at hb
  have hy1 : w2.heap[w.heap.size]? = some (.cells #[.int .i64 d, .int .i64 a, .int .i64 t, .bool false] 25 (0, 0)) := by
    rw [hb3.block _ (by simp)]
    exact heap_alloc_new w _
  have hd1 : ∀ j, w2.cell? ⟨w.heap.size, j, none⟩ = [.int .i64 d, .int .i64 a, .int .i64 t, .bool false][j]? := fun j => by simp [World.cell?, hy1]
  have hbw2 : Below w.heap.size w w2 := hb0.trans (hb3.mono (by simp))
  have hsb := hrd.lt
  have hs2 := hbw2.size
  have hl2 : w.heap.size < w2.heap.size := (Array.getElem?_eq_some_iff.1 hy1).1
  obtain ⟨W1, c, hconv, hbW, hW1s, hcells⟩ := conv_bytes w2 T
  have hrdW := rd_below hrd hbW
  have hbwW : Below w.heap.size w W1 := hbw2.trans (hbW.mono (by omega))
  have HF := hide (unhide HFEED W1 b hrdW ((unhide HG).below hs hbwW) (by omega) w2.heap.size c (by omega) (by omega) (by rw [foot_L0]; simp; omega) hcells)
  have HBW := hide hbwW
  have hbWb := hbW.block
  have HY1 := hide hy1
  clear hcells hrdW hbwW hrd HFEED hb0 hb3 hy1 HN
  go_wp2_with fail
  refine (unhide HF).mono ?_
  rintro e w4 ⟨v4, fp4, L4, rfl, hg4, ⟨fa, fn, fc, rfl⟩, hM, hf4⟩
  rw [hfe]
  have hfr : ∀ k, k < w2.heap.size → k + 1 < b → w4.heap[k]? = w2.heap[k]? := fun k hk hkb => (hM.fr.block k (by omega) (by omega) (by rw [foot_L0]; simp; omega)).trans (hbWb k hk)
  have hbw4 : Below w.heap.size w w4 := (unhide HBW).trans ⟨hM.fr.os, hM.fr.tape, hM.fr.output, hM.fr.size, fun k hk => hM.fr.block k (by omega) (by omega) (by rw [foot_L0]; simp; omega)⟩
  have hs4 := hbw4.size
  have hy4 : w4.heap[w.heap.size]? = some (.cells #[.int .i64 d, .int .i64 a, .int .i64 t, .bool false] 25 (0, 0)) := (hfr _ (by omega) (by omega)).trans (unhide HY1)
  have hl4 : w.heap.size < w4.heap.size := (Array.getElem?_eq_some_iff.1 hy4).1
  have hd4 : ∀ j, w4.cell? ⟨w.heap.size, j, none⟩ = [.int .i64 d, .int .i64 a, .int .i64 t, .bool false][j]? := fun j => by simp [World.cell?, hy4]
  clear hg4 hf4 hM HF hconv hfr hd1 hbW hbWb hbw2
  go_wp2_with fail
  refine (unhide HCP _ ((unhide HG).below hs hbw4) (by omega)).mono ?_
  rintro e w5 ⟨rfl, hb5⟩
  have hs5 := hb5.size
  have hbw5 : Below w.heap.size w w5 := hbw4.trans (hb5.mono hs4)
  have hy5 := (hb5.block _ hl4).trans hy4
  have hl5 : w.heap.size < w5.heap.size := (Array.getElem?_eq_some_iff.1 hy5).1
  have hd5 : ∀ j, w5.cell? ⟨w.heap.size, j, none⟩ = [.int .i64 d, .int .i64 a, .int .i64 t, .bool false][j]? := fun j => by simp [World.cell?, hy5]
  clear hd4 hy4 hb5 hbw4 HCP
  go_wp2_with fail
  refine (unhide HX _ ((unhide HG).below hs hbw5) (by have := hbw5.size; omega)).mono ?_
  rintro e w6 ⟨v6, fp6, q6, rfl, hg6, hf6, hb6, hp6⟩
  obtain ⟨x6, c6, rfl⟩ := hg6.slice
  have hst6 := lay_out w6 (.slice x6 EL.length c6) 0 0 at_ q6 ⟨_, _, _, rfl⟩
  have hs6 := hb6.size
  have hbw6 : Below w.heap.size w w6 := hbw5.trans (hb6.mono (by omega))
  obtain ⟨W6, hW6⟩ : ∃ W6, W6 = w6.alloc (.cells (outCells (.slice x6 EL.length c6) 0 0 at_ q6) 38 (0, 0)) := ⟨_, rfl⟩
  rw [← hW6] at hst6
  have hx6 : W6.heap[w6.heap.size]? = some (.cells (outCells (.slice x6 EL.length c6) 0 0 at_ q6) 38 (0, 0)) := by rw [hW6]; exact heap_alloc_new w6 _
  have hc6 : ∀ j, W6.cell? ⟨w6.heap.size, j, none⟩ = [.slice x6 EL.length c6, .int .i64 0, .int .i64 0, .int .i64 at_, .int .i64 q6.ln, .int .i64 q6.co, .slice q6.oa q6.on q6.oc][j]? := fun j => by simp [World.cell?, hx6, outCells]
  have hbW6 : Below w.heap.size w W6 := by rw [hW6]; exact hbw6.alloc (by omega) _
  have hxs6 : w6.heap.size < W6.heap.size := (Array.getElem?_eq_some_iff.1 hx6).1
  have hgW : Got W6 (.slice x6 EL.length c6) EL fp6 := hg6.keep fun k hk => by rw [hW6]; exact Below.heap_alloc _ _ _ (hf6 k hk).2
  have hfW : ∀ k ∈ fp6, k < W6.heap.size := fun k hk => by have := (hf6 k hk).2; omega
  have HFN := hide (fun w => fine_yes (.slice x6 EL.length c6) at_ q6 ⟨_, _, _, rfl⟩ w)
  have HRS2 := hide (fun (w' : World) (hb : Below W6.heap.size W6 w') => unhide HRS w' (.slice x6 EL.length c6) fp6 (hgW.keep fun k hk => hb.block k (hfW k hk)) (fun k hk => by have := hfW k hk; have := hb.size; omega))
  clear hW6 hg6 hf6 hb6 hp6 hbw6 hgW hfW hd5 hy5 HX
  go_wp2_with fail
  refine (unhide HFN _).mono ?_
  rintro e w7 ⟨rfl, hb7⟩
  have hs7 := hb7.size
  have hx7 := (hb7.block _ hxs6).trans hx6
  have hl7 : w6.heap.size < w7.heap.size := (Array.getElem?_eq_some_iff.1 hx7).1
  have hc7 : ∀ j, w7.cell? ⟨w6.heap.size, j, none⟩ = [.slice x6 EL.length c6, .int .i64 0, .int .i64 0, .int .i64 at_, .int .i64 q6.ln, .int .i64 q6.co, .slice q6.oa q6.on q6.oc][j]? := fun j => by simp [World.cell?, hx7, outCells]
  have hbw7 : Below w.heap.size w w7 := hbW6.trans (hb7.mono (by omega))
  have HR7 := hide (unhide HRS2 w7 hb7)
  clear hc6 hx6 hx7 hb7 hbW6 HFN
  go_wp2_with fail
  refine (unhide HR7).mono ?_
  rintro e w8 ⟨v8, fp8, rfl, hg8, hf8, hb8⟩
  obtain ⟨x8, c8, rfl⟩ := hg8.slice
  have hbw8 : Below w.heap.size w w8 := hbw7.trans (hb8.mono (by have := hbw7.size; omega))
  have hge : Got w8 (.slice va EV.length vc) EV fpe := (unhide HVE).keep fun k hk => hbw8.block k (unhide HFE k hk)
  have HSE := hide (sameEvents_eq hg8 hge)
  have HB8 := hide hbw8
  clear hg8 hf8 hb8 hbw8 hge HR7 hc7 hbw7
  go_wp2_with fail
  refine (unhide HSE).mono ?_
  rintro e w9 ⟨rfl, n9, rfl⟩
  obtain ⟨hTl, hTx⟩ := unhide HTL
  have i1 : (p0.length : Int) + 1 - 1 = (p0.length : Int) := by omega
  have hx := unhide HX0
  have hx7 : (x0.toNat : Int) = 47 ∨ (x0.toNat : Int) = 62 ∨ (x0.toNat : Int) = 63 ∨ (x0.toNat : Int) = 32 ∨ (x0.toNat : Int) = 9 ∨ (x0.toNat : Int) = 10 ∨ (x0.toNat : Int) = 13 := by
    rcases hx with h | h | h | h
    · exact .inl h
    · exact .inr (.inl h)
    · exact .inr (.inr (.inl h))
    · unfold Mk.isSpace at h
      simp at h
      omega
  have hpl : p0.length ≤ 1048576 := by omega
  have hTi : (T.length : Int) - 1 = (p0.length : Int) := by omega
  have hTlt : (p0.length : Int) < (T.length : Int) := by omega
  have hTlt2 : p0.length < T.length := by omega
  clear hx HX0 hTl HTL hT
  rcases hx7 with h | h | h | h | h | h | h
  all_goals
    have g1 : ((x0.toNat : Int) == 47) = decide ((x0.toNat : Int) = 47) := by rw [Bool.eq_iff_iff]; simp
    clear g1
    have k1 : ((x0.toNat : Int) == 47) = ((x0.toNat : Int) == 47) := rfl
    clear k1
    obtain ⟨z, hz⟩ : ∃ z : Int, z = (x0.toNat : Int) := ⟨_, rfl⟩
    rw [← hz] at h
    subst h
    have hzz := hz.symm
    clear hz
    go_wp2
    go_ret
    exact ⟨rfl, below_drewN (unhide HB8) _⟩
end Go.Proofs.YtmgfijllcdadgabGreatDoor
namespace Go.Proofs.YtmgfijllcdadgabGreatDoor
open Go.RowKit
open Mk (St Bs Ev Att)
theorem wide_any (n : Bool) (w : World) :
    Calls Tryz.prog 19 #[.bool n] w fun e w' => e = .returned (.agg #[.int .i64 64, .int .i64 32, .int .i64 1024, .bool n]) ∧ Below w.heap.size w w' := by
  go_enter Tryz.func19, Tryz.ntmps19
  go_wp2
  exact bodyPost_ret (v := .agg #[.int .i64 64, .int .i64 32, .int .i64 1024, .bool n]) (by simp [results, Tryz.results19, go_sem]) rfl ⟨rfl, by repeat (first | exact Below.refl _ _ | refine Below.alloc ?_ (by simp <;> omega) _)⟩
end Go.Proofs.YtmgfijllcdadgabGreatDoor
