/- Early -/
import Derived.Test.YtmgfijllcdadgabGreatDoorCSplit
import Derived.Test.YtmgfijllcdadgabGreatDoorCWrong
namespace Go.Proofs.YtmgfijllcdadgabGreatDoor
set_option linter.unusedVariables false
set_option linter.unusedSimpArgs false
open Go.RowKit
open Mk (St Bs Ev Att)

/-- What holds at the head of earliest's loop: below n0 nothing has turned. -/
structure EarlyI (n0 : Nat) (W0 w' : World) (b : Nat) (s : St) (L : Lay) (v : Value) (evs : List Ev) (fp : List Nat) (fed : Nat) : Prop where
  bel : Below n0 W0 w'
  hb : n0 + 1 ≤ b
  rd : RdL w' b s L
  got : Got w' v evs fp
  fpb : ∀ k ∈ fp, n0 ≤ k ∧ k < w'.heap.size ∧ k ≠ b ∧ k ∉ foot s L
  inv : Inv (12 * fed) s
  li : s.list = []
  at0 : 0 ≤ s.at_
  at1 : s.at_ ≤ fed
  len : evs.length ≤ 133 * fed
  vals : ∀ e ∈ evs, e.val.length ≤ fed * 2660000000
  tx : s.text = []
section
variable {n0 : Nat} {W0 wr W1 w2 w3 : World} {b : Nat} {s s' : St} {L L' : Lay} {v v3 : Value} {evs : List Ev} {fp fp2 fp3 : List Nat} {fed : Nat}
theorem EarlyI.away (R : EarlyI n0 W0 wr b s L v evs fp fed) (hbW : Below wr.heap.size wr W1) (hM : Mv W1 b (foot s L) w2 s' L') :
    ∀ k, k < wr.heap.size → k ≠ b → k ∉ foot s L → w2.heap[k]? = wr.heap[k]? ∧ k ∉ foot s' L' := by
  intro k hk hb hf
  have h1 := hbW.size
  refine ⟨(hM.fr.block k (by omega) hb hf).trans (hbW.block k hk), fun hm => ?_⟩
  rcases hM.fr.foot k hm with h | h
  · exact hf h
  · omega
theorem EarlyI.box (R : EarlyI n0 W0 wr b s L v evs fp fed) (k : Nat) (hk : k < n0) : k < wr.heap.size ∧ k ≠ b ∧ k ∉ foot s L := by
  have h1 := R.hb
  have h2 := R.rd.lt
  exact ⟨by omega, by omega, fun hm => by have := (R.rd.foot_lt _ hm).1; omega⟩
theorem EarlyI.apart (R : EarlyI n0 W0 wr b s L v evs fp fed) (hbW : Below wr.heap.size wr W1)
    (hf2 : ∀ k ∈ fp2, (b ≤ k + 1 ∧ k ≠ b) ∧ k < w2.heap.size ∧ k ∉ foot s' L' ∧ (k ∈ foot s L ∨ W1.heap.size ≤ k)) : ∀ k, v.ownBlock = some k → k ∉ fp2 := by
  intro k hk hm
  have h1 := R.fpb k (R.got.own k hk)
  have h2 := hbW.size
  rcases (hf2 k hm).2.2.2 with h | h
  · exact h1.2.2.2 h
  · omega
theorem EarlyI.step (l : Bs) (hl1 : l.length = 1) (R : EarlyI n0 W0 wr b s L v evs fp fed) (hbW : Below wr.heap.size wr W1)
    (hM : Mv W1 b (foot s L) w2 (Mk.feed s l).1 L') (hf2 : ∀ k ∈ fp2, (b ≤ k + 1 ∧ k ≠ b) ∧ k < w2.heap.size ∧ k ∉ foot (Mk.feed s l).1 L' ∧ (k ∈ foot s L ∨ W1.heap.size ≤ k))
    (hj : Jn w2 w3 v v3 (fp ++ fp2) fp3 (join evs (Mk.feed s l).2.1)) (hfl : fed + 1 ≤ 1120000) :
    ∃ fp', EarlyI n0 W0 w3 b (Mk.feed s l).1 L' v3 (join evs (Mk.feed s l).2.1) fp' (fed + 1) := by
  have hWs := hbW.size
  have hMs := hM.fr.size
  have hJs := hj.jf.gr.size
  have hb := R.hb
  have hbl := R.rd.lt
  have hvo : ∀ k, v.ownBlock = some k → n0 ≤ k ∧ k < wr.heap.size ∧ k ≠ b ∧ k ∉ foot s L := fun k hk => R.fpb k (R.got.own k hk)
  have hfp3 : ∀ k ∈ fp3.filter (· < w3.heap.size), n0 ≤ k ∧ k < w3.heap.size ∧ k ≠ b ∧ k ∉ foot (Mk.feed s l).1 L' := by
    intro k hk
    obtain ⟨hk1, hk2⟩ := List.mem_filter.1 hk
    simp at hk2
    rcases hj.sub k hk1 with h | h
    · rcases List.mem_append.1 h with h | h
      · have h1 := R.fpb k h
        exact ⟨h1.1, hk2, h1.2.2.1, (R.away hbW hM k h1.2.1 h1.2.2.1 h1.2.2.2).2⟩
      · have h1 := hf2 k h
        exact ⟨by omega, hk2, by omega, h1.2.2.1⟩
    · have := hM.rd.lt
      exact ⟨by omega, hk2, by omega, fun hm => by have := (hM.rd.foot_lt _ hm).2; omega⟩
  have hrd3 : RdL w3 b (Mk.feed s l).1 L' := hM.rd.keep fun k hk => by
    have hkl : k < w2.heap.size := by
      rcases hk with rfl | hk
      · exact hM.rd.lt
      · exact (hM.rd.foot_lt _ hk).2
    refine hj.jf.gr.block k hkl fun e => ?_
    have h1 := hvo k e.symm
    rcases hk with rfl | hk
    · exact h1.2.2.1 rfl
    · exact (R.away hbW hM k h1.2.1 h1.2.2.1 h1.2.2.2).2 hk
  have hbel : Below n0 W0 w3 := by
    refine R.bel.trans ((hbW.mono (by omega)).trans (Below.trans (b := w2) ⟨hM.fr.os, hM.fr.tape, hM.fr.output, hM.fr.size, fun k hk => hM.fr.block k (by omega) (by omega) (R.box k (by omega)).2.2⟩ ⟨hj.jf.gr.os, hj.jf.gr.tape, hj.jf.gr.output, hj.jf.gr.size, fun k hk => hj.jf.gr.block k (by omega) fun e => ?_⟩))
    have := (hvo k e.symm).1; omega
  have hlen := feed_len5 s l R.inv R.li R.tx
  have hal := join_len (Mk.feed s l).2.1 evs
  have hl2 := R.len
  have hat := at_feed s l
  have ha0 := R.at0
  have ha1 := R.at1
  rw [hl1] at hlen hat
  refine ⟨fp3.filter (· < w3.heap.size), hbel, hb, hrd3, hj.got.trim, hfp3, ?_, feed_list s l R.li, by omega, by omega, by omega, ?_, feed_text s l R.tx⟩
  · exact (inv_feed R.inv l).mono (by omega)
  · intro e he
    have h1 := join_bd (M := 20000000) _ R.vals (fun x hx => by have := vals_feed R.inv l x hx; omega) e he
    have h2 : (Mk.feed s l).2.1.length * 20000000 ≤ 1 * 2660000000 := by
      have := Nat.mul_le_mul_right 20000000 hlen
      omega
    omega
end
end Go.Proofs.YtmgfijllcdadgabGreatDoor
