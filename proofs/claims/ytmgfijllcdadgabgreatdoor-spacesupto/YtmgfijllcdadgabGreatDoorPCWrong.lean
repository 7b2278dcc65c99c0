/- Wrong, Early, EarlyP -/
import Derived.Test.YtmgfijllcdadgabGreatDoorPM00
import Derived.Test.YtmgfijllcdadgabGreatDoorPCSplit
set_option linter.unusedVariables false
set_option linter.unusedSimpArgs false
namespace Go.Proofs.YtmgfijllcdadgabGreatDoor
open Mk (St Bs Ev Att)
def Er (s : St) (r : St × Int) : Prop := r.2 = 0 ∨ (r.1.list = s.list ∧ r.1.text = s.text)
theorem er_ite {s : St} {c : Prop} [Decidable c] {a b : St × Int} (ha : Er s a) (hb : Er s b) : Er s (if c then a else b) := by split <;> assumption
theorem er_readCharacter (s : St) (x : Int) : Er s (Mk.readCharacter s x) := by
  unfold Mk.readCharacter
  split
  · exact .inr ⟨rfl, rfl⟩
  · exact er_ite (.inl rfl) (.inr ⟨rfl, rfl⟩)
theorem er_readPart (s : St) (x : Int) : Er s (Mk.readPart s x) := by
  unfold Mk.readPart
  split
  · exact .inr ⟨rfl, rfl⟩
  · exact .inl rfl
theorem er_readReference (s : St) (x : Int) : Er s (Mk.readReference s x) := by
  unfold Mk.readReference
  split
  · exact .inr ⟨rfl, rfl⟩
  · exact er_ite (.inl rfl) (.inl rfl)
theorem put_quiet (s : St) (c : Int) (h : Mk.inText s = false) : (Mk.put s c).list = s.list ∧ (Mk.put s c).text = s.text := by
  unfold Mk.put
  rw [h]
  exact ⟨rfl, rfl⟩
theorem er_lengthenName (s : St) (x : Int) : Er s (Mk.lengthenName s x) := by
  unfold Mk.lengthenName
  repeat' ((with_reducible show Er _ (ite _ _ _)); refine er_ite ?_ ?_)
  all_goals first | exact .inl rfl | exact .inr ⟨rfl, rfl⟩
theorem er_readDash (s : St) (x : Int) : Er s (Mk.readDash s x) := by
  unfold Mk.readDash
  repeat' ((with_reducible show Er _ (ite _ _ _)); refine er_ite ?_ ?_)
  all_goals first | exact .inl rfl | exact .inr ⟨rfl, rfl⟩
theorem er_readComment (s : St) (x : Int) : Er s (Mk.readComment s x) := by
  unfold Mk.readComment
  repeat' ((with_reducible show Er _ (ite _ _ _)); refine er_ite ?_ ?_)
  all_goals first | exact .inl rfl | exact .inr ⟨rfl, rfl⟩ | exact er_readCharacter _ _
theorem er_readInstructionName (s : St) (x : Int) : Er s (Mk.readInstructionName s x) := by
  unfold Mk.readInstructionName
  repeat' ((with_reducible show Er _ (ite _ _ _)); refine er_ite ?_ ?_)
  all_goals first | exact .inl rfl | exact .inr ⟨rfl, rfl⟩ | exact er_lengthenName _ _
theorem er_readBareInstruction (s : St) (x : Int) : Er s (Mk.readBareInstruction s x) := by
  unfold Mk.readBareInstruction
  repeat' ((with_reducible show Er _ (ite _ _ _)); refine er_ite ?_ ?_)
  all_goals first | exact .inl rfl | exact .inr ⟨rfl, rfl⟩
theorem er_readInstruction (s : St) (x : Int) : Er s (Mk.readInstruction s x) := by
  unfold Mk.readInstruction
  repeat' ((with_reducible show Er _ (ite _ _ _)); refine er_ite ?_ ?_)
  all_goals first | exact .inl rfl | exact .inr ⟨rfl, rfl⟩ | exact er_readCharacter _ _
theorem er_readInstructionSpace (s : St) (x : Int) : Er s (Mk.readInstructionSpace s x) := by
  unfold Mk.readInstructionSpace
  repeat' ((with_reducible show Er _ (ite _ _ _)); refine er_ite ?_ ?_)
  all_goals first | exact .inl rfl | exact .inr ⟨rfl, rfl⟩ | exact er_readInstruction _ _
theorem er_readOutside (s : St) (x : Int) : Er s (Mk.readOutside s x) := by
  unfold Mk.readOutside
  repeat' ((with_reducible show Er _ (ite _ _ _)); refine er_ite ?_ ?_)
  all_goals first | exact .inl rfl | exact .inr ⟨rfl, rfl⟩
theorem er_readContent (s : St) (x : Int) : Er s (Mk.readContent s x) := by
  unfold Mk.readContent
  repeat' ((with_reducible show Er _ (ite _ _ _)); refine er_ite ?_ ?_)
  all_goals first | exact .inl rfl | exact .inr ⟨rfl, rfl⟩ | exact er_readCharacter _ _
theorem er_readSection (s : St) (x : Int) : Er s (Mk.readSection s x) := by
  unfold Mk.readSection
  repeat' ((with_reducible show Er _ (ite _ _ _)); refine er_ite ?_ ?_)
  all_goals first | exact .inl rfl | exact .inr ⟨rfl, rfl⟩ | exact er_readCharacter _ _
theorem er_beginStart (s : St) (x : Int) : Er s (Mk.beginStart s x) := by
  unfold Mk.beginStart
  repeat' ((with_reducible show Er _ (ite _ _ _)); refine er_ite ?_ ?_)
  all_goals first | exact .inl rfl | exact .inr ⟨rfl, rfl⟩
theorem er_readLess (s : St) (x : Int) : Er s (Mk.readLess s x) := by
  unfold Mk.readLess
  repeat' ((with_reducible show Er _ (ite _ _ _)); refine er_ite ?_ ?_)
  all_goals first | exact .inl rfl | exact .inr ⟨rfl, rfl⟩ | exact er_beginStart _ _
theorem er_readBang (s : St) (x : Int) : Er s (Mk.readBang s x) := by
  unfold Mk.readBang
  repeat' ((with_reducible show Er _ (ite _ _ _)); refine er_ite ?_ ?_)
  all_goals first | exact .inl rfl | exact .inr ⟨rfl, rfl⟩
theorem er_readSectionMark (s : St) (x : Int) : Er s (Mk.readSectionMark s x) := by
  unfold Mk.readSectionMark
  repeat' ((with_reducible show Er _ (ite _ _ _)); refine er_ite ?_ ?_)
  all_goals first | exact .inl rfl | exact .inr ⟨rfl, rfl⟩
theorem wr_declare_told (s : St) : (Mk.declare s).1.list = s.list ∧ (Mk.declare s).1.text = s.text := by unfold Mk.declare; dsimp only; split <;> exact ⟨rfl, rfl⟩
theorem wr_enter_told (s : St) : (Mk.enter s).1.list = s.list ∧ (Mk.enter s).1.text = s.text := by
  unfold Mk.enter
  repeat' split
  all_goals first | exact ⟨rfl, rfl⟩ | exact wr_declare_told s
theorem er_endAttributes (s : St) (x : Int) : Er s (Mk.endAttributes s x) := by
  unfold Mk.endAttributes
  repeat' split
  · exact .inr (wr_enter_told s)
  · exact .inl rfl
  · exact .inl rfl
theorem er_readStartGap (s : St) (x : Int) : Er s (Mk.readStartGap s x) := by
  unfold Mk.readStartGap
  repeat' ((with_reducible show Er _ (ite _ _ _)); refine er_ite ?_ ?_)
  all_goals first | exact .inl rfl | exact .inr ⟨rfl, rfl⟩ | exact er_endAttributes _ _
theorem er_readStartName (s : St) (x : Int) : Er s (Mk.readStartName s x) := by
  unfold Mk.readStartName
  repeat' ((with_reducible show Er _ (ite _ _ _)); refine er_ite ?_ ?_)
  all_goals first | exact .inl rfl | exact .inr ⟨rfl, rfl⟩ | exact er_lengthenName _ _ | exact er_readStartGap _ _
theorem er_readStartSpace (s : St) (x : Int) : Er s (Mk.readStartSpace s x) := by
  unfold Mk.readStartSpace
  repeat' ((with_reducible show Er _ (ite _ _ _)); refine er_ite ?_ ?_)
  all_goals first | exact .inl rfl | exact .inr ⟨rfl, rfl⟩ | exact er_readStartGap _ _
theorem er_readSlash (s : St) (x : Int) : Er s (Mk.readSlash s x) := by
  unfold Mk.readSlash
  repeat' ((with_reducible show Er _ (ite _ _ _)); refine er_ite ?_ ?_)
  all_goals first | exact .inl rfl | exact .inr ⟨rfl, rfl⟩
theorem er_readAttrSpace (s : St) (x : Int) : Er s (Mk.readAttrSpace s x) := by
  unfold Mk.readAttrSpace
  repeat' ((with_reducible show Er _ (ite _ _ _)); refine er_ite ?_ ?_)
  all_goals first | exact .inl rfl | exact .inr ⟨rfl, rfl⟩
theorem er_lengthenAttrName (s : St) (x : Int) (h : Mk.inText s = false) : Er s (Mk.lengthenAttrName s x) := by
  unfold Mk.lengthenAttrName
  exact er_ite (er_ite (.inr (put_quiet s x h)) (.inl rfl)) (.inr ⟨rfl, rfl⟩)
theorem er_readAttrName (s : St) (x : Int) (h : Mk.inText s = false) : Er s (Mk.readAttrName s x) := by
  unfold Mk.readAttrName
  refine er_ite (er_lengthenAttrName s x h) (er_ite (.inr ⟨rfl, rfl⟩) (er_ite (.inr ⟨rfl, rfl⟩) ?_))
  exact er_readAttrSpace { Mk.dropToken s with attr := s.token } x
theorem er_readEquals (s : St) (x : Int) : Er s (Mk.readEquals s x) := by
  unfold Mk.readEquals
  repeat' ((with_reducible show Er _ (ite _ _ _)); refine er_ite ?_ ?_)
  all_goals first | exact .inl rfl | exact .inr ⟨rfl, rfl⟩
theorem er_readValue (s : St) (x : Int) : Er s (Mk.readValue s x) := by
  unfold Mk.readValue
  repeat' ((with_reducible show Er _ (ite _ _ _)); refine er_ite ?_ ?_)
  all_goals first | exact .inl rfl | exact .inr ⟨rfl, rfl⟩ | exact er_readCharacter _ _
theorem er_readEndSpace (s : St) (x : Int) : Er s (Mk.readEndSpace s x) := by
  unfold Mk.readEndSpace
  repeat' ((with_reducible show Er _ (ite _ _ _)); refine er_ite ?_ ?_)
  all_goals first | exact .inl rfl | exact .inr ⟨rfl, rfl⟩
theorem er_readEndName (s : St) (x : Int) : Er s (Mk.readEndName s x) := by
  unfold Mk.readEndName
  repeat' ((with_reducible show Er _ (ite _ _ _)); refine er_ite ?_ ?_)
  all_goals first | exact .inl rfl | exact .inr ⟨rfl, rfl⟩ | exact er_readEndSpace _ _
theorem er_readStartTag (s : St) (x : Int) : Er s (Mk.readStartTag s x) := by
  unfold Mk.readStartTag
  refine er_ite (er_readStartName s x) (er_ite (er_readStartSpace s x) ?_)
  by_cases h : (s.state == 14) = true
  · rw [if_pos h]
    refine er_readAttrName s x ?_
    have : s.state = 14 := by simpa using h
    simp [Mk.inText, this]
  · rw [if_neg h]
    exact er_ite (er_readAttrSpace s x) (er_ite (er_readEquals s x) (er_ite (er_readStartGap s x) (er_readSlash s x)))
theorem er_readMark (s : St) (x : Int) : Er s (Mk.readMark s x) := by
  unfold Mk.readMark
  repeat' ((with_reducible show Er _ (ite _ _ _)); refine er_ite ?_ ?_)
  all_goals first | exact .inl rfl | exact .inr ⟨rfl, rfl⟩ | exact er_readLess _ _ | exact er_readBang _ _ | exact er_readDash _ _ | exact er_readSectionMark _ _ | exact er_readInstructionName _ _ | exact er_readBareInstruction _ _ | exact er_readInstructionSpace _ _ | exact er_readEndName _ _ | exact er_readEndSpace _ _ | exact er_readStartTag _ _
theorem er_readByte (s : St) (x : Int) : Er s (Mk.readByte s x) := by
  unfold Mk.readByte
  repeat' ((with_reducible show Er _ (ite _ _ _)); refine er_ite ?_ ?_)
  all_goals first | exact .inl rfl | exact .inr ⟨rfl, rfl⟩ | exact er_readPart _ _ | exact er_readReference _ _ | exact er_readOutside _ _ | exact er_readContent _ _ | exact er_readSection _ _ | exact er_readComment _ _ | exact er_readInstruction _ _ | exact er_readValue _ _ | exact er_readMark _ _
theorem er_readOn (s : St) (x : Int) : Er s (Mk.readOn s x) := by
  unfold Mk.readOn
  split
  · exact .inl rfl
  · exact er_readByte s x
theorem er_read (s : St) (x : Int) : Er s (Mk.read s x) := by
  unfold Mk.read
  repeat' ((with_reducible show Er _ (ite _ _ _)); refine er_ite ?_ ?_)
  all_goals first | exact .inl rfl | exact .inr ⟨rfl, rfl⟩ | exact er_readOn _ _
theorem feedByte_wrong (s : St) (x : UInt8) (h : s.ended = 0) (h2 : (Mk.feedByte s x).ended ≠ 0) : (Mk.feedByte s x).list = s.list ∧ (Mk.feedByte s x).text = s.text := by
  unfold Mk.feedByte at h2 ⊢
  rw [if_pos h] at h2 ⊢
  rcases er_read { s with at_ := s.at_ + 1 } x.toNat with h3 | h3
  · exact absurd h3 h2
  · exact h3
end Go.Proofs.YtmgfijllcdadgabGreatDoor
namespace Go.Proofs.YtmgfijllcdadgabGreatDoor
open Go.RowKit
open Mk (St Bs Ev Att)
structure EarlyI (n0 : Nat) (W0 w' : World) (b : Nat) (s : St) (L : Lay) (v : Value) (evs : List Ev) (fp : List Nat) (fed : Nat) : Prop where
  bel : Below n0 W0 w'
  hb : n0 + 1 ≤ b
  rd : RdL w' b s L
  got : Got w' v evs fp
  fpb : ∀ k ∈ fp, n0 ≤ k ∧ k < w'.heap.size ∧ k ≠ b ∧ k ∉ foot s L
  inv : Inv (12 * fed) s
  li : s.list = []
  at0 : 0 ≤ s.at_
  at1 : s.at_ ≤ fed
  len : evs.length ≤ 133 * fed
  vals : ∀ e ∈ evs, e.val.length ≤ fed * 2660000000
  tx : s.text = []
section
variable {n0 : Nat} {W0 wr W1 w2 w3 : World} {b : Nat} {s s' : St} {L L' : Lay} {v v3 : Value} {evs : List Ev} {fp fp2 fp3 : List Nat} {fed : Nat}
theorem EarlyI.away (R : EarlyI n0 W0 wr b s L v evs fp fed) (hbW : Below wr.heap.size wr W1) (hM : Mv W1 b (foot s L) w2 s' L') :
    ∀ k, k < wr.heap.size → k ≠ b → k ∉ foot s L → w2.heap[k]? = wr.heap[k]? ∧ k ∉ foot s' L' := by
  intro k hk hb hf
  have h1 := hbW.size
  refine ⟨(hM.fr.block k (by omega) hb hf).trans (hbW.block k hk), fun hm => ?_⟩
  rcases hM.fr.foot k hm with h | h
  · exact hf h
  · omega
theorem EarlyI.box (R : EarlyI n0 W0 wr b s L v evs fp fed) (k : Nat) (hk : k < n0) : k < wr.heap.size ∧ k ≠ b ∧ k ∉ foot s L := by
  have h1 := R.hb
  have h2 := R.rd.lt
  exact ⟨by omega, by omega, fun hm => by have := (R.rd.foot_lt _ hm).1; omega⟩
theorem EarlyI.apart (R : EarlyI n0 W0 wr b s L v evs fp fed) (hbW : Below wr.heap.size wr W1)
    (hf2 : ∀ k ∈ fp2, (b ≤ k + 1 ∧ k ≠ b) ∧ k < w2.heap.size ∧ k ∉ foot s' L' ∧ (k ∈ foot s L ∨ W1.heap.size ≤ k)) : ∀ k, v.ownBlock = some k → k ∉ fp2 := by
  intro k hk hm
  have h1 := R.fpb k (R.got.own k hk)
  have h2 := hbW.size
  rcases (hf2 k hm).2.2.2 with h | h
  · exact h1.2.2.2 h
  · omega
theorem EarlyI.step (l : Bs) (hl1 : l.length = 1) (R : EarlyI n0 W0 wr b s L v evs fp fed) (hbW : Below wr.heap.size wr W1)
    (hM : Mv W1 b (foot s L) w2 (Mk.feed s l).1 L') (hf2 : ∀ k ∈ fp2, (b ≤ k + 1 ∧ k ≠ b) ∧ k < w2.heap.size ∧ k ∉ foot (Mk.feed s l).1 L' ∧ (k ∈ foot s L ∨ W1.heap.size ≤ k))
    (hj : Jn w2 w3 v v3 (fp ++ fp2) fp3 (join evs (Mk.feed s l).2.1)) (hfl : fed + 1 ≤ 1120000) :
    ∃ fp', EarlyI n0 W0 w3 b (Mk.feed s l).1 L' v3 (join evs (Mk.feed s l).2.1) fp' (fed + 1) := by
  have hWs := hbW.size
  have hMs := hM.fr.size
  have hJs := hj.jf.gr.size
  have hb := R.hb
  have hbl := R.rd.lt
  have hvo : ∀ k, v.ownBlock = some k → n0 ≤ k ∧ k < wr.heap.size ∧ k ≠ b ∧ k ∉ foot s L := fun k hk => R.fpb k (R.got.own k hk)
  have hfp3 : ∀ k ∈ fp3.filter (· < w3.heap.size), n0 ≤ k ∧ k < w3.heap.size ∧ k ≠ b ∧ k ∉ foot (Mk.feed s l).1 L' := by
    intro k hk
    obtain ⟨hk1, hk2⟩ := List.mem_filter.1 hk
    simp at hk2
    rcases hj.sub k hk1 with h | h
    · rcases List.mem_append.1 h with h | h
      · have h1 := R.fpb k h
        exact ⟨h1.1, hk2, h1.2.2.1, (R.away hbW hM k h1.2.1 h1.2.2.1 h1.2.2.2).2⟩
      · have h1 := hf2 k h
        exact ⟨by omega, hk2, by omega, h1.2.2.1⟩
    · have := hM.rd.lt
      exact ⟨by omega, hk2, by omega, fun hm => by have := (hM.rd.foot_lt _ hm).2; omega⟩
  have hrd3 : RdL w3 b (Mk.feed s l).1 L' := hM.rd.keep fun k hk => by
    have hkl : k < w2.heap.size := by
      rcases hk with rfl | hk
      · exact hM.rd.lt
      · exact (hM.rd.foot_lt _ hk).2
    refine hj.jf.gr.block k hkl fun e => ?_
    have h1 := hvo k e.symm
    rcases hk with rfl | hk
    · exact h1.2.2.1 rfl
    · exact (R.away hbW hM k h1.2.1 h1.2.2.1 h1.2.2.2).2 hk
  have hbel : Below n0 W0 w3 := by
    refine R.bel.trans ((hbW.mono (by omega)).trans (Below.trans (b := w2) ⟨hM.fr.os, hM.fr.tape, hM.fr.output, hM.fr.size, fun k hk => hM.fr.block k (by omega) (by omega) (R.box k (by omega)).2.2⟩ ⟨hj.jf.gr.os, hj.jf.gr.tape, hj.jf.gr.output, hj.jf.gr.size, fun k hk => hj.jf.gr.block k (by omega) fun e => ?_⟩))
    have := (hvo k e.symm).1; omega
  have hlen := feed_len5 s l R.inv R.li R.tx
  have hal := join_len (Mk.feed s l).2.1 evs
  have hl2 := R.len
  have hat := at_feed s l
  have ha0 := R.at0
  have ha1 := R.at1
  rw [hl1] at hlen hat
  refine ⟨fp3.filter (· < w3.heap.size), hbel, hb, hrd3, hj.got.trim, hfp3, ?_, feed_list s l R.li, by omega, by omega, by omega, ?_, feed_text s l R.tx⟩
  · exact (inv_feed R.inv l).mono (by omega)
  · intro e he
    have h1 := join_bd (M := 20000000) _ R.vals (fun x hx => by have := vals_feed R.inv l x hx; omega) e he
    have h2 : (Mk.feed s l).2.1.length * 20000000 ≤ 1 * 2660000000 := by
      have := Nat.mul_le_mul_right 20000000 hlen
      omega
    omega
end
end Go.Proofs.YtmgfijllcdadgabGreatDoor
namespace Go.Proofs.YtmgfijllcdadgabGreatDoor
open Mk (St Bs Ev Att)
def evsOf (s : St) : List Ev := join [] (out s.list s.text)
end Go.Proofs.YtmgfijllcdadgabGreatDoor
