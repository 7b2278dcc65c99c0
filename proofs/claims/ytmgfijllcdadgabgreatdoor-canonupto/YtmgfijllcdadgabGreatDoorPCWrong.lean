/- Wrong, Early, EarlyP -/
import Derived.Test.YtmgfijllcdadgabGreatDoorPM00
import Derived.Test.YtmgfijllcdadgabGreatDoorPCSplit
set_option linter.unusedVariables false
set_option linter.unusedSimpArgs false
namespace Go.Proofs.YtmgfijllcdadgabGreatDoor
open Mk (St Bs Ev Att)
def Er (s:St) (r:St × Int):Prop:=r.2=0∨(r.1.list=s.list∧r.1.text=s.text)
theorem er_ite {s:St} {c:Prop} [Decidable c] {a b:St × Int} (ha:Er s a) (hb:Er s b):Er s (if c then a else b):=by split <;> assumption
theorem er_readCharacter (s:St) (x:Int):Er s (Mk.readCharacter s x):=by
  unfold Mk.readCharacter
  split
  · exact .inr ⟨rfl,rfl⟩
  · exact er_ite (.inl rfl) (.inr ⟨rfl,rfl⟩)
theorem er_readPart (s:St) (x:Int):Er s (Mk.readPart s x):=by
  unfold Mk.readPart
  split
  · exact .inr ⟨rfl,rfl⟩
  · exact .inl rfl
theorem er_readReference (s:St) (x:Int):Er s (Mk.readReference s x):=by
  unfold Mk.readReference
  split
  · exact .inr ⟨rfl,rfl⟩
  · exact er_ite (.inl rfl) (.inl rfl)
theorem put_quiet (s:St) (c:Int) (h:Mk.inText s=false):(Mk.put s c).list=s.list∧(Mk.put s c).text=s.text:=by
  unfold Mk.put
  rw [h]
  exact ⟨rfl,rfl⟩
theorem er_lengthenName (s:St) (x:Int):Er s (Mk.lengthenName s x):=by
  unfold Mk.lengthenName
  repeat' ((with_reducible show Er _ (ite _ _ _));refine er_ite ?_ ?_)
  all_goals first | exact .inl rfl | exact .inr ⟨rfl,rfl⟩
theorem er_readDash (s:St) (x:Int):Er s (Mk.readDash s x):=by
  unfold Mk.readDash
  repeat' ((with_reducible show Er _ (ite _ _ _));refine er_ite ?_ ?_)
  all_goals first | exact .inl rfl | exact .inr ⟨rfl,rfl⟩
theorem er_readComment (s:St) (x:Int):Er s (Mk.readComment s x):=by
  unfold Mk.readComment
  repeat' ((with_reducible show Er _ (ite _ _ _));refine er_ite ?_ ?_)
  all_goals first | exact .inl rfl | exact .inr ⟨rfl,rfl⟩ | exact er_readCharacter _ _
theorem er_readInstructionName (s:St) (x:Int):Er s (Mk.readInstructionName s x):=by
  unfold Mk.readInstructionName
  repeat' ((with_reducible show Er _ (ite _ _ _));refine er_ite ?_ ?_)
  all_goals first | exact .inl rfl | exact .inr ⟨rfl,rfl⟩ | exact er_lengthenName _ _
theorem er_readBareInstruction (s:St) (x:Int):Er s (Mk.readBareInstruction s x):=by
  unfold Mk.readBareInstruction
  repeat' ((with_reducible show Er _ (ite _ _ _));refine er_ite ?_ ?_)
  all_goals first | exact .inl rfl | exact .inr ⟨rfl,rfl⟩
theorem er_readInstruction (s:St) (x:Int):Er s (Mk.readInstruction s x):=by
  unfold Mk.readInstruction
  repeat' ((with_reducible show Er _ (ite _ _ _));refine er_ite ?_ ?_)
  all_goals first | exact .inl rfl | exact .inr ⟨rfl,rfl⟩ | exact er_readCharacter _ _
theorem er_readInstructionSpace (s:St) (x:Int):Er s (Mk.readInstructionSpace s x):=by
  unfold Mk.readInstructionSpace
  repeat' ((with_reducible show Er _ (ite _ _ _));refine er_ite ?_ ?_)
  all_goals first | exact .inl rfl | exact .inr ⟨rfl,rfl⟩ | exact er_readInstruction _ _
theorem er_readOutside (s:St) (x:Int):Er s (Mk.readOutside s x):=by
  unfold Mk.readOutside
  repeat' ((with_reducible show Er _ (ite _ _ _));refine er_ite ?_ ?_)
  all_goals first | exact .inl rfl | exact .inr ⟨rfl,rfl⟩
theorem er_readContent (s:St) (x:Int):Er s (Mk.readContent s x):=by
  unfold Mk.readContent
  repeat' ((with_reducible show Er _ (ite _ _ _));refine er_ite ?_ ?_)
  all_goals first | exact .inl rfl | exact .inr ⟨rfl,rfl⟩ | exact er_readCharacter _ _
theorem er_readSection (s:St) (x:Int):Er s (Mk.readSection s x):=by
  unfold Mk.readSection
  repeat' ((with_reducible show Er _ (ite _ _ _));refine er_ite ?_ ?_)
  all_goals first | exact .inl rfl | exact .inr ⟨rfl,rfl⟩ | exact er_readCharacter _ _
theorem er_beginStart (s:St) (x:Int):Er s (Mk.beginStart s x):=by
  unfold Mk.beginStart
  repeat' ((with_reducible show Er _ (ite _ _ _));refine er_ite ?_ ?_)
  all_goals first | exact .inl rfl | exact .inr ⟨rfl,rfl⟩
theorem er_readLess (s:St) (x:Int):Er s (Mk.readLess s x):=by
  unfold Mk.readLess
  repeat' ((with_reducible show Er _ (ite _ _ _));refine er_ite ?_ ?_)
  all_goals first | exact .inl rfl | exact .inr ⟨rfl,rfl⟩ | exact er_beginStart _ _
theorem er_readBang (s:St) (x:Int):Er s (Mk.readBang s x):=by
  unfold Mk.readBang
  repeat' ((with_reducible show Er _ (ite _ _ _));refine er_ite ?_ ?_)
  all_goals first | exact .inl rfl | exact .inr ⟨rfl,rfl⟩
theorem er_readSectionMark (s:St) (x:Int):Er s (Mk.readSectionMark s x):=by
  unfold Mk.readSectionMark
  repeat' ((with_reducible show Er _ (ite _ _ _));refine er_ite ?_ ?_)
  all_goals first | exact .inl rfl | exact .inr ⟨rfl,rfl⟩
theorem wr_declare_told (s:St):(Mk.declare s).1.list=s.list∧(Mk.declare s).1.text=s.text:=by unfold Mk.declare;dsimp only;split <;> exact ⟨rfl,rfl⟩
theorem wr_enter_told (s:St):(Mk.enter s).1.list=s.list∧(Mk.enter s).1.text=s.text:=by
  unfold Mk.enter
  repeat' split
  all_goals first | exact ⟨rfl,rfl⟩ | exact wr_declare_told s
theorem er_endAttributes (s:St) (x:Int):Er s (Mk.endAttributes s x):=by
  unfold Mk.endAttributes
  repeat' split
  · exact .inr (wr_enter_told s)
  · exact .inl rfl
  · exact .inl rfl
theorem er_readStartGap (s:St) (x:Int):Er s (Mk.readStartGap s x):=by
  unfold Mk.readStartGap
  repeat' ((with_reducible show Er _ (ite _ _ _));refine er_ite ?_ ?_)
  all_goals first | exact .inl rfl | exact .inr ⟨rfl,rfl⟩ | exact er_endAttributes _ _
theorem er_readStartName (s:St) (x:Int):Er s (Mk.readStartName s x):=by
  unfold Mk.readStartName
  repeat' ((with_reducible show Er _ (ite _ _ _));refine er_ite ?_ ?_)
  all_goals first | exact .inl rfl | exact .inr ⟨rfl,rfl⟩ | exact er_lengthenName _ _ | exact er_readStartGap _ _
theorem er_readStartSpace (s:St) (x:Int):Er s (Mk.readStartSpace s x):=by
  unfold Mk.readStartSpace
  repeat' ((with_reducible show Er _ (ite _ _ _));refine er_ite ?_ ?_)
  all_goals first | exact .inl rfl | exact .inr ⟨rfl,rfl⟩ | exact er_readStartGap _ _
theorem er_readSlash (s:St) (x:Int):Er s (Mk.readSlash s x):=by
  unfold Mk.readSlash
  repeat' ((with_reducible show Er _ (ite _ _ _));refine er_ite ?_ ?_)
  all_goals first | exact .inl rfl | exact .inr ⟨rfl,rfl⟩
theorem er_readAttrSpace (s:St) (x:Int):Er s (Mk.readAttrSpace s x):=by
  unfold Mk.readAttrSpace
  repeat' ((with_reducible show Er _ (ite _ _ _));refine er_ite ?_ ?_)
  all_goals first | exact .inl rfl | exact .inr ⟨rfl,rfl⟩
theorem er_lengthenAttrName (s:St) (x:Int) (h:Mk.inText s=false):Er s (Mk.lengthenAttrName s x):=by
  unfold Mk.lengthenAttrName
  exact er_ite (er_ite (.inr (put_quiet s x h)) (.inl rfl)) (.inr ⟨rfl,rfl⟩)
theorem er_readAttrName (s:St) (x:Int) (h:Mk.inText s=false):Er s (Mk.readAttrName s x):=by
  unfold Mk.readAttrName
  refine er_ite (er_lengthenAttrName s x h) (er_ite (.inr ⟨rfl,rfl⟩) (er_ite (.inr ⟨rfl,rfl⟩) ?_))
  exact er_readAttrSpace { Mk.dropToken s with attr:=s.token } x
theorem er_readEquals (s:St) (x:Int):Er s (Mk.readEquals s x):=by
  unfold Mk.readEquals
  repeat' ((with_reducible show Er _ (ite _ _ _));refine er_ite ?_ ?_)
  all_goals first | exact .inl rfl | exact .inr ⟨rfl,rfl⟩
theorem er_readValue (s:St) (x:Int):Er s (Mk.readValue s x):=by
  unfold Mk.readValue
  repeat' ((with_reducible show Er _ (ite _ _ _));refine er_ite ?_ ?_)
  all_goals first | exact .inl rfl | exact .inr ⟨rfl,rfl⟩ | exact er_readCharacter _ _
theorem er_readEndSpace (s:St) (x:Int):Er s (Mk.readEndSpace s x):=by
  unfold Mk.readEndSpace
  repeat' ((with_reducible show Er _ (ite _ _ _));refine er_ite ?_ ?_)
  all_goals first | exact .inl rfl | exact .inr ⟨rfl,rfl⟩
theorem er_readEndName (s:St) (x:Int):Er s (Mk.readEndName s x):=by
  unfold Mk.readEndName
  repeat' ((with_reducible show Er _ (ite _ _ _));refine er_ite ?_ ?_)
  all_goals first | exact .inl rfl | exact .inr ⟨rfl,rfl⟩ | exact er_readEndSpace _ _
theorem er_readStartTag (s:St) (x:Int):Er s (Mk.readStartTag s x):=by
  unfold Mk.readStartTag
  refine er_ite (er_readStartName s x) (er_ite (er_readStartSpace s x) ?_)
  by_cases h:(s.state == 14)=true
  · rw [if_pos h]
    refine er_readAttrName s x ?_
    have:s.state=14:=by simpa using h
    simp [Mk.inText,this]
  · rw [if_neg h]
    exact er_ite (er_readAttrSpace s x) (er_ite (er_readEquals s x) (er_ite (er_readStartGap s x) (er_readSlash s x)))
theorem er_readMark (s:St) (x:Int):Er s (Mk.readMark s x):=by
  unfold Mk.readMark
  repeat' ((with_reducible show Er _ (ite _ _ _));refine er_ite ?_ ?_)
  all_goals first | exact .inl rfl | exact .inr ⟨rfl,rfl⟩ | exact er_readLess _ _ | exact er_readBang _ _ | exact er_readDash _ _ | exact er_readSectionMark _ _ | exact er_readInstructionName _ _ | exact er_readBareInstruction _ _ | exact er_readInstructionSpace _ _ | exact er_readEndName _ _ | exact er_readEndSpace _ _ | exact er_readStartTag _ _
theorem er_readByte (s:St) (x:Int):Er s (Mk.readByte s x):=by
  unfold Mk.readByte
  repeat' ((with_reducible show Er _ (ite _ _ _));refine er_ite ?_ ?_)
  all_goals first | exact .inl rfl | exact .inr ⟨rfl,rfl⟩ | exact er_readPart _ _ | exact er_readReference _ _ | exact er_readOutside _ _ | exact er_readContent _ _ | exact er_readSection _ _ | exact er_readComment _ _ | exact er_readInstruction _ _ | exact er_readValue _ _ | exact er_readMark _ _
theorem er_readOn (s:St) (x:Int):Er s (Mk.readOn s x):=by
  unfold Mk.readOn
  split
  · exact .inl rfl
  · exact er_readByte s x
theorem er_read (s:St) (x:Int):Er s (Mk.read s x):=by
  unfold Mk.read
  repeat' ((with_reducible show Er _ (ite _ _ _));refine er_ite ?_ ?_)
  all_goals first | exact .inl rfl | exact .inr ⟨rfl,rfl⟩ | exact er_readOn _ _
theorem feedByte_wrong (s:St) (x:UInt8) (h:s.ended=0) (h2:(Mk.feedByte s x).ended ≠ 0):(Mk.feedByte s x).list=s.list∧(Mk.feedByte s x).text=s.text:=by
  unfold Mk.feedByte at h2 ⊢
  rw [if_pos h] at h2 ⊢
  rcases er_read { s with at_:=s.at_ + 1 } x.toNat with h3 | h3
  · exact absurd h3 h2
  · exact h3
open Go.RowKit
section
variable {n0:Nat} {W0 wr W1 w2 w3:World} {b:Nat} {s s' : St} {L L' : Lay} {v v3:Value} {evs:List Ev} {fp fp2 fp3:List Nat} {fed:Nat}
end
def evsOf (s:St):List Ev:=join [] (out s.list s.text)
end Go.Proofs.YtmgfijllcdadgabGreatDoor
