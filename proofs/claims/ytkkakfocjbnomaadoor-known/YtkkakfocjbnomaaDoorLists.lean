/-
  HOW MANY EVENTS A BYTE TELLS (no Go, no memory).
-/
import Derived.Test.YtkkakfocjbnomaaDoorModel
namespace Go.Proofs.YtkkakfocjbnomaaDoor
set_option linter.unusedVariables false
set_option linter.unusedSimpArgs false
open Mk (St Bs Ev Att)

def Ls (s : St) (n : Nat) (s' : St) : Prop := s'.list.length ≤ s.list.length + n
theorem ls_eq {s s' : St} {n : Nat} (h : s'.list = s.list) : Ls s n s' := by unfold Ls; rw [h]; omega
theorem li_put (s : St) (c : Int) : (Mk.put s c).list = s.list := by unfold Mk.put; split <;> rfl
theorem li_putAll : ∀ (l : Bs) (s : St), (Mk.putAll s l).list = s.list
  | [], s => rfl
  | x :: r, s => (li_putAll r _).trans (li_put s _)
theorem li_goOn (s : St) (p : Int × Int) : (Mk.goOn s p).list = s.list := by unfold Mk.goOn; split <;> simp only [li_put]
theorem ls_endText (s : St) : Ls s 1 (Mk.endText s) := by unfold Ls Mk.endText; split <;> simp
theorem ls_add (s : St) (e : Ev) : Ls s 2 (Mk.add s e) := by have := ls_endText s; unfold Ls Mk.add at *; simp; omega
theorem ls_resume {s s' : St} {n : Nat} (h : Ls s n s') : Ls s n (Mk.resume s') := h
theorem ls_tellStart (s : St) : Ls s 2 (Mk.tellStart s) := ls_add s _
theorem ls_tellEnd (s : St) (n : Bs) : Ls s 2 (Mk.tellEnd s n) := ls_add s _
theorem Ls.mono {s s' : St} {n m : Nat} (h : Ls s n s') (hm : n ≤ m) : Ls s m s' := by unfold Ls at *; omega
theorem Ls.two {s s1 s2 : St} {n m k : Nat} (h : Ls s n s1) (h2 : Ls s1 m s2) (hk : n + m ≤ k) : Ls s k s2 := by unfold Ls at *; omega
theorem ls_endComment (s : St) : Ls s 4 (Mk.endComment s) := (ls_add (Mk.dropToken { s with held := [] }) _).mono (by decide)
theorem ls_endInstruction (s : St) : Ls s 4 (Mk.endInstruction s) := (ls_add (Mk.dropToken { s with held := [] }) _).mono (by decide)
theorem ls_endInnermost (s : St) : Ls s 4 (Mk.endInnermost s) := (ls_tellEnd { s with opn := s.opn.dropLast } _).mono (by decide)
theorem ls_readCharacter (s : St) (x : Int) : Ls s 4 (Mk.readCharacter s x).1 := by
  unfold Mk.readCharacter
  (repeat' split) <;> first | exact ls_eq rfl | exact ls_eq (li_put _ _) | exact ls_eq (li_goOn _ _) | exact ls_eq ((li_goOn _ _).trans (li_putAll _ _)) | exact ls_endComment _ | exact ls_endInstruction _ | exact ls_endInnermost _
theorem ls_readPart (s : St) (x : Int) : Ls s 4 (Mk.readPart s x).1 := by
  unfold Mk.readPart
  (repeat' split) <;> first | exact ls_eq rfl | exact ls_eq (li_put _ _) | exact ls_eq (li_goOn _ _) | exact ls_eq ((li_goOn _ _).trans (li_putAll _ _)) | exact ls_endComment _ | exact ls_endInstruction _ | exact ls_endInnermost _ | exact ls_readCharacter _ _
theorem ls_readReference (s : St) (x : Int) : Ls s 4 (Mk.readReference s x).1 := by
  unfold Mk.readReference
  (repeat' split) <;> first | exact ls_eq rfl | exact ls_eq (li_put _ _) | exact ls_eq (li_goOn _ _) | exact ls_eq ((li_goOn _ _).trans (li_putAll _ _)) | exact ls_endComment _ | exact ls_endInstruction _ | exact ls_endInnermost _ | exact ls_readCharacter _ _ | exact ls_readPart _ _
theorem ls_lengthenName (s : St) (x : Int) : Ls s 4 (Mk.lengthenName s x).1 := by
  unfold Mk.lengthenName
  (repeat' split) <;> first | exact ls_eq rfl | exact ls_eq (li_put _ _) | exact ls_eq (li_goOn _ _) | exact ls_eq ((li_goOn _ _).trans (li_putAll _ _)) | exact ls_endComment _ | exact ls_endInstruction _ | exact ls_endInnermost _ | exact ls_readCharacter _ _ | exact ls_readPart _ _ | exact ls_readReference _ _
theorem ls_readDash (s : St) (x : Int) : Ls s 4 (Mk.readDash s x).1 := by
  unfold Mk.readDash
  (repeat' split) <;> first | exact ls_eq rfl | exact ls_eq (li_put _ _) | exact ls_eq (li_goOn _ _) | exact ls_eq ((li_goOn _ _).trans (li_putAll _ _)) | exact ls_endComment _ | exact ls_endInstruction _ | exact ls_endInnermost _ | exact ls_readCharacter _ _ | exact ls_readPart _ _ | exact ls_readReference _ _ | exact ls_lengthenName _ _
theorem ls_readComment (s : St) (x : Int) : Ls s 4 (Mk.readComment s x).1 := by
  unfold Mk.readComment
  (repeat' split) <;> first | exact ls_eq rfl | exact ls_eq (li_put _ _) | exact ls_eq (li_goOn _ _) | exact ls_eq ((li_goOn _ _).trans (li_putAll _ _)) | exact ls_endComment _ | exact ls_endInstruction _ | exact ls_endInnermost _ | exact ls_readCharacter _ _ | exact ls_readPart _ _ | exact ls_readReference _ _ | exact ls_lengthenName _ _ | exact ls_readDash _ _
theorem ls_readInstructionName (s : St) (x : Int) : Ls s 4 (Mk.readInstructionName s x).1 := by
  unfold Mk.readInstructionName
  (repeat' split) <;> first | exact ls_eq rfl | exact ls_eq (li_put _ _) | exact ls_eq (li_goOn _ _) | exact ls_eq ((li_goOn _ _).trans (li_putAll _ _)) | exact ls_endComment _ | exact ls_endInstruction _ | exact ls_endInnermost _ | exact ls_readCharacter _ _ | exact ls_readPart _ _ | exact ls_readReference _ _ | exact ls_lengthenName _ _ | exact ls_readDash _ _ | exact ls_readComment _ _
theorem ls_readBareInstruction (s : St) (x : Int) : Ls s 4 (Mk.readBareInstruction s x).1 := by
  unfold Mk.readBareInstruction
  (repeat' split) <;> first | exact ls_eq rfl | exact ls_eq (li_put _ _) | exact ls_eq (li_goOn _ _) | exact ls_eq ((li_goOn _ _).trans (li_putAll _ _)) | exact ls_endComment _ | exact ls_endInstruction _ | exact ls_endInnermost _ | exact ls_readCharacter _ _ | exact ls_readPart _ _ | exact ls_readReference _ _ | exact ls_lengthenName _ _ | exact ls_readDash _ _ | exact ls_readComment _ _ | exact ls_readInstructionName _ _
theorem ls_readInstruction (s : St) (x : Int) : Ls s 4 (Mk.readInstruction s x).1 := by
  unfold Mk.readInstruction
  (repeat' split) <;> first | exact ls_eq rfl | exact ls_eq (li_put _ _) | exact ls_eq (li_goOn _ _) | exact ls_eq ((li_goOn _ _).trans (li_putAll _ _)) | exact ls_endComment _ | exact ls_endInstruction _ | exact ls_endInnermost _ | exact ls_readCharacter _ _ | exact ls_readPart _ _ | exact ls_readReference _ _ | exact ls_lengthenName _ _ | exact ls_readDash _ _ | exact ls_readComment _ _ | exact ls_readInstructionName _ _ | exact ls_readBareInstruction _ _
theorem ls_readInstructionSpace (s : St) (x : Int) : Ls s 4 (Mk.readInstructionSpace s x).1 := by
  unfold Mk.readInstructionSpace
  (repeat' split) <;> first | exact ls_eq rfl | exact ls_eq (li_put _ _) | exact ls_eq (li_goOn _ _) | exact ls_eq ((li_goOn _ _).trans (li_putAll _ _)) | exact ls_endComment _ | exact ls_endInstruction _ | exact ls_endInnermost _ | exact ls_readCharacter _ _ | exact ls_readPart _ _ | exact ls_readReference _ _ | exact ls_lengthenName _ _ | exact ls_readDash _ _ | exact ls_readComment _ _ | exact ls_readInstructionName _ _ | exact ls_readBareInstruction _ _ | exact ls_readInstruction _ _ | exact ls_readInstruction { s with state := 11 } x
theorem ls_readOutside (s : St) (x : Int) : Ls s 4 (Mk.readOutside s x).1 := by
  unfold Mk.readOutside
  (repeat' split) <;> first | exact ls_eq rfl | exact ls_eq (li_put _ _) | exact ls_eq (li_goOn _ _) | exact ls_eq ((li_goOn _ _).trans (li_putAll _ _)) | exact ls_endComment _ | exact ls_endInstruction _ | exact ls_endInnermost _ | exact ls_readCharacter _ _ | exact ls_readPart _ _ | exact ls_readReference _ _ | exact ls_lengthenName _ _ | exact ls_readDash _ _ | exact ls_readComment _ _ | exact ls_readInstructionName _ _ | exact ls_readBareInstruction _ _ | exact ls_readInstruction _ _ | exact ls_readInstructionSpace _ _ | exact ls_readCharacter { s with brackets := 0 } x | exact ls_readCharacter { s with brackets := if s.brackets == 0 then 1 else 2 } x | exact ls_eq (li_put { s with state := 12 } x)
theorem ls_readContent (s : St) (x : Int) : Ls s 4 (Mk.readContent s x).1 := by
  unfold Mk.readContent
  (repeat' split) <;> first | exact ls_eq rfl | exact ls_eq (li_put _ _) | exact ls_eq (li_goOn _ _) | exact ls_eq ((li_goOn _ _).trans (li_putAll _ _)) | exact ls_endComment _ | exact ls_endInstruction _ | exact ls_endInnermost _ | exact ls_readCharacter _ _ | exact ls_readPart _ _ | exact ls_readReference _ _ | exact ls_lengthenName _ _ | exact ls_readDash _ _ | exact ls_readComment _ _ | exact ls_readInstructionName _ _ | exact ls_readBareInstruction _ _ | exact ls_readInstruction _ _ | exact ls_readInstructionSpace _ _ | exact ls_readOutside _ _ | exact ls_readCharacter { s with brackets := 0 } x | exact ls_readCharacter { s with brackets := if s.brackets == 0 then 1 else 2 } x | exact ls_eq (li_put { s with state := 12 } x)
theorem ls_readSection (s : St) (x : Int) : Ls s 4 (Mk.readSection s x).1 := by
  unfold Mk.readSection
  (repeat' split) <;> first | exact ls_eq rfl | exact ls_eq (li_put _ _) | exact ls_eq (li_goOn _ _) | exact ls_eq ((li_goOn _ _).trans (li_putAll _ _)) | exact ls_endComment _ | exact ls_endInstruction _ | exact ls_endInnermost _ | exact ls_readCharacter _ _ | exact ls_readPart _ _ | exact ls_readReference _ _ | exact ls_lengthenName _ _ | exact ls_readDash _ _ | exact ls_readComment _ _ | exact ls_readInstructionName _ _ | exact ls_readBareInstruction _ _ | exact ls_readInstruction _ _ | exact ls_readInstructionSpace _ _ | exact ls_readOutside _ _ | exact ls_readContent _ _ | exact ls_readCharacter { s with brackets := 0 } x | exact ls_readCharacter { s with brackets := if s.brackets == 0 then 1 else 2 } x | exact ls_eq (li_put { s with state := 12 } x)
theorem ls_beginStart (s : St) (x : Int) : Ls s 4 (Mk.beginStart s x).1 := by
  unfold Mk.beginStart
  (repeat' split) <;> first | exact ls_eq rfl | exact ls_eq (li_put _ _) | exact ls_eq (li_goOn _ _) | exact ls_eq ((li_goOn _ _).trans (li_putAll _ _)) | exact ls_endComment _ | exact ls_endInstruction _ | exact ls_endInnermost _ | exact ls_readCharacter _ _ | exact ls_readPart _ _ | exact ls_readReference _ _ | exact ls_lengthenName _ _ | exact ls_readDash _ _ | exact ls_readComment _ _ | exact ls_readInstructionName _ _ | exact ls_readBareInstruction _ _ | exact ls_readInstruction _ _ | exact ls_readInstructionSpace _ _ | exact ls_readOutside _ _ | exact ls_readContent _ _ | exact ls_readSection _ _ | exact ls_readCharacter { s with brackets := 0 } x | exact ls_readCharacter { s with brackets := if s.brackets == 0 then 1 else 2 } x | exact ls_eq (li_put { s with state := 12 } x)
theorem ls_readLess (s : St) (x : Int) : Ls s 4 (Mk.readLess s x).1 := by
  unfold Mk.readLess
  (repeat' split) <;> first | exact ls_eq rfl | exact ls_eq (li_put _ _) | exact ls_eq (li_goOn _ _) | exact ls_eq ((li_goOn _ _).trans (li_putAll _ _)) | exact ls_endComment _ | exact ls_endInstruction _ | exact ls_endInnermost _ | exact ls_readCharacter _ _ | exact ls_readPart _ _ | exact ls_readReference _ _ | exact ls_lengthenName _ _ | exact ls_readDash _ _ | exact ls_readComment _ _ | exact ls_readInstructionName _ _ | exact ls_readBareInstruction _ _ | exact ls_readInstruction _ _ | exact ls_readInstructionSpace _ _ | exact ls_readOutside _ _ | exact ls_readContent _ _ | exact ls_readSection _ _ | exact ls_beginStart _ _ | exact ls_readCharacter { s with brackets := 0 } x | exact ls_readCharacter { s with brackets := if s.brackets == 0 then 1 else 2 } x | exact ls_eq (li_put { s with state := 12 } x)
theorem ls_readBang (s : St) (x : Int) : Ls s 4 (Mk.readBang s x).1 := by
  unfold Mk.readBang
  (repeat' split) <;> first | exact ls_eq rfl | exact ls_eq (li_put _ _) | exact ls_eq (li_goOn _ _) | exact ls_eq ((li_goOn _ _).trans (li_putAll _ _)) | exact ls_endComment _ | exact ls_endInstruction _ | exact ls_endInnermost _ | exact ls_readCharacter _ _ | exact ls_readPart _ _ | exact ls_readReference _ _ | exact ls_lengthenName _ _ | exact ls_readDash _ _ | exact ls_readComment _ _ | exact ls_readInstructionName _ _ | exact ls_readBareInstruction _ _ | exact ls_readInstruction _ _ | exact ls_readInstructionSpace _ _ | exact ls_readOutside _ _ | exact ls_readContent _ _ | exact ls_readSection _ _ | exact ls_beginStart _ _ | exact ls_readLess _ _ | exact ls_readCharacter { s with brackets := 0 } x | exact ls_readCharacter { s with brackets := if s.brackets == 0 then 1 else 2 } x | exact ls_eq (li_put { s with state := 12 } x)
theorem ls_readSectionMark (s : St) (x : Int) : Ls s 4 (Mk.readSectionMark s x).1 := by
  unfold Mk.readSectionMark
  (repeat' split) <;> first | exact ls_eq rfl | exact ls_eq (li_put _ _) | exact ls_eq (li_goOn _ _) | exact ls_eq ((li_goOn _ _).trans (li_putAll _ _)) | exact ls_endComment _ | exact ls_endInstruction _ | exact ls_endInnermost _ | exact ls_readCharacter _ _ | exact ls_readPart _ _ | exact ls_readReference _ _ | exact ls_lengthenName _ _ | exact ls_readDash _ _ | exact ls_readComment _ _ | exact ls_readInstructionName _ _ | exact ls_readBareInstruction _ _ | exact ls_readInstruction _ _ | exact ls_readInstructionSpace _ _ | exact ls_readOutside _ _ | exact ls_readContent _ _ | exact ls_readSection _ _ | exact ls_beginStart _ _ | exact ls_readLess _ _ | exact ls_readBang _ _ | exact ls_readCharacter { s with brackets := 0 } x | exact ls_readCharacter { s with brackets := if s.brackets == 0 then 1 else 2 } x | exact ls_eq (li_put { s with state := 12 } x)
theorem ls_readStartGap (s : St) (x : Int) : Ls s 4 (Mk.readStartGap s x).1 := by
  unfold Mk.readStartGap
  (repeat' split) <;> first | exact ls_eq rfl | exact ls_eq (li_put _ _) | exact ls_eq (li_goOn _ _) | exact ls_eq ((li_goOn _ _).trans (li_putAll _ _)) | exact ls_endComment _ | exact ls_endInstruction _ | exact ls_endInnermost _ | exact ls_readCharacter _ _ | exact ls_readPart _ _ | exact ls_readReference _ _ | exact ls_lengthenName _ _ | exact ls_readDash _ _ | exact ls_readComment _ _ | exact ls_readInstructionName _ _ | exact ls_readBareInstruction _ _ | exact ls_readInstruction _ _ | exact ls_readInstructionSpace _ _ | exact ls_readOutside _ _ | exact ls_readContent _ _ | exact ls_readSection _ _ | exact ls_beginStart _ _ | exact ls_readLess _ _ | exact ls_readBang _ _ | exact ls_readSectionMark _ _ | exact ((ls_tellStart s).mono (by decide) : Ls s 4 (Mk.tellStart s))
theorem ls_readStartName (s : St) (x : Int) : Ls s 4 (Mk.readStartName s x).1 := by
  unfold Mk.readStartName
  (repeat' split) <;> first | exact ls_eq rfl | exact ls_eq (li_put _ _) | exact ls_eq (li_goOn _ _) | exact ls_eq ((li_goOn _ _).trans (li_putAll _ _)) | exact ls_endComment _ | exact ls_endInstruction _ | exact ls_endInnermost _ | exact ls_readCharacter _ _ | exact ls_readPart _ _ | exact ls_readReference _ _ | exact ls_lengthenName _ _ | exact ls_readDash _ _ | exact ls_readComment _ _ | exact ls_readInstructionName _ _ | exact ls_readBareInstruction _ _ | exact ls_readInstruction _ _ | exact ls_readInstructionSpace _ _ | exact ls_readOutside _ _ | exact ls_readContent _ _ | exact ls_readSection _ _ | exact ls_beginStart _ _ | exact ls_readLess _ _ | exact ls_readBang _ _ | exact ls_readSectionMark _ _ | exact ls_readStartGap _ _ | exact ls_readStartGap { Mk.dropToken s with name := s.token } x
theorem ls_readStartSpace (s : St) (x : Int) : Ls s 4 (Mk.readStartSpace s x).1 := by
  unfold Mk.readStartSpace
  (repeat' split) <;> first | exact ls_eq rfl | exact ls_eq (li_put _ _) | exact ls_eq (li_goOn _ _) | exact ls_eq ((li_goOn _ _).trans (li_putAll _ _)) | exact ls_endComment _ | exact ls_endInstruction _ | exact ls_endInnermost _ | exact ls_readCharacter _ _ | exact ls_readPart _ _ | exact ls_readReference _ _ | exact ls_lengthenName _ _ | exact ls_readDash _ _ | exact ls_readComment _ _ | exact ls_readInstructionName _ _ | exact ls_readBareInstruction _ _ | exact ls_readInstruction _ _ | exact ls_readInstructionSpace _ _ | exact ls_readOutside _ _ | exact ls_readContent _ _ | exact ls_readSection _ _ | exact ls_beginStart _ _ | exact ls_readLess _ _ | exact ls_readBang _ _ | exact ls_readSectionMark _ _ | exact ls_readStartGap _ _ | exact ls_readStartName _ _ | exact ls_eq (li_put { s with state := 14 } x)
theorem ls_readSlash (s : St) (x : Int) : Ls s 4 (Mk.readSlash s x).1 := by
  unfold Mk.readSlash
  (repeat' split) <;> first | exact ls_eq rfl | exact ls_eq (li_put _ _) | exact ls_eq (li_goOn _ _) | exact ls_eq ((li_goOn _ _).trans (li_putAll _ _)) | exact ls_endComment _ | exact ls_endInstruction _ | exact ls_endInnermost _ | exact ls_readCharacter _ _ | exact ls_readPart _ _ | exact ls_readReference _ _ | exact ls_lengthenName _ _ | exact ls_readDash _ _ | exact ls_readComment _ _ | exact ls_readInstructionName _ _ | exact ls_readBareInstruction _ _ | exact ls_readInstruction _ _ | exact ls_readInstructionSpace _ _ | exact ls_readOutside _ _ | exact ls_readContent _ _ | exact ls_readSection _ _ | exact ls_beginStart _ _ | exact ls_readLess _ _ | exact ls_readBang _ _ | exact ls_readSectionMark _ _ | exact ls_readStartGap _ _ | exact ls_readStartName _ _ | exact ls_readStartSpace _ _ | exact ((ls_tellStart s).two (ls_tellEnd (Mk.tellStart s) s.name) (by decide) : Ls s 4 (Mk.tellEnd (Mk.tellStart s) s.name))
theorem ls_readAttrSpace (s : St) (x : Int) : Ls s 4 (Mk.readAttrSpace s x).1 := by
  unfold Mk.readAttrSpace
  (repeat' split) <;> first | exact ls_eq rfl | exact ls_eq (li_put _ _) | exact ls_eq (li_goOn _ _) | exact ls_eq ((li_goOn _ _).trans (li_putAll _ _)) | exact ls_endComment _ | exact ls_endInstruction _ | exact ls_endInnermost _ | exact ls_readCharacter _ _ | exact ls_readPart _ _ | exact ls_readReference _ _ | exact ls_lengthenName _ _ | exact ls_readDash _ _ | exact ls_readComment _ _ | exact ls_readInstructionName _ _ | exact ls_readBareInstruction _ _ | exact ls_readInstruction _ _ | exact ls_readInstructionSpace _ _ | exact ls_readOutside _ _ | exact ls_readContent _ _ | exact ls_readSection _ _ | exact ls_beginStart _ _ | exact ls_readLess _ _ | exact ls_readBang _ _ | exact ls_readSectionMark _ _ | exact ls_readStartGap _ _ | exact ls_readStartName _ _ | exact ls_readStartSpace _ _ | exact ls_readSlash _ _
theorem ls_lengthenAttrName (s : St) (x : Int) : Ls s 4 (Mk.lengthenAttrName s x).1 := by
  unfold Mk.lengthenAttrName
  (repeat' split) <;> first | exact ls_eq rfl | exact ls_eq (li_put _ _) | exact ls_eq (li_goOn _ _) | exact ls_eq ((li_goOn _ _).trans (li_putAll _ _)) | exact ls_endComment _ | exact ls_endInstruction _ | exact ls_endInnermost _ | exact ls_readCharacter _ _ | exact ls_readPart _ _ | exact ls_readReference _ _ | exact ls_lengthenName _ _ | exact ls_readDash _ _ | exact ls_readComment _ _ | exact ls_readInstructionName _ _ | exact ls_readBareInstruction _ _ | exact ls_readInstruction _ _ | exact ls_readInstructionSpace _ _ | exact ls_readOutside _ _ | exact ls_readContent _ _ | exact ls_readSection _ _ | exact ls_beginStart _ _ | exact ls_readLess _ _ | exact ls_readBang _ _ | exact ls_readSectionMark _ _ | exact ls_readStartGap _ _ | exact ls_readStartName _ _ | exact ls_readStartSpace _ _ | exact ls_readSlash _ _ | exact ls_readAttrSpace _ _
theorem ls_readAttrName (s : St) (x : Int) : Ls s 4 (Mk.readAttrName s x).1 := by
  unfold Mk.readAttrName
  (repeat' split) <;> first | exact ls_eq rfl | exact ls_eq (li_put _ _) | exact ls_eq (li_goOn _ _) | exact ls_eq ((li_goOn _ _).trans (li_putAll _ _)) | exact ls_endComment _ | exact ls_endInstruction _ | exact ls_endInnermost _ | exact ls_readCharacter _ _ | exact ls_readPart _ _ | exact ls_readReference _ _ | exact ls_lengthenName _ _ | exact ls_readDash _ _ | exact ls_readComment _ _ | exact ls_readInstructionName _ _ | exact ls_readBareInstruction _ _ | exact ls_readInstruction _ _ | exact ls_readInstructionSpace _ _ | exact ls_readOutside _ _ | exact ls_readContent _ _ | exact ls_readSection _ _ | exact ls_beginStart _ _ | exact ls_readLess _ _ | exact ls_readBang _ _ | exact ls_readSectionMark _ _ | exact ls_readStartGap _ _ | exact ls_readStartName _ _ | exact ls_readStartSpace _ _ | exact ls_readSlash _ _ | exact ls_readAttrSpace _ _ | exact ls_lengthenAttrName _ _ | exact ls_readAttrSpace { Mk.dropToken s with attr := s.token } x
theorem ls_readEquals (s : St) (x : Int) : Ls s 4 (Mk.readEquals s x).1 := by
  unfold Mk.readEquals
  (repeat' split) <;> first | exact ls_eq rfl | exact ls_eq (li_put _ _) | exact ls_eq (li_goOn _ _) | exact ls_eq ((li_goOn _ _).trans (li_putAll _ _)) | exact ls_endComment _ | exact ls_endInstruction _ | exact ls_endInnermost _ | exact ls_readCharacter _ _ | exact ls_readPart _ _ | exact ls_readReference _ _ | exact ls_lengthenName _ _ | exact ls_readDash _ _ | exact ls_readComment _ _ | exact ls_readInstructionName _ _ | exact ls_readBareInstruction _ _ | exact ls_readInstruction _ _ | exact ls_readInstructionSpace _ _ | exact ls_readOutside _ _ | exact ls_readContent _ _ | exact ls_readSection _ _ | exact ls_beginStart _ _ | exact ls_readLess _ _ | exact ls_readBang _ _ | exact ls_readSectionMark _ _ | exact ls_readStartGap _ _ | exact ls_readStartName _ _ | exact ls_readStartSpace _ _ | exact ls_readSlash _ _ | exact ls_readAttrSpace _ _ | exact ls_lengthenAttrName _ _ | exact ls_readAttrName _ _
theorem ls_readValue (s : St) (x : Int) : Ls s 4 (Mk.readValue s x).1 := by
  unfold Mk.readValue
  (repeat' split) <;> first | exact ls_eq rfl | exact ls_eq (li_put _ _) | exact ls_eq (li_goOn _ _) | exact ls_eq ((li_goOn _ _).trans (li_putAll _ _)) | exact ls_endComment _ | exact ls_endInstruction _ | exact ls_endInnermost _ | exact ls_readCharacter _ _ | exact ls_readPart _ _ | exact ls_readReference _ _ | exact ls_lengthenName _ _ | exact ls_readDash _ _ | exact ls_readComment _ _ | exact ls_readInstructionName _ _ | exact ls_readBareInstruction _ _ | exact ls_readInstruction _ _ | exact ls_readInstructionSpace _ _ | exact ls_readOutside _ _ | exact ls_readContent _ _ | exact ls_readSection _ _ | exact ls_beginStart _ _ | exact ls_readLess _ _ | exact ls_readBang _ _ | exact ls_readSectionMark _ _ | exact ls_readStartGap _ _ | exact ls_readStartName _ _ | exact ls_readStartSpace _ _ | exact ls_readSlash _ _ | exact ls_readAttrSpace _ _ | exact ls_lengthenAttrName _ _ | exact ls_readAttrName _ _ | exact ls_readEquals _ _
theorem ls_readEndSpace (s : St) (x : Int) : Ls s 4 (Mk.readEndSpace s x).1 := by
  unfold Mk.readEndSpace
  (repeat' split) <;> first | exact ls_eq rfl | exact ls_eq (li_put _ _) | exact ls_eq (li_goOn _ _) | exact ls_eq ((li_goOn _ _).trans (li_putAll _ _)) | exact ls_endComment _ | exact ls_endInstruction _ | exact ls_endInnermost _ | exact ls_readCharacter _ _ | exact ls_readPart _ _ | exact ls_readReference _ _ | exact ls_lengthenName _ _ | exact ls_readDash _ _ | exact ls_readComment _ _ | exact ls_readInstructionName _ _ | exact ls_readBareInstruction _ _ | exact ls_readInstruction _ _ | exact ls_readInstructionSpace _ _ | exact ls_readOutside _ _ | exact ls_readContent _ _ | exact ls_readSection _ _ | exact ls_beginStart _ _ | exact ls_readLess _ _ | exact ls_readBang _ _ | exact ls_readSectionMark _ _ | exact ls_readStartGap _ _ | exact ls_readStartName _ _ | exact ls_readStartSpace _ _ | exact ls_readSlash _ _ | exact ls_readAttrSpace _ _ | exact ls_lengthenAttrName _ _ | exact ls_readAttrName _ _ | exact ls_readEquals _ _ | exact ls_readValue _ _
theorem ls_readEndName (s : St) (x : Int) : Ls s 4 (Mk.readEndName s x).1 := by
  unfold Mk.readEndName
  (repeat' split) <;> first | exact ls_eq rfl | exact ls_eq (li_put _ _) | exact ls_eq (li_goOn _ _) | exact ls_eq ((li_goOn _ _).trans (li_putAll _ _)) | exact ls_endComment _ | exact ls_endInstruction _ | exact ls_endInnermost _ | exact ls_readCharacter _ _ | exact ls_readPart _ _ | exact ls_readReference _ _ | exact ls_lengthenName _ _ | exact ls_readDash _ _ | exact ls_readComment _ _ | exact ls_readInstructionName _ _ | exact ls_readBareInstruction _ _ | exact ls_readInstruction _ _ | exact ls_readInstructionSpace _ _ | exact ls_readOutside _ _ | exact ls_readContent _ _ | exact ls_readSection _ _ | exact ls_beginStart _ _ | exact ls_readLess _ _ | exact ls_readBang _ _ | exact ls_readSectionMark _ _ | exact ls_readStartGap _ _ | exact ls_readStartName _ _ | exact ls_readStartSpace _ _ | exact ls_readSlash _ _ | exact ls_readAttrSpace _ _ | exact ls_lengthenAttrName _ _ | exact ls_readAttrName _ _ | exact ls_readEquals _ _ | exact ls_readValue _ _ | exact ls_readEndSpace _ _
theorem ls_ite {s : St} {n : Nat} {c : Prop} [Decidable c] {a b : St × Int} (ha : Ls s n a.1) (hb : Ls s n b.1) : Ls s n (if c then a else b).1 := by split <;> assumption
theorem ls_readStartTag (s : St) (x : Int) : Ls s 4 (Mk.readStartTag s x).1 := by
  unfold Mk.readStartTag
  refine ls_ite (ls_readStartName s x) ?_
  refine ls_ite (ls_readStartSpace s x) ?_
  refine ls_ite (ls_readAttrName s x) ?_
  refine ls_ite (ls_readAttrSpace s x) ?_
  refine ls_ite (ls_readEquals s x) ?_
  refine ls_ite (ls_readStartGap s x) ?_
  exact ls_readSlash s x
theorem ls_readMark (s : St) (x : Int) : Ls s 4 (Mk.readMark s x).1 := by
  unfold Mk.readMark
  refine ls_ite (ls_readLess s x) ?_
  refine ls_ite (ls_readBang s x) ?_
  refine ls_ite (ls_readDash s x) ?_
  refine ls_ite (ls_readSectionMark s x) ?_
  refine ls_ite (ls_readInstructionName s x) ?_
  refine ls_ite (ls_readBareInstruction s x) ?_
  refine ls_ite (ls_readInstructionSpace s x) ?_
  refine ls_ite (ls_readEndName s x) ?_
  refine ls_ite (ls_readEndSpace s x) ?_
  exact ls_readStartTag s x
theorem ls_readByte (s : St) (x : Int) : Ls s 4 (Mk.readByte s x).1 := by
  unfold Mk.readByte
  refine ls_ite (ls_readPart s x) ?_
  refine ls_ite (ls_readReference s x) ?_
  refine ls_ite (ls_readOutside s x) ?_
  refine ls_ite (ls_readContent s x) ?_
  refine ls_ite (ls_readSection s x) ?_
  refine ls_ite (ls_readComment s x) ?_
  refine ls_ite (ls_readInstruction s x) ?_
  refine ls_ite (ls_readValue s x) ?_
  exact ls_readMark s x
theorem li_movePlace (s : St) (x : Int) : (Mk.movePlace s x).list = s.list := by
  unfold Mk.movePlace
  split
  · rfl
  · split <;> rfl
theorem ls_readOn (s : St) (x : Int) : Ls s 4 (Mk.readOn s x).1 := by
  have h := ls_readByte s x
  unfold Mk.readOn
  split
  · unfold Ls at h ⊢
    rw [li_movePlace]
    exact h
  · exact h
theorem ls_read (s : St) (x : Int) : Ls s 4 (Mk.read s x).1 := by
  unfold Mk.read
  refine ls_ite (ls_eq rfl) (ls_ite ?_ ?_)
  · exact ls_readOn { s with ret := true } 10
  · exact ls_readOn { s with ret := false } x
theorem ls_feedByte (s : St) (x : UInt8) : Ls s 4 (Mk.feedByte s x) := by
  unfold Mk.feedByte
  split
  · exact ls_read { s with at_ := s.at_ + 1 } x.toNat
  · exact ls_eq rfl
theorem ls_feedAll : ∀ (l : Bs) (s : St), Ls s (4 * l.length) (Mk.feedAll s l)
  | [], s => ls_eq rfl
  | x :: r, s => (ls_feedByte s x).two (ls_feedAll r _) (by simp; omega)
theorem feed_len (s : St) (l : Bs) (h : s.list = []) : (Mk.feed s l).2.1.length ≤ 4 * l.length + 1 := by
  unfold Mk.feed
  split
  · have h1 := ls_feedAll l s
    have h2 := ls_endText (Mk.feedAll s l)
    unfold Ls at h1 h2
    rw [h] at h1
    simp at h1 ⊢
    omega
  · simp
theorem feed_list (s : St) (l : Bs) (h : s.list = []) : (Mk.feed s l).1.list = [] := by
  unfold Mk.feed
  split
  · rfl
  · exact h
end Go.Proofs.YtkkakfocjbnomaaDoor
