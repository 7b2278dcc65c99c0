/- KeepsL, Inv -/
import Derived.Test.YtmgfijllcdadgabGreatDoorPM00
import Derived.Test.YtmgfijllcdadgabGreatDoorPM08
import Derived.Test.YtmgfijllcdadgabGreatDoorPM13
set_option linter.unusedVariables false
set_option linter.unusedSimpArgs false
namespace Go.Proofs.YtmgfijllcdadgabGreatDoor
open Mk (St Bs Ev Att)
theorem ln_put (s:St) (c:Int):(Mk.put s c).line=s.line:=by unfold Mk.put;split <;> rfl
theorem ln_putAll:∀ (l:Bs) (s:St),(Mk.putAll s l).line=s.line
  | [],s=>rfl
  | x :: r,s=>(ln_putAll r _).trans (ln_put s _)
theorem ln_goOn (s:St) (p:Int × Int):(Mk.goOn s p).line=s.line:=by unfold Mk.goOn;split <;> simp only [ln_put]
theorem ln_endText (s:St):(Mk.endText s).line=s.line:=by unfold Mk.endText;split <;> rfl
theorem ln_add (s:St) (e:Ev):(Mk.add s e).line=s.line:=by unfold Mk.add;simp only [ln_endText]
theorem ln_resume (s:St):(Mk.resume s).line=s.line:=rfl
theorem ln_dropToken (s:St):(Mk.dropToken s).line=s.line:=rfl
theorem ln_setRef (s:St) (r:Mk.Rf):(Mk.setRef s r).line=s.line:=rfl
theorem ln_bindAll:∀ (l:List (Bs × Bs)) (s:St),(Mk.bindAll s l).line=s.line
  | [],s=>rfl
  | p :: r,s=>(ln_bindAll r _).trans (ln_add s _)
theorem ln_unbindAll:∀ (l:List (Bs × Bs)) (s:St),(Mk.unbindAll s l).line=s.line
  | [],s=>rfl
  | p :: r,s=>(ln_unbindAll r _).trans (ln_add s _)
theorem ln_tellBinds (s:St):(Mk.tellBinds s).line=s.line:=ln_bindAll _ s
theorem ln_tellUnbinds (s:St):(Mk.tellUnbinds s).line=s.line:=ln_unbindAll _ s
theorem ln_leave (s:St):(Mk.leave s).line=s.line:=rfl
theorem ln_tellStart (s:St):(Mk.tellStart s).line=s.line:=by unfold Mk.tellStart;simp only [ln_add,ln_tellBinds]
theorem ln_tellEnd (s:St) (n:Bs):(Mk.tellEnd s n).line=s.line:=by unfold Mk.tellEnd;simp only [ln_resume,ln_leave,ln_tellUnbinds,ln_add]
theorem ln_declare (s:St):(Mk.declare s).1.line=s.line:=by unfold Mk.declare;dsimp only;split <;> rfl
theorem ln_enter (s:St):(Mk.enter s).1.line=s.line:=by unfold Mk.enter;(repeat' split) <;> simp only [ln_declare]
theorem ln_endStart (s:St) (x:Int):(Mk.endStart s x).line=s.line:=by unfold Mk.endStart;split <;> simp only [ln_resume,ln_tellStart]
theorem ln_endAttributes (s:St) (x:Int):(Mk.endAttributes s x).1.line=s.line:=by unfold Mk.endAttributes;(repeat' split) <;> simp only [ln_enter,ln_endStart]
theorem ln_endInnermost (s:St):(Mk.endInnermost s).line=s.line:=by unfold Mk.endInnermost;simp only [ln_tellEnd]
theorem ln_endComment (s:St):(Mk.endComment s).line=s.line:=by unfold Mk.endComment;simp only [ln_resume,ln_add,ln_dropToken]
theorem ln_endInstruction (s:St):(Mk.endInstruction s).line=s.line:=by unfold Mk.endInstruction;simp only [ln_resume,ln_add,ln_dropToken]
theorem ln_endValue (s:St):(Mk.endValue s).line=s.line:=rfl
theorem ln_readCharacter (s:St) (x:Int):(Mk.readCharacter s x).1.line=s.line:=by unfold Mk.readCharacter;(repeat' split) <;> simp only [ln_put,ln_putAll,ln_goOn,ln_endText,ln_add,ln_resume,ln_dropToken,ln_setRef,ln_tellStart,ln_tellEnd,ln_endInnermost,ln_endComment,ln_endInstruction,ln_endValue]
theorem ln_readPart (s:St) (x:Int):(Mk.readPart s x).1.line=s.line:=by unfold Mk.readPart;(repeat' split) <;> simp only [ln_put,ln_putAll,ln_goOn,ln_endText,ln_add,ln_resume,ln_dropToken,ln_setRef,ln_tellStart,ln_tellEnd,ln_endInnermost,ln_endComment,ln_endInstruction,ln_endValue,ln_readCharacter]
theorem ln_readReference (s:St) (x:Int):(Mk.readReference s x).1.line=s.line:=by unfold Mk.readReference;(repeat' split) <;> simp only [ln_put,ln_putAll,ln_goOn,ln_endText,ln_add,ln_resume,ln_dropToken,ln_setRef,ln_tellStart,ln_tellEnd,ln_endInnermost,ln_endComment,ln_endInstruction,ln_endValue,ln_readCharacter,ln_readPart]
theorem ln_lengthenName (s:St) (x:Int):(Mk.lengthenName s x).1.line=s.line:=by unfold Mk.lengthenName;(repeat' split) <;> simp only [ln_put,ln_putAll,ln_goOn,ln_endText,ln_add,ln_resume,ln_dropToken,ln_setRef,ln_tellStart,ln_tellEnd,ln_endInnermost,ln_endComment,ln_endInstruction,ln_endValue,ln_readCharacter,ln_readPart,ln_readReference]
theorem ln_readDash (s:St) (x:Int):(Mk.readDash s x).1.line=s.line:=by unfold Mk.readDash;(repeat' split) <;> simp only [ln_put,ln_putAll,ln_goOn,ln_endText,ln_add,ln_resume,ln_dropToken,ln_setRef,ln_tellStart,ln_tellEnd,ln_endInnermost,ln_endComment,ln_endInstruction,ln_endValue,ln_readCharacter,ln_readPart,ln_readReference,ln_lengthenName]
theorem ln_readComment (s:St) (x:Int):(Mk.readComment s x).1.line=s.line:=by unfold Mk.readComment;(repeat' split) <;> simp only [ln_put,ln_putAll,ln_goOn,ln_endText,ln_add,ln_resume,ln_dropToken,ln_setRef,ln_tellStart,ln_tellEnd,ln_endInnermost,ln_endComment,ln_endInstruction,ln_endValue,ln_readCharacter,ln_readPart,ln_readReference,ln_lengthenName,ln_readDash]
theorem ln_readInstructionName (s:St) (x:Int):(Mk.readInstructionName s x).1.line=s.line:=by unfold Mk.readInstructionName;(repeat' split) <;> simp only [ln_put,ln_putAll,ln_goOn,ln_endText,ln_add,ln_resume,ln_dropToken,ln_setRef,ln_tellStart,ln_tellEnd,ln_endInnermost,ln_endComment,ln_endInstruction,ln_endValue,ln_readCharacter,ln_readPart,ln_readReference,ln_lengthenName,ln_readDash,ln_readComment]
theorem ln_readBareInstruction (s:St) (x:Int):(Mk.readBareInstruction s x).1.line=s.line:=by unfold Mk.readBareInstruction;(repeat' split) <;> simp only [ln_put,ln_putAll,ln_goOn,ln_endText,ln_add,ln_resume,ln_dropToken,ln_setRef,ln_tellStart,ln_tellEnd,ln_endInnermost,ln_endComment,ln_endInstruction,ln_endValue,ln_readCharacter,ln_readPart,ln_readReference,ln_lengthenName,ln_readDash,ln_readComment,ln_readInstructionName]
theorem ln_readInstruction (s:St) (x:Int):(Mk.readInstruction s x).1.line=s.line:=by unfold Mk.readInstruction;(repeat' split) <;> simp only [ln_put,ln_putAll,ln_goOn,ln_endText,ln_add,ln_resume,ln_dropToken,ln_setRef,ln_tellStart,ln_tellEnd,ln_endInnermost,ln_endComment,ln_endInstruction,ln_endValue,ln_readCharacter,ln_readPart,ln_readReference,ln_lengthenName,ln_readDash,ln_readComment,ln_readInstructionName,ln_readBareInstruction]
theorem ln_readInstructionSpace (s:St) (x:Int):(Mk.readInstructionSpace s x).1.line=s.line:=by unfold Mk.readInstructionSpace;(repeat' split) <;> simp only [ln_put,ln_putAll,ln_goOn,ln_endText,ln_add,ln_resume,ln_dropToken,ln_setRef,ln_tellStart,ln_tellEnd,ln_endInnermost,ln_endComment,ln_endInstruction,ln_endValue,ln_readCharacter,ln_readPart,ln_readReference,ln_lengthenName,ln_readDash,ln_readComment,ln_readInstructionName,ln_readBareInstruction,ln_readInstruction]
theorem ln_readOutside (s:St) (x:Int):(Mk.readOutside s x).1.line=s.line:=by unfold Mk.readOutside;(repeat' split) <;> simp only [ln_put,ln_putAll,ln_goOn,ln_endText,ln_add,ln_resume,ln_dropToken,ln_setRef,ln_tellStart,ln_tellEnd,ln_endInnermost,ln_endComment,ln_endInstruction,ln_endValue,ln_readCharacter,ln_readPart,ln_readReference,ln_lengthenName,ln_readDash,ln_readComment,ln_readInstructionName,ln_readBareInstruction,ln_readInstruction,ln_readInstructionSpace]
theorem ln_readContent (s:St) (x:Int):(Mk.readContent s x).1.line=s.line:=by unfold Mk.readContent;(repeat' split) <;> simp only [ln_put,ln_putAll,ln_goOn,ln_endText,ln_add,ln_resume,ln_dropToken,ln_setRef,ln_tellStart,ln_tellEnd,ln_endInnermost,ln_endComment,ln_endInstruction,ln_endValue,ln_readCharacter,ln_readPart,ln_readReference,ln_lengthenName,ln_readDash,ln_readComment,ln_readInstructionName,ln_readBareInstruction,ln_readInstruction,ln_readInstructionSpace,ln_readOutside]
theorem ln_readSection (s:St) (x:Int):(Mk.readSection s x).1.line=s.line:=by unfold Mk.readSection;(repeat' split) <;> simp only [ln_put,ln_putAll,ln_goOn,ln_endText,ln_add,ln_resume,ln_dropToken,ln_setRef,ln_tellStart,ln_tellEnd,ln_endInnermost,ln_endComment,ln_endInstruction,ln_endValue,ln_readCharacter,ln_readPart,ln_readReference,ln_lengthenName,ln_readDash,ln_readComment,ln_readInstructionName,ln_readBareInstruction,ln_readInstruction,ln_readInstructionSpace,ln_readOutside,ln_readContent]
theorem ln_beginStart (s:St) (x:Int):(Mk.beginStart s x).1.line=s.line:=by unfold Mk.beginStart;(repeat' split) <;> simp only [ln_put,ln_putAll,ln_goOn,ln_endText,ln_add,ln_resume,ln_dropToken,ln_setRef,ln_tellStart,ln_tellEnd,ln_endInnermost,ln_endComment,ln_endInstruction,ln_endValue,ln_readCharacter,ln_readPart,ln_readReference,ln_lengthenName,ln_readDash,ln_readComment,ln_readInstructionName,ln_readBareInstruction,ln_readInstruction,ln_readInstructionSpace,ln_readOutside,ln_readContent,ln_readSection]
theorem ln_readLess (s:St) (x:Int):(Mk.readLess s x).1.line=s.line:=by unfold Mk.readLess;(repeat' split) <;> simp only [ln_put,ln_putAll,ln_goOn,ln_endText,ln_add,ln_resume,ln_dropToken,ln_setRef,ln_tellStart,ln_tellEnd,ln_endInnermost,ln_endComment,ln_endInstruction,ln_endValue,ln_readCharacter,ln_readPart,ln_readReference,ln_lengthenName,ln_readDash,ln_readComment,ln_readInstructionName,ln_readBareInstruction,ln_readInstruction,ln_readInstructionSpace,ln_readOutside,ln_readContent,ln_readSection,ln_beginStart]
theorem ln_readBang (s:St) (x:Int):(Mk.readBang s x).1.line=s.line:=by unfold Mk.readBang;(repeat' split) <;> simp only [ln_put,ln_putAll,ln_goOn,ln_endText,ln_add,ln_resume,ln_dropToken,ln_setRef,ln_tellStart,ln_tellEnd,ln_endInnermost,ln_endComment,ln_endInstruction,ln_endValue,ln_readCharacter,ln_readPart,ln_readReference,ln_lengthenName,ln_readDash,ln_readComment,ln_readInstructionName,ln_readBareInstruction,ln_readInstruction,ln_readInstructionSpace,ln_readOutside,ln_readContent,ln_readSection,ln_beginStart,ln_readLess]
theorem ln_readSectionMark (s:St) (x:Int):(Mk.readSectionMark s x).1.line=s.line:=by unfold Mk.readSectionMark;(repeat' split) <;> simp only [ln_put,ln_putAll,ln_goOn,ln_endText,ln_add,ln_resume,ln_dropToken,ln_setRef,ln_tellStart,ln_tellEnd,ln_endInnermost,ln_endComment,ln_endInstruction,ln_endValue,ln_readCharacter,ln_readPart,ln_readReference,ln_lengthenName,ln_readDash,ln_readComment,ln_readInstructionName,ln_readBareInstruction,ln_readInstruction,ln_readInstructionSpace,ln_readOutside,ln_readContent,ln_readSection,ln_beginStart,ln_readLess,ln_readBang]
theorem ln_readStartGap (s:St) (x:Int):(Mk.readStartGap s x).1.line=s.line:=by unfold Mk.readStartGap;(repeat' split) <;> simp only [ln_endAttributes,ln_put,ln_putAll,ln_goOn,ln_endText,ln_add,ln_resume,ln_dropToken,ln_setRef,ln_tellStart,ln_tellEnd,ln_endInnermost,ln_endComment,ln_endInstruction,ln_endValue,ln_readCharacter,ln_readPart,ln_readReference,ln_lengthenName,ln_readDash,ln_readComment,ln_readInstructionName,ln_readBareInstruction,ln_readInstruction,ln_readInstructionSpace,ln_readOutside,ln_readContent,ln_readSection,ln_beginStart,ln_readLess,ln_readBang,ln_readSectionMark]
theorem ln_readStartName (s:St) (x:Int):(Mk.readStartName s x).1.line=s.line:=by unfold Mk.readStartName;(repeat' split) <;> simp only [ln_put,ln_putAll,ln_goOn,ln_endText,ln_add,ln_resume,ln_dropToken,ln_setRef,ln_tellStart,ln_tellEnd,ln_endInnermost,ln_endComment,ln_endInstruction,ln_endValue,ln_readCharacter,ln_readPart,ln_readReference,ln_lengthenName,ln_readDash,ln_readComment,ln_readInstructionName,ln_readBareInstruction,ln_readInstruction,ln_readInstructionSpace,ln_readOutside,ln_readContent,ln_readSection,ln_beginStart,ln_readLess,ln_readBang,ln_readSectionMark,ln_readStartGap]
theorem ln_readStartSpace (s:St) (x:Int):(Mk.readStartSpace s x).1.line=s.line:=by unfold Mk.readStartSpace;(repeat' split) <;> simp only [ln_put,ln_putAll,ln_goOn,ln_endText,ln_add,ln_resume,ln_dropToken,ln_setRef,ln_tellStart,ln_tellEnd,ln_endInnermost,ln_endComment,ln_endInstruction,ln_endValue,ln_readCharacter,ln_readPart,ln_readReference,ln_lengthenName,ln_readDash,ln_readComment,ln_readInstructionName,ln_readBareInstruction,ln_readInstruction,ln_readInstructionSpace,ln_readOutside,ln_readContent,ln_readSection,ln_beginStart,ln_readLess,ln_readBang,ln_readSectionMark,ln_readStartGap,ln_readStartName]
theorem ln_readSlash (s:St) (x:Int):(Mk.readSlash s x).1.line=s.line:=by unfold Mk.readSlash;(repeat' split) <;> simp only [ln_put,ln_putAll,ln_goOn,ln_endText,ln_add,ln_resume,ln_dropToken,ln_setRef,ln_tellStart,ln_tellEnd,ln_endInnermost,ln_endComment,ln_endInstruction,ln_endValue,ln_readCharacter,ln_readPart,ln_readReference,ln_lengthenName,ln_readDash,ln_readComment,ln_readInstructionName,ln_readBareInstruction,ln_readInstruction,ln_readInstructionSpace,ln_readOutside,ln_readContent,ln_readSection,ln_beginStart,ln_readLess,ln_readBang,ln_readSectionMark,ln_readStartGap,ln_readStartName,ln_readStartSpace]
theorem ln_readAttrSpace (s:St) (x:Int):(Mk.readAttrSpace s x).1.line=s.line:=by unfold Mk.readAttrSpace;(repeat' split) <;> simp only [ln_put,ln_putAll,ln_goOn,ln_endText,ln_add,ln_resume,ln_dropToken,ln_setRef,ln_tellStart,ln_tellEnd,ln_endInnermost,ln_endComment,ln_endInstruction,ln_endValue,ln_readCharacter,ln_readPart,ln_readReference,ln_lengthenName,ln_readDash,ln_readComment,ln_readInstructionName,ln_readBareInstruction,ln_readInstruction,ln_readInstructionSpace,ln_readOutside,ln_readContent,ln_readSection,ln_beginStart,ln_readLess,ln_readBang,ln_readSectionMark,ln_readStartGap,ln_readStartName,ln_readStartSpace,ln_readSlash]
theorem ln_lengthenAttrName (s:St) (x:Int):(Mk.lengthenAttrName s x).1.line=s.line:=by unfold Mk.lengthenAttrName;(repeat' split) <;> simp only [ln_put,ln_putAll,ln_goOn,ln_endText,ln_add,ln_resume,ln_dropToken,ln_setRef,ln_tellStart,ln_tellEnd,ln_endInnermost,ln_endComment,ln_endInstruction,ln_endValue,ln_readCharacter,ln_readPart,ln_readReference,ln_lengthenName,ln_readDash,ln_readComment,ln_readInstructionName,ln_readBareInstruction,ln_readInstruction,ln_readInstructionSpace,ln_readOutside,ln_readContent,ln_readSection,ln_beginStart,ln_readLess,ln_readBang,ln_readSectionMark,ln_readStartGap,ln_readStartName,ln_readStartSpace,ln_readSlash,ln_readAttrSpace]
theorem ln_readAttrName (s:St) (x:Int):(Mk.readAttrName s x).1.line=s.line:=by unfold Mk.readAttrName;(repeat' split) <;> simp only [ln_put,ln_putAll,ln_goOn,ln_endText,ln_add,ln_resume,ln_dropToken,ln_setRef,ln_tellStart,ln_tellEnd,ln_endInnermost,ln_endComment,ln_endInstruction,ln_endValue,ln_readCharacter,ln_readPart,ln_readReference,ln_lengthenName,ln_readDash,ln_readComment,ln_readInstructionName,ln_readBareInstruction,ln_readInstruction,ln_readInstructionSpace,ln_readOutside,ln_readContent,ln_readSection,ln_beginStart,ln_readLess,ln_readBang,ln_readSectionMark,ln_readStartGap,ln_readStartName,ln_readStartSpace,ln_readSlash,ln_readAttrSpace,ln_lengthenAttrName]
theorem ln_readEquals (s:St) (x:Int):(Mk.readEquals s x).1.line=s.line:=by unfold Mk.readEquals;(repeat' split) <;> simp only [ln_put,ln_putAll,ln_goOn,ln_endText,ln_add,ln_resume,ln_dropToken,ln_setRef,ln_tellStart,ln_tellEnd,ln_endInnermost,ln_endComment,ln_endInstruction,ln_endValue,ln_readCharacter,ln_readPart,ln_readReference,ln_lengthenName,ln_readDash,ln_readComment,ln_readInstructionName,ln_readBareInstruction,ln_readInstruction,ln_readInstructionSpace,ln_readOutside,ln_readContent,ln_readSection,ln_beginStart,ln_readLess,ln_readBang,ln_readSectionMark,ln_readStartGap,ln_readStartName,ln_readStartSpace,ln_readSlash,ln_readAttrSpace,ln_lengthenAttrName,ln_readAttrName]
theorem ln_readValue (s:St) (x:Int):(Mk.readValue s x).1.line=s.line:=by unfold Mk.readValue;(repeat' split) <;> simp only [ln_put,ln_putAll,ln_goOn,ln_endText,ln_add,ln_resume,ln_dropToken,ln_setRef,ln_tellStart,ln_tellEnd,ln_endInnermost,ln_endComment,ln_endInstruction,ln_endValue,ln_readCharacter,ln_readPart,ln_readReference,ln_lengthenName,ln_readDash,ln_readComment,ln_readInstructionName,ln_readBareInstruction,ln_readInstruction,ln_readInstructionSpace,ln_readOutside,ln_readContent,ln_readSection,ln_beginStart,ln_readLess,ln_readBang,ln_readSectionMark,ln_readStartGap,ln_readStartName,ln_readStartSpace,ln_readSlash,ln_readAttrSpace,ln_lengthenAttrName,ln_readAttrName,ln_readEquals]
theorem ln_readEndSpace (s:St) (x:Int):(Mk.readEndSpace s x).1.line=s.line:=by unfold Mk.readEndSpace;(repeat' split) <;> simp only [ln_put,ln_putAll,ln_goOn,ln_endText,ln_add,ln_resume,ln_dropToken,ln_setRef,ln_tellStart,ln_tellEnd,ln_endInnermost,ln_endComment,ln_endInstruction,ln_endValue,ln_readCharacter,ln_readPart,ln_readReference,ln_lengthenName,ln_readDash,ln_readComment,ln_readInstructionName,ln_readBareInstruction,ln_readInstruction,ln_readInstructionSpace,ln_readOutside,ln_readContent,ln_readSection,ln_beginStart,ln_readLess,ln_readBang,ln_readSectionMark,ln_readStartGap,ln_readStartName,ln_readStartSpace,ln_readSlash,ln_readAttrSpace,ln_lengthenAttrName,ln_readAttrName,ln_readEquals,ln_readValue]
theorem ln_readEndName (s:St) (x:Int):(Mk.readEndName s x).1.line=s.line:=by unfold Mk.readEndName;(repeat' split) <;> simp only [ln_put,ln_putAll,ln_goOn,ln_endText,ln_add,ln_resume,ln_dropToken,ln_setRef,ln_tellStart,ln_tellEnd,ln_endInnermost,ln_endComment,ln_endInstruction,ln_endValue,ln_readCharacter,ln_readPart,ln_readReference,ln_lengthenName,ln_readDash,ln_readComment,ln_readInstructionName,ln_readBareInstruction,ln_readInstruction,ln_readInstructionSpace,ln_readOutside,ln_readContent,ln_readSection,ln_beginStart,ln_readLess,ln_readBang,ln_readSectionMark,ln_readStartGap,ln_readStartName,ln_readStartSpace,ln_readSlash,ln_readAttrSpace,ln_lengthenAttrName,ln_readAttrName,ln_readEquals,ln_readValue,ln_readEndSpace]
theorem ln_readStartTag (s:St) (x:Int):(Mk.readStartTag s x).1.line=s.line:=by unfold Mk.readStartTag;(repeat' split) <;> simp only [ln_put,ln_putAll,ln_goOn,ln_endText,ln_add,ln_resume,ln_dropToken,ln_setRef,ln_tellStart,ln_tellEnd,ln_endInnermost,ln_endComment,ln_endInstruction,ln_endValue,ln_readCharacter,ln_readPart,ln_readReference,ln_lengthenName,ln_readDash,ln_readComment,ln_readInstructionName,ln_readBareInstruction,ln_readInstruction,ln_readInstructionSpace,ln_readOutside,ln_readContent,ln_readSection,ln_beginStart,ln_readLess,ln_readBang,ln_readSectionMark,ln_readStartGap,ln_readStartName,ln_readStartSpace,ln_readSlash,ln_readAttrSpace,ln_lengthenAttrName,ln_readAttrName,ln_readEquals,ln_readValue,ln_readEndSpace,ln_readEndName]
theorem ln_readMark (s:St) (x:Int):(Mk.readMark s x).1.line=s.line:=by unfold Mk.readMark;(repeat' split) <;> simp only [ln_put,ln_putAll,ln_goOn,ln_endText,ln_add,ln_resume,ln_dropToken,ln_setRef,ln_tellStart,ln_tellEnd,ln_endInnermost,ln_endComment,ln_endInstruction,ln_endValue,ln_readCharacter,ln_readPart,ln_readReference,ln_lengthenName,ln_readDash,ln_readComment,ln_readInstructionName,ln_readBareInstruction,ln_readInstruction,ln_readInstructionSpace,ln_readOutside,ln_readContent,ln_readSection,ln_beginStart,ln_readLess,ln_readBang,ln_readSectionMark,ln_readStartGap,ln_readStartName,ln_readStartSpace,ln_readSlash,ln_readAttrSpace,ln_lengthenAttrName,ln_readAttrName,ln_readEquals,ln_readValue,ln_readEndSpace,ln_readEndName,ln_readStartTag]
theorem ln_readByte (s:St) (x:Int):(Mk.readByte s x).1.line=s.line:=by unfold Mk.readByte;(repeat' split) <;> simp only [ln_put,ln_putAll,ln_goOn,ln_endText,ln_add,ln_resume,ln_dropToken,ln_setRef,ln_tellStart,ln_tellEnd,ln_endInnermost,ln_endComment,ln_endInstruction,ln_endValue,ln_readCharacter,ln_readPart,ln_readReference,ln_lengthenName,ln_readDash,ln_readComment,ln_readInstructionName,ln_readBareInstruction,ln_readInstruction,ln_readInstructionSpace,ln_readOutside,ln_readContent,ln_readSection,ln_beginStart,ln_readLess,ln_readBang,ln_readSectionMark,ln_readStartGap,ln_readStartName,ln_readStartSpace,ln_readSlash,ln_readAttrSpace,ln_lengthenAttrName,ln_readAttrName,ln_readEquals,ln_readValue,ln_readEndSpace,ln_readEndName,ln_readStartTag,ln_readMark]
theorem co_put (s:St) (c:Int):(Mk.put s c).column=s.column:=by unfold Mk.put;split <;> rfl
theorem co_putAll:∀ (l:Bs) (s:St),(Mk.putAll s l).column=s.column
  | [],s=>rfl
  | x :: r,s=>(co_putAll r _).trans (co_put s _)
theorem co_goOn (s:St) (p:Int × Int):(Mk.goOn s p).column=s.column:=by unfold Mk.goOn;split <;> simp only [co_put]
theorem co_endText (s:St):(Mk.endText s).column=s.column:=by unfold Mk.endText;split <;> rfl
theorem co_add (s:St) (e:Ev):(Mk.add s e).column=s.column:=by unfold Mk.add;simp only [co_endText]
theorem co_resume (s:St):(Mk.resume s).column=s.column:=rfl
theorem co_dropToken (s:St):(Mk.dropToken s).column=s.column:=rfl
theorem co_setRef (s:St) (r:Mk.Rf):(Mk.setRef s r).column=s.column:=rfl
theorem co_bindAll:∀ (l:List (Bs × Bs)) (s:St),(Mk.bindAll s l).column=s.column
  | [],s=>rfl
  | p :: r,s=>(co_bindAll r _).trans (co_add s _)
theorem co_unbindAll:∀ (l:List (Bs × Bs)) (s:St),(Mk.unbindAll s l).column=s.column
  | [],s=>rfl
  | p :: r,s=>(co_unbindAll r _).trans (co_add s _)
theorem co_tellBinds (s:St):(Mk.tellBinds s).column=s.column:=co_bindAll _ s
theorem co_tellUnbinds (s:St):(Mk.tellUnbinds s).column=s.column:=co_unbindAll _ s
theorem co_leave (s:St):(Mk.leave s).column=s.column:=rfl
theorem co_tellStart (s:St):(Mk.tellStart s).column=s.column:=by unfold Mk.tellStart;simp only [co_add,co_tellBinds]
theorem co_tellEnd (s:St) (n:Bs):(Mk.tellEnd s n).column=s.column:=by unfold Mk.tellEnd;simp only [co_resume,co_leave,co_tellUnbinds,co_add]
theorem co_declare (s:St):(Mk.declare s).1.column=s.column:=by unfold Mk.declare;dsimp only;split <;> rfl
theorem co_enter (s:St):(Mk.enter s).1.column=s.column:=by unfold Mk.enter;(repeat' split) <;> simp only [co_declare]
theorem co_endStart (s:St) (x:Int):(Mk.endStart s x).column=s.column:=by unfold Mk.endStart;split <;> simp only [co_resume,co_tellStart]
theorem co_endAttributes (s:St) (x:Int):(Mk.endAttributes s x).1.column=s.column:=by unfold Mk.endAttributes;(repeat' split) <;> simp only [co_enter,co_endStart]
theorem co_endInnermost (s:St):(Mk.endInnermost s).column=s.column:=by unfold Mk.endInnermost;simp only [co_tellEnd]
theorem co_endComment (s:St):(Mk.endComment s).column=s.column:=by unfold Mk.endComment;simp only [co_resume,co_add,co_dropToken]
theorem co_endInstruction (s:St):(Mk.endInstruction s).column=s.column:=by unfold Mk.endInstruction;simp only [co_resume,co_add,co_dropToken]
theorem co_endValue (s:St):(Mk.endValue s).column=s.column:=rfl
theorem co_readCharacter (s:St) (x:Int):(Mk.readCharacter s x).1.column=s.column:=by unfold Mk.readCharacter;(repeat' split) <;> simp only [co_put,co_putAll,co_goOn,co_endText,co_add,co_resume,co_dropToken,co_setRef,co_tellStart,co_tellEnd,co_endInnermost,co_endComment,co_endInstruction,co_endValue]
theorem co_readPart (s:St) (x:Int):(Mk.readPart s x).1.column=s.column:=by unfold Mk.readPart;(repeat' split) <;> simp only [co_put,co_putAll,co_goOn,co_endText,co_add,co_resume,co_dropToken,co_setRef,co_tellStart,co_tellEnd,co_endInnermost,co_endComment,co_endInstruction,co_endValue,co_readCharacter]
theorem co_readReference (s:St) (x:Int):(Mk.readReference s x).1.column=s.column:=by unfold Mk.readReference;(repeat' split) <;> simp only [co_put,co_putAll,co_goOn,co_endText,co_add,co_resume,co_dropToken,co_setRef,co_tellStart,co_tellEnd,co_endInnermost,co_endComment,co_endInstruction,co_endValue,co_readCharacter,co_readPart]
theorem co_lengthenName (s:St) (x:Int):(Mk.lengthenName s x).1.column=s.column:=by unfold Mk.lengthenName;(repeat' split) <;> simp only [co_put,co_putAll,co_goOn,co_endText,co_add,co_resume,co_dropToken,co_setRef,co_tellStart,co_tellEnd,co_endInnermost,co_endComment,co_endInstruction,co_endValue,co_readCharacter,co_readPart,co_readReference]
theorem co_readDash (s:St) (x:Int):(Mk.readDash s x).1.column=s.column:=by unfold Mk.readDash;(repeat' split) <;> simp only [co_put,co_putAll,co_goOn,co_endText,co_add,co_resume,co_dropToken,co_setRef,co_tellStart,co_tellEnd,co_endInnermost,co_endComment,co_endInstruction,co_endValue,co_readCharacter,co_readPart,co_readReference,co_lengthenName]
theorem co_readComment (s:St) (x:Int):(Mk.readComment s x).1.column=s.column:=by unfold Mk.readComment;(repeat' split) <;> simp only [co_put,co_putAll,co_goOn,co_endText,co_add,co_resume,co_dropToken,co_setRef,co_tellStart,co_tellEnd,co_endInnermost,co_endComment,co_endInstruction,co_endValue,co_readCharacter,co_readPart,co_readReference,co_lengthenName,co_readDash]
theorem co_readInstructionName (s:St) (x:Int):(Mk.readInstructionName s x).1.column=s.column:=by unfold Mk.readInstructionName;(repeat' split) <;> simp only [co_put,co_putAll,co_goOn,co_endText,co_add,co_resume,co_dropToken,co_setRef,co_tellStart,co_tellEnd,co_endInnermost,co_endComment,co_endInstruction,co_endValue,co_readCharacter,co_readPart,co_readReference,co_lengthenName,co_readDash,co_readComment]
theorem co_readBareInstruction (s:St) (x:Int):(Mk.readBareInstruction s x).1.column=s.column:=by unfold Mk.readBareInstruction;(repeat' split) <;> simp only [co_put,co_putAll,co_goOn,co_endText,co_add,co_resume,co_dropToken,co_setRef,co_tellStart,co_tellEnd,co_endInnermost,co_endComment,co_endInstruction,co_endValue,co_readCharacter,co_readPart,co_readReference,co_lengthenName,co_readDash,co_readComment,co_readInstructionName]
theorem co_readInstruction (s:St) (x:Int):(Mk.readInstruction s x).1.column=s.column:=by unfold Mk.readInstruction;(repeat' split) <;> simp only [co_put,co_putAll,co_goOn,co_endText,co_add,co_resume,co_dropToken,co_setRef,co_tellStart,co_tellEnd,co_endInnermost,co_endComment,co_endInstruction,co_endValue,co_readCharacter,co_readPart,co_readReference,co_lengthenName,co_readDash,co_readComment,co_readInstructionName,co_readBareInstruction]
theorem co_readInstructionSpace (s:St) (x:Int):(Mk.readInstructionSpace s x).1.column=s.column:=by unfold Mk.readInstructionSpace;(repeat' split) <;> simp only [co_put,co_putAll,co_goOn,co_endText,co_add,co_resume,co_dropToken,co_setRef,co_tellStart,co_tellEnd,co_endInnermost,co_endComment,co_endInstruction,co_endValue,co_readCharacter,co_readPart,co_readReference,co_lengthenName,co_readDash,co_readComment,co_readInstructionName,co_readBareInstruction,co_readInstruction]
theorem co_readOutside (s:St) (x:Int):(Mk.readOutside s x).1.column=s.column:=by unfold Mk.readOutside;(repeat' split) <;> simp only [co_put,co_putAll,co_goOn,co_endText,co_add,co_resume,co_dropToken,co_setRef,co_tellStart,co_tellEnd,co_endInnermost,co_endComment,co_endInstruction,co_endValue,co_readCharacter,co_readPart,co_readReference,co_lengthenName,co_readDash,co_readComment,co_readInstructionName,co_readBareInstruction,co_readInstruction,co_readInstructionSpace]
theorem co_readContent (s:St) (x:Int):(Mk.readContent s x).1.column=s.column:=by unfold Mk.readContent;(repeat' split) <;> simp only [co_put,co_putAll,co_goOn,co_endText,co_add,co_resume,co_dropToken,co_setRef,co_tellStart,co_tellEnd,co_endInnermost,co_endComment,co_endInstruction,co_endValue,co_readCharacter,co_readPart,co_readReference,co_lengthenName,co_readDash,co_readComment,co_readInstructionName,co_readBareInstruction,co_readInstruction,co_readInstructionSpace,co_readOutside]
theorem co_readSection (s:St) (x:Int):(Mk.readSection s x).1.column=s.column:=by unfold Mk.readSection;(repeat' split) <;> simp only [co_put,co_putAll,co_goOn,co_endText,co_add,co_resume,co_dropToken,co_setRef,co_tellStart,co_tellEnd,co_endInnermost,co_endComment,co_endInstruction,co_endValue,co_readCharacter,co_readPart,co_readReference,co_lengthenName,co_readDash,co_readComment,co_readInstructionName,co_readBareInstruction,co_readInstruction,co_readInstructionSpace,co_readOutside,co_readContent]
theorem co_beginStart (s:St) (x:Int):(Mk.beginStart s x).1.column=s.column:=by unfold Mk.beginStart;(repeat' split) <;> simp only [co_put,co_putAll,co_goOn,co_endText,co_add,co_resume,co_dropToken,co_setRef,co_tellStart,co_tellEnd,co_endInnermost,co_endComment,co_endInstruction,co_endValue,co_readCharacter,co_readPart,co_readReference,co_lengthenName,co_readDash,co_readComment,co_readInstructionName,co_readBareInstruction,co_readInstruction,co_readInstructionSpace,co_readOutside,co_readContent,co_readSection]
theorem co_readLess (s:St) (x:Int):(Mk.readLess s x).1.column=s.column:=by unfold Mk.readLess;(repeat' split) <;> simp only [co_put,co_putAll,co_goOn,co_endText,co_add,co_resume,co_dropToken,co_setRef,co_tellStart,co_tellEnd,co_endInnermost,co_endComment,co_endInstruction,co_endValue,co_readCharacter,co_readPart,co_readReference,co_lengthenName,co_readDash,co_readComment,co_readInstructionName,co_readBareInstruction,co_readInstruction,co_readInstructionSpace,co_readOutside,co_readContent,co_readSection,co_beginStart]
theorem co_readBang (s:St) (x:Int):(Mk.readBang s x).1.column=s.column:=by unfold Mk.readBang;(repeat' split) <;> simp only [co_put,co_putAll,co_goOn,co_endText,co_add,co_resume,co_dropToken,co_setRef,co_tellStart,co_tellEnd,co_endInnermost,co_endComment,co_endInstruction,co_endValue,co_readCharacter,co_readPart,co_readReference,co_lengthenName,co_readDash,co_readComment,co_readInstructionName,co_readBareInstruction,co_readInstruction,co_readInstructionSpace,co_readOutside,co_readContent,co_readSection,co_beginStart,co_readLess]
theorem co_readSectionMark (s:St) (x:Int):(Mk.readSectionMark s x).1.column=s.column:=by unfold Mk.readSectionMark;(repeat' split) <;> simp only [co_put,co_putAll,co_goOn,co_endText,co_add,co_resume,co_dropToken,co_setRef,co_tellStart,co_tellEnd,co_endInnermost,co_endComment,co_endInstruction,co_endValue,co_readCharacter,co_readPart,co_readReference,co_lengthenName,co_readDash,co_readComment,co_readInstructionName,co_readBareInstruction,co_readInstruction,co_readInstructionSpace,co_readOutside,co_readContent,co_readSection,co_beginStart,co_readLess,co_readBang]
theorem co_readStartGap (s:St) (x:Int):(Mk.readStartGap s x).1.column=s.column:=by unfold Mk.readStartGap;(repeat' split) <;> simp only [co_endAttributes,co_put,co_putAll,co_goOn,co_endText,co_add,co_resume,co_dropToken,co_setRef,co_tellStart,co_tellEnd,co_endInnermost,co_endComment,co_endInstruction,co_endValue,co_readCharacter,co_readPart,co_readReference,co_lengthenName,co_readDash,co_readComment,co_readInstructionName,co_readBareInstruction,co_readInstruction,co_readInstructionSpace,co_readOutside,co_readContent,co_readSection,co_beginStart,co_readLess,co_readBang,co_readSectionMark]
theorem co_readStartName (s:St) (x:Int):(Mk.readStartName s x).1.column=s.column:=by unfold Mk.readStartName;(repeat' split) <;> simp only [co_put,co_putAll,co_goOn,co_endText,co_add,co_resume,co_dropToken,co_setRef,co_tellStart,co_tellEnd,co_endInnermost,co_endComment,co_endInstruction,co_endValue,co_readCharacter,co_readPart,co_readReference,co_lengthenName,co_readDash,co_readComment,co_readInstructionName,co_readBareInstruction,co_readInstruction,co_readInstructionSpace,co_readOutside,co_readContent,co_readSection,co_beginStart,co_readLess,co_readBang,co_readSectionMark,co_readStartGap]
theorem co_readStartSpace (s:St) (x:Int):(Mk.readStartSpace s x).1.column=s.column:=by unfold Mk.readStartSpace;(repeat' split) <;> simp only [co_put,co_putAll,co_goOn,co_endText,co_add,co_resume,co_dropToken,co_setRef,co_tellStart,co_tellEnd,co_endInnermost,co_endComment,co_endInstruction,co_endValue,co_readCharacter,co_readPart,co_readReference,co_lengthenName,co_readDash,co_readComment,co_readInstructionName,co_readBareInstruction,co_readInstruction,co_readInstructionSpace,co_readOutside,co_readContent,co_readSection,co_beginStart,co_readLess,co_readBang,co_readSectionMark,co_readStartGap,co_readStartName]
theorem co_readSlash (s:St) (x:Int):(Mk.readSlash s x).1.column=s.column:=by unfold Mk.readSlash;(repeat' split) <;> simp only [co_put,co_putAll,co_goOn,co_endText,co_add,co_resume,co_dropToken,co_setRef,co_tellStart,co_tellEnd,co_endInnermost,co_endComment,co_endInstruction,co_endValue,co_readCharacter,co_readPart,co_readReference,co_lengthenName,co_readDash,co_readComment,co_readInstructionName,co_readBareInstruction,co_readInstruction,co_readInstructionSpace,co_readOutside,co_readContent,co_readSection,co_beginStart,co_readLess,co_readBang,co_readSectionMark,co_readStartGap,co_readStartName,co_readStartSpace]
theorem co_readAttrSpace (s:St) (x:Int):(Mk.readAttrSpace s x).1.column=s.column:=by unfold Mk.readAttrSpace;(repeat' split) <;> simp only [co_put,co_putAll,co_goOn,co_endText,co_add,co_resume,co_dropToken,co_setRef,co_tellStart,co_tellEnd,co_endInnermost,co_endComment,co_endInstruction,co_endValue,co_readCharacter,co_readPart,co_readReference,co_lengthenName,co_readDash,co_readComment,co_readInstructionName,co_readBareInstruction,co_readInstruction,co_readInstructionSpace,co_readOutside,co_readContent,co_readSection,co_beginStart,co_readLess,co_readBang,co_readSectionMark,co_readStartGap,co_readStartName,co_readStartSpace,co_readSlash]
theorem co_lengthenAttrName (s:St) (x:Int):(Mk.lengthenAttrName s x).1.column=s.column:=by unfold Mk.lengthenAttrName;(repeat' split) <;> simp only [co_put,co_putAll,co_goOn,co_endText,co_add,co_resume,co_dropToken,co_setRef,co_tellStart,co_tellEnd,co_endInnermost,co_endComment,co_endInstruction,co_endValue,co_readCharacter,co_readPart,co_readReference,co_lengthenName,co_readDash,co_readComment,co_readInstructionName,co_readBareInstruction,co_readInstruction,co_readInstructionSpace,co_readOutside,co_readContent,co_readSection,co_beginStart,co_readLess,co_readBang,co_readSectionMark,co_readStartGap,co_readStartName,co_readStartSpace,co_readSlash,co_readAttrSpace]
theorem co_readAttrName (s:St) (x:Int):(Mk.readAttrName s x).1.column=s.column:=by unfold Mk.readAttrName;(repeat' split) <;> simp only [co_put,co_putAll,co_goOn,co_endText,co_add,co_resume,co_dropToken,co_setRef,co_tellStart,co_tellEnd,co_endInnermost,co_endComment,co_endInstruction,co_endValue,co_readCharacter,co_readPart,co_readReference,co_lengthenName,co_readDash,co_readComment,co_readInstructionName,co_readBareInstruction,co_readInstruction,co_readInstructionSpace,co_readOutside,co_readContent,co_readSection,co_beginStart,co_readLess,co_readBang,co_readSectionMark,co_readStartGap,co_readStartName,co_readStartSpace,co_readSlash,co_readAttrSpace,co_lengthenAttrName]
theorem co_readEquals (s:St) (x:Int):(Mk.readEquals s x).1.column=s.column:=by unfold Mk.readEquals;(repeat' split) <;> simp only [co_put,co_putAll,co_goOn,co_endText,co_add,co_resume,co_dropToken,co_setRef,co_tellStart,co_tellEnd,co_endInnermost,co_endComment,co_endInstruction,co_endValue,co_readCharacter,co_readPart,co_readReference,co_lengthenName,co_readDash,co_readComment,co_readInstructionName,co_readBareInstruction,co_readInstruction,co_readInstructionSpace,co_readOutside,co_readContent,co_readSection,co_beginStart,co_readLess,co_readBang,co_readSectionMark,co_readStartGap,co_readStartName,co_readStartSpace,co_readSlash,co_readAttrSpace,co_lengthenAttrName,co_readAttrName]
theorem co_readValue (s:St) (x:Int):(Mk.readValue s x).1.column=s.column:=by unfold Mk.readValue;(repeat' split) <;> simp only [co_put,co_putAll,co_goOn,co_endText,co_add,co_resume,co_dropToken,co_setRef,co_tellStart,co_tellEnd,co_endInnermost,co_endComment,co_endInstruction,co_endValue,co_readCharacter,co_readPart,co_readReference,co_lengthenName,co_readDash,co_readComment,co_readInstructionName,co_readBareInstruction,co_readInstruction,co_readInstructionSpace,co_readOutside,co_readContent,co_readSection,co_beginStart,co_readLess,co_readBang,co_readSectionMark,co_readStartGap,co_readStartName,co_readStartSpace,co_readSlash,co_readAttrSpace,co_lengthenAttrName,co_readAttrName,co_readEquals]
theorem co_readEndSpace (s:St) (x:Int):(Mk.readEndSpace s x).1.column=s.column:=by unfold Mk.readEndSpace;(repeat' split) <;> simp only [co_put,co_putAll,co_goOn,co_endText,co_add,co_resume,co_dropToken,co_setRef,co_tellStart,co_tellEnd,co_endInnermost,co_endComment,co_endInstruction,co_endValue,co_readCharacter,co_readPart,co_readReference,co_lengthenName,co_readDash,co_readComment,co_readInstructionName,co_readBareInstruction,co_readInstruction,co_readInstructionSpace,co_readOutside,co_readContent,co_readSection,co_beginStart,co_readLess,co_readBang,co_readSectionMark,co_readStartGap,co_readStartName,co_readStartSpace,co_readSlash,co_readAttrSpace,co_lengthenAttrName,co_readAttrName,co_readEquals,co_readValue]
theorem co_readEndName (s:St) (x:Int):(Mk.readEndName s x).1.column=s.column:=by unfold Mk.readEndName;(repeat' split) <;> simp only [co_put,co_putAll,co_goOn,co_endText,co_add,co_resume,co_dropToken,co_setRef,co_tellStart,co_tellEnd,co_endInnermost,co_endComment,co_endInstruction,co_endValue,co_readCharacter,co_readPart,co_readReference,co_lengthenName,co_readDash,co_readComment,co_readInstructionName,co_readBareInstruction,co_readInstruction,co_readInstructionSpace,co_readOutside,co_readContent,co_readSection,co_beginStart,co_readLess,co_readBang,co_readSectionMark,co_readStartGap,co_readStartName,co_readStartSpace,co_readSlash,co_readAttrSpace,co_lengthenAttrName,co_readAttrName,co_readEquals,co_readValue,co_readEndSpace]
theorem co_readStartTag (s:St) (x:Int):(Mk.readStartTag s x).1.column=s.column:=by unfold Mk.readStartTag;(repeat' split) <;> simp only [co_put,co_putAll,co_goOn,co_endText,co_add,co_resume,co_dropToken,co_setRef,co_tellStart,co_tellEnd,co_endInnermost,co_endComment,co_endInstruction,co_endValue,co_readCharacter,co_readPart,co_readReference,co_lengthenName,co_readDash,co_readComment,co_readInstructionName,co_readBareInstruction,co_readInstruction,co_readInstructionSpace,co_readOutside,co_readContent,co_readSection,co_beginStart,co_readLess,co_readBang,co_readSectionMark,co_readStartGap,co_readStartName,co_readStartSpace,co_readSlash,co_readAttrSpace,co_lengthenAttrName,co_readAttrName,co_readEquals,co_readValue,co_readEndSpace,co_readEndName]
theorem co_readMark (s:St) (x:Int):(Mk.readMark s x).1.column=s.column:=by unfold Mk.readMark;(repeat' split) <;> simp only [co_put,co_putAll,co_goOn,co_endText,co_add,co_resume,co_dropToken,co_setRef,co_tellStart,co_tellEnd,co_endInnermost,co_endComment,co_endInstruction,co_endValue,co_readCharacter,co_readPart,co_readReference,co_lengthenName,co_readDash,co_readComment,co_readInstructionName,co_readBareInstruction,co_readInstruction,co_readInstructionSpace,co_readOutside,co_readContent,co_readSection,co_beginStart,co_readLess,co_readBang,co_readSectionMark,co_readStartGap,co_readStartName,co_readStartSpace,co_readSlash,co_readAttrSpace,co_lengthenAttrName,co_readAttrName,co_readEquals,co_readValue,co_readEndSpace,co_readEndName,co_readStartTag]
theorem co_readByte (s:St) (x:Int):(Mk.readByte s x).1.column=s.column:=by unfold Mk.readByte;(repeat' split) <;> simp only [co_put,co_putAll,co_goOn,co_endText,co_add,co_resume,co_dropToken,co_setRef,co_tellStart,co_tellEnd,co_endInnermost,co_endComment,co_endInstruction,co_endValue,co_readCharacter,co_readPart,co_readReference,co_lengthenName,co_readDash,co_readComment,co_readInstructionName,co_readBareInstruction,co_readInstruction,co_readInstructionSpace,co_readOutside,co_readContent,co_readSection,co_beginStart,co_readLess,co_readBang,co_readSectionMark,co_readStartGap,co_readStartName,co_readStartSpace,co_readSlash,co_readAttrSpace,co_lengthenAttrName,co_readAttrName,co_readEquals,co_readValue,co_readEndSpace,co_readEndName,co_readStartTag,co_readMark]
def Hs (st:Int) (hd:Bs):Prop:=hd=[]∨(st=7∧(hd=[45]∨hd=[45,45]))∨(st=2∧(hd=[93]∨hd=[93,93]))∨(st=11∧hd=[63])
theorem Hs.len {st:Int} {hd:Bs} (h:Hs st hd):hd.length≤2:=by
  rcases h with rfl | ⟨_,rfl | rfl⟩ | ⟨_,rfl | rfl⟩ | ⟨_,rfl⟩ <;> decide
theorem Hs.none {st:Int} {hd:Bs} (h:Hs st hd) (h7:st ≠ 7) (h2:st ≠ 2) (h11:st ≠ 11):hd=[]:=by
  rcases h with h | ⟨e,_⟩ | ⟨e,_⟩ | ⟨e,_⟩
  · exact h
  · exact absurd e h7
  · exact absurd e h2
  · exact absurd e h11
structure Inv (k:Nat) (s:St):Prop where
  hx:s.text.length≤k
  ht:s.token.length≤k
  c0:0≤s.count
  c1:s.count≤k
  hl:s.list.length≤7 * k
  ho:s.opn.length≤k
  ha:s.attrs.length≤32
  hi:14≤s.state→s.state≤17→s.attrs.length≤31
  oA:s.oa≤32
  hb:s.bnd.length≤3 * k + 1
  hc:s.cnt.length≤k
  cb:∀ c ∈ s.cnt,c≤32
  av:∀ a ∈ s.attrs,a.val.length≤k
  an:∀ a ∈ s.attrs,a.name.length≤k
  ax:s.attr.length≤k
  bv:∀ p ∈ s.bnd,p.2.length≤k + 36
  hs:Hs s.state s.held
  pt:Pt s.pc s.pl
  rn:s.rn.length≤5
  r0:0≤s.rc
  r1:s.rc≤1114111
  m0:0≤s.matched
  m1:s.matched≤k + 10
  am:s.am=false
  on:∀ y ∈ s.opn,y.length≤k
  hn:s.name.length≤k
  ev:∀ e ∈ s.list,e.val.length≤k + 36
  l0:0≤s.line
  l1:s.line≤k + 1
  cl0:0≤s.column
  cl1:s.column≤k + 1
theorem Inv.mono {k k' : Nat} {s:St} (h:Inv k s) (hk:k≤k'):Inv k' s where
  hx:=Nat.le_trans h.hx hk
  ht:=Nat.le_trans h.ht hk
  c0:=h.c0
  c1:=by have:=h.c1;omega
  hl:=by have:=h.hl;omega
  ho:=Nat.le_trans h.ho hk
  ha:=h.ha
  hi:=h.hi
  oA:=h.oA
  hb:=by have:=h.hb;omega
  hc:=Nat.le_trans h.hc hk
  cb:=h.cb
  av:=fun a ha=>Nat.le_trans (h.av a ha) hk
  an:=fun a ha=>Nat.le_trans (h.an a ha) hk
  ax:=Nat.le_trans h.ax hk
  bv:=fun p hp=>by have:=h.bv p hp;omega
  hs:=h.hs
  pt:=h.pt
  rn:=h.rn
  r0:=h.r0
  r1:=h.r1
  m0:=h.m0
  m1:=by have:=h.m1;omega
  am:=h.am
  on:=fun y hy=>Nat.le_trans (h.on y hy) hk
  hn:=Nat.le_trans h.hn hk
  ev:=fun e he=>by have:=h.ev e he;omega
  l0:=h.l0
  l1:=by have:=h.l1;omega
  cl0:=h.cl0
  cl1:=by have:=h.cl1;omega
theorem Inv.bd {k:Nat} {s:St} (h:Inv k s) (hk:k≤90000000):Bd s where
  hx:=by have:=h.hx;omega
  ht:=by have:=h.ht;omega
  c0:=h.c0
  c1:=by have:=h.c1;omega
  hl:=by have:=h.hl;omega
  ho:=by have:=h.ho;omega
  ha:=h.ha
  hh:=h.hs.len
  pt:=h.pt
  rn:=h.rn
  r0:=h.r0
  r1:=h.r1
  m0:=h.m0
  m1:=by have:=h.m1;omega
  am:=h.am
  hb:=by have:=h.hb;omega
  hc:=by have:=h.hc;omega
  cb:=h.cb
  hn:=by have:=h.hn;omega
  an:=fun a ha=>by have:=h.an a ha;omega
theorem inv_put {k:Nat} {s:St} (h:Inv k s) (c:Int):Inv (k + 4) (Mk.put s c):=by
  have hl:=put_len s c
  have h1:=h.hx
  have h2:=h.ht
  have h3:=h.c0
  have h4:=h.c1
  have hm:=h.mono (show k≤k + 4 by omega)
  unfold Mk.put at hl ⊢
  split
  · rename_i hi
    rw [if_pos hi] at hl
    exact { hm with hx:=by show (s.text ++ Mk.encode c).length≤k + 4;have:=hl.1;simp only at this;omega }
  · rename_i hi
    rw [if_neg hi] at hl
    exact { hm with ht:=by show (s.token ++ Mk.encode c).length≤k + 4;have:=hl.2.1;simp only at this;omega,c0:=by show 0≤s.count + 1;omega,c1:=by show s.count + 1≤((k + 4:Nat):Int);omega }
theorem inv_putAll:∀ (l:Bs) {k:Nat} {s:St} (h:Inv k s),Inv (k + 4 * l.length) (Mk.putAll s l)
  | [],k,s,h=>h
  | x :: r,k,s,h=>(inv_putAll r (inv_put h x.toNat)).mono (by simp;omega)
theorem inv_goOn {k:Nat} {s:St} (h:Inv k s) (p:Int × Int) (hp:Pt p.1 p.2):Inv (k + 4) (Mk.goOn s p):=by
  unfold Mk.goOn
  have h1:Inv k { s with pc:=p.1,pl:=p.2 }:={ h with pt:=hp }
  split
  · exact inv_put h1 _
  · exact h1.mono (by omega)
theorem inv_readCharacter {k:Nat} {s:St} (h:Inv k s) (x:Int) (h0:0≤x) (h1:x≤255):Inv (k + 12) (Mk.readCharacter s x).1:=by
  unfold Mk.readCharacter
  split
  · exact h.mono (by omega)
  · rename_i p hp
    split
    · have h2:=inv_putAll s.held h
      have h3:Inv (k + 8) { Mk.putAll s s.held with held:=[] }:={ h2.mono (by have:=h.hs.len;omega) with hs:=.inl rfl }
      exact inv_goOn h3 p (begin_pt h0 h1 hp)
    · exact h.mono (by omega)
theorem inv_dropToken {k:Nat} {s:St} (h:Inv k s):Inv k (Mk.dropToken s):={ h with ht:=by simp [Mk.dropToken],c0:=by simp [Mk.dropToken],c1:=by simp [Mk.dropToken] }
theorem list_add (s:St) (e:Ev):(Mk.add s e).list.length≤s.list.length + 2∧(∀ y ∈ (Mk.add s e).list,y ∈ s.list∨y=e∨y=⟨3,[],[],s.text,[]⟩)∧(Mk.add s e).text=[]∨((Mk.add s e).list.length≤s.list.length + 2∧(∀ y ∈ (Mk.add s e).list,y ∈ s.list∨y=e)∧(Mk.add s e).text=s.text∧s.text.length=0):=by
  unfold Mk.add Mk.endText
  split
  · rename_i h0
    refine .inr ⟨by simp,fun y hy => ?_,rfl,h0⟩
    rcases List.mem_append.1 hy with hy | hy
    · exact .inl hy
    · simp at hy;exact .inr hy
  · refine .inl ⟨by simp,fun y hy => ?_,rfl⟩
    rcases List.mem_append.1 hy with hy | hy
    · rcases List.mem_append.1 hy with hy | hy
      · exact .inl hy
      · simp at hy;exact .inr (.inr hy)
    · simp at hy;exact .inr (.inl hy)
theorem inv_told {k:Nat} {s:St} (h:Inv k s) (l:List Ev) (x:Bs) (hl:l.length≤7 * k) (hx:x.length≤k) (hev:∀ e ∈ l,e.val.length≤k + 36):Inv k { s with list:=l,text:=x }:={ h with hx:=hx,hl:=hl,ev:=hev }
theorem add_told (s:St) (e:Ev) (m:Nat) (hx:s.text.length≤m) (hev:∀ y ∈ s.list,y.val.length≤m) (he:e.val.length≤m) :
    (Mk.add s e).list.length≤s.list.length + 2∧(∀ y ∈ (Mk.add s e).list,y.val.length≤m)∧(Mk.add s e).text.length=0:=by
  rcases list_add s e with ⟨h1,h2,h3⟩ | ⟨h1,h2,h3,h4⟩
  · refine ⟨h1,fun y hy => ?_,by rw [h3];rfl⟩
    rcases h2 y hy with h | rfl | rfl
    · exact hev y h
    · exact he
    · exact hx
  · refine ⟨h1,fun y hy => ?_,by rw [h3];exact h4⟩
    rcases h2 y hy with h | rfl
    · exact hev y h
    · exact he
theorem add_len1 (s:St) (e:Ev) (h:s.text.length=0):(Mk.add s e).list.length=s.list.length + 1:=by
  unfold Mk.add Mk.endText
  rw [if_pos h]
  simp
theorem inv_add {k:Nat} {s:St} (h:Inv k s) (e:Ev) (hev:e.val.length≤k + 36):Inv (k + 2) (Mk.add s e):=by
  obtain ⟨h1,h2,h3⟩:=add_told s e (k + 36) (by have:=h.hx;omega) h.ev hev
  rw [add_core]
  exact inv_told (h.mono (show k≤k + 2 by omega)) _ _ (by have:=h.hl;omega) (by omega) fun y hy=>by have:=h2 y hy;omega
theorem bindAll_told (m:Nat):∀ (l:List (Bs × Bs)) (s:St),s.text.length≤m→(∀ y ∈ s.list,y.val.length≤m)→(∀ p ∈ l,p.2.length≤m) →
    (Mk.bindAll s l).list.length≤s.list.length + l.length + 1∧(∀ y ∈ (Mk.bindAll s l).list,y.val.length≤m)∧(Mk.bindAll s l).text.length≤s.text.length∧(s.text.length=0→(Mk.bindAll s l).list.length≤s.list.length + l.length)
  | [],s,hx,hev,_=>⟨by show s.list.length≤_;simp,hev,Nat.le_refl _,fun _=>Nat.le_refl _⟩
  | p :: r,s,hx,hev,hp=>by
    obtain ⟨h1,h2,h3⟩:=add_told s ⟨6,p.1,[],p.2,[]⟩ m hx hev (hp p List.mem_cons_self)
    obtain ⟨g1,g2,g3,g4⟩:=bindAll_told m r (Mk.add s ⟨6,p.1,[],p.2,[]⟩) (by omega) h2 fun q hq=>hp q (List.mem_cons_of_mem _ hq)
    have g5:=g4 h3
    refine ⟨?_,g2,?_,fun h0 => ?_⟩
    · show (Mk.bindAll (Mk.add s _) r).list.length≤_;simp only [List.length_cons];omega
    · show (Mk.bindAll (Mk.add s _) r).text.length≤_;omega
    · have:=add_len1 s ⟨6,p.1,[],p.2,[]⟩ h0
      show (Mk.bindAll (Mk.add s _) r).list.length≤_;simp only [List.length_cons];omega
theorem unbindAll_told (m:Nat):∀ (l:List (Bs × Bs)) (s:St),s.text.length≤m→(∀ y ∈ s.list,y.val.length≤m) →
    (Mk.unbindAll s l).list.length≤s.list.length + l.length + 1∧(∀ y ∈ (Mk.unbindAll s l).list,y.val.length≤m)∧(Mk.unbindAll s l).text.length≤s.text.length∧(s.text.length=0→(Mk.unbindAll s l).list.length≤s.list.length + l.length)
  | [],s,hx,hev=>⟨by show s.list.length≤_;simp,hev,Nat.le_refl _,fun _=>Nat.le_refl _⟩
  | p :: r,s,hx,hev=>by
    obtain ⟨h1,h2,h3⟩:=add_told s ⟨7,p.1,[],[],[]⟩ m hx hev (by simp)
    obtain ⟨g1,g2,g3,g4⟩:=unbindAll_told m r (Mk.add s ⟨7,p.1,[],[],[]⟩) (by omega) h2
    have g5:=g4 h3
    refine ⟨?_,g2,?_,fun h0 => ?_⟩
    · show (Mk.unbindAll (Mk.add s _) r).list.length≤_;simp only [List.length_cons];omega
    · show (Mk.unbindAll (Mk.add s _) r).text.length≤_;omega
    · have:=add_len1 s ⟨7,p.1,[],[],[]⟩ h0
      show (Mk.unbindAll (Mk.add s _) r).list.length≤_;simp only [List.length_cons];omega
theorem ofTag_len {s:St} (h:∀ c ∈ s.cnt,c≤32):(Mk.ofTag s).length≤32:=by
  unfold Mk.ofTag Mk.first
  rw [List.length_drop]
  split
  · omega
  · rename_i c hc
    have:=h c (List.mem_of_getLast? hc)
    split <;> omega
theorem inv_resume {k:Nat} {s:St} (h:Inv k s) (hd:s.held=[]):Inv k (Mk.resume s):={ h with hs:=.inl hd,hi:=fun h1 _=>by exfalso;revert h1;show ¬ (14:Int)≤(if s.opn.length=0 then 0 else 1);split <;> decide }
theorem add_held (s:St) (e:Ev):(Mk.add s e).held=s.held∧(Mk.add s e).opn=s.opn∧(Mk.add s e).name=s.name:=by unfold Mk.add Mk.endText;split <;> exact ⟨rfl,rfl,rfl⟩
theorem inv_tellStart {k:Nat} {s:St} (h:Inv k s):Inv (k + 6) (Mk.tellStart s):=by
  have h32:=ofTag_len h.cb
  obtain ⟨g1,g2,g3,g4⟩:=bindAll_told (k + 36) (Mk.ofTag s) s (by have:=h.hx;omega) h.ev fun p hp=>h.bv p (List.mem_of_mem_drop hp)
  obtain ⟨q1,q2,q3⟩:=add_told (Mk.tellBinds s) ⟨1,s.name,Mk.spaceOf s s.name,[],s.attrs⟩ (k + 36) (by show (Mk.bindAll s (Mk.ofTag s)).text.length≤_;have:=h.hx;omega) g2 (by simp)
  have e1:=add_core (Mk.tellBinds s) ⟨1,s.name,Mk.spaceOf s s.name,[],s.attrs⟩
  have e2:=bindAll_core (Mk.ofTag s) s
  have q1' : (Mk.add (Mk.tellBinds s) ⟨1,s.name,Mk.spaceOf s s.name,[],s.attrs⟩).list.length≤(Mk.bindAll s (Mk.ofTag s)).list.length + 2:=q1
  have h1:Inv (k + 6) { s with list:=(Mk.add (Mk.tellBinds s) ⟨1,s.name,Mk.spaceOf s s.name,[],s.attrs⟩).list,text:=(Mk.add (Mk.tellBinds s) ⟨1,s.name,Mk.spaceOf s s.name,[],s.attrs⟩).text }:=
    inv_told (h.mono (show k≤k + 6 by omega)) _ _ (by have:=h.hl;omega) (by omega) fun y hy=>by have:=q2 y hy;omega
  have e3:Mk.add (Mk.tellBinds s) ⟨1,s.name,Mk.spaceOf s s.name,[],s.attrs⟩={ s with list:=(Mk.add (Mk.tellBinds s) ⟨1,s.name,Mk.spaceOf s s.name,[],s.attrs⟩).list,text:=(Mk.add (Mk.tellBinds s) ⟨1,s.name,Mk.spaceOf s s.name,[],s.attrs⟩).text }:=by
    have e4:Mk.tellBinds s={ s with list:=(Mk.tellBinds s).list,text:=(Mk.tellBinds s).text }:=e2
    rw [e1]
    rw [e4]
  unfold Mk.tellStart
  rw [e3]
  exact { h1 with ha:=by simp,hi:=fun _ _=>by simp,av:=(fun a ha=>by cases ha),an:=(fun a ha=>by cases ha) }
theorem inv_leave {k:Nat} {s:St} (h:Inv k s):Inv k (Mk.leave s):=
  { h with hb:=by have:=h.hb;show (s.bnd.take _).length≤_;rw [List.length_take];omega,hc:=by have:=h.hc;show s.cnt.dropLast.length≤_;simp;omega,cb:=fun c hc=>h.cb c (List.dropLast_subset _ hc),bv:=fun p hp=>h.bv p (List.mem_of_mem_take hp) }
theorem inv_tellEnd {k:Nat} {s:St} (h:Inv k s) (hd:s.held=[]) (n:Bs):Inv (k + 6) (Mk.tellEnd s n):=by
  have h32:=ofTag_len h.cb
  have e0:=add_core s ⟨2,n,Mk.spaceOf s n,[],[]⟩
  obtain ⟨q1,q2,q3⟩:=add_told s ⟨2,n,Mk.spaceOf s n,[],[]⟩ (k + 36) (by have:=h.hx;omega) h.ev (by simp)
  have hT:Mk.ofTag (Mk.add s ⟨2,n,Mk.spaceOf s n,[],[]⟩)=Mk.ofTag s:=by rw [e0];rfl
  obtain ⟨g1,g2,g3,g4⟩:=unbindAll_told (k + 36) (Mk.ofTag s).reverse (Mk.add s ⟨2,n,Mk.spaceOf s n,[],[]⟩) (by omega) q2
  have g5:=g4 q3
  rw [List.length_reverse] at g5
  have e2:Mk.tellUnbinds (Mk.add s ⟨2,n,Mk.spaceOf s n,[],[]⟩)={ s with list:=(Mk.tellUnbinds (Mk.add s ⟨2,n,Mk.spaceOf s n,[],[]⟩)).list,text:=(Mk.tellUnbinds (Mk.add s ⟨2,n,Mk.spaceOf s n,[],[]⟩)).text }:=by
    have e3:=unbindAll_core (Mk.ofTag (Mk.add s ⟨2,n,Mk.spaceOf s n,[],[]⟩)).reverse (Mk.add s ⟨2,n,Mk.spaceOf s n,[],[]⟩)
    unfold Mk.tellUnbinds
    rw [e3]
    rw [e0]
  have e5:Mk.tellUnbinds (Mk.add s ⟨2,n,Mk.spaceOf s n,[],[]⟩)=Mk.unbindAll (Mk.add s ⟨2,n,Mk.spaceOf s n,[],[]⟩) (Mk.ofTag s).reverse:=by unfold Mk.tellUnbinds;rw [hT]
  have h1:Inv (k + 6) (Mk.tellUnbinds (Mk.add s ⟨2,n,Mk.spaceOf s n,[],[]⟩)):=by
    rw [e2]
    refine inv_told (h.mono (show k≤k + 6 by omega)) _ _ ?_ ?_ ?_
    · rw [e5];have:=h.hl;omega
    · rw [e5];omega
    · intro y hy;rw [e5] at hy;have:=g2 y hy;omega
  unfold Mk.tellEnd
  refine inv_resume (s:={ Mk.leave (Mk.tellUnbinds (Mk.add s ⟨2,n,Mk.spaceOf s n,[],[]⟩)) with over:=decide (s.opn.length=0) }) { inv_leave h1 with } ?_
  show (Mk.tellUnbinds (Mk.add s ⟨2,n,Mk.spaceOf s n,[],[]⟩)).held=[]
  rw [e2]
  exact hd
theorem declareGo_val (m:Nat):∀ (ats:List Att) (b:List (Bs × Bs)) (c:Nat),(∀ p ∈ b,p.2.length≤m)→(∀ a ∈ ats,a.val.length≤m)→∀ p ∈ (Mk.declareGo ats b c).1,p.2.length≤m
  | [],b,c,hb,_=>hb
  | a :: r,b,c,hb,ha=>by
    unfold Mk.declareGo
    split
    · exact declareGo_val m r b c hb fun x hx=>ha x (List.mem_cons_of_mem _ hx)
    · split
      · exact hb
      · refine declareGo_val m r _ _ (fun p hp => ?_) fun x hx=>ha x (List.mem_cons_of_mem _ hx)
        rcases List.mem_append.1 hp with hp | hp
        · exact hb p hp
        · simp at hp;subst hp;exact ha a List.mem_cons_self
theorem inv_declare {k:Nat} {s:St} (h:Inv k s):Inv (k + 11) (Mk.declare s).1:=by
  obtain ⟨h1,h2⟩:=declare_core s
  have h3:=declareGo_len s.attrs s.bnd 0
  have h4:=declareGo_val (k + 36) s.attrs s.bnd 0 h.bv fun a ha=>by have:=h.av a ha;omega
  have h5:=h.ha
  rw [h1]
  refine { h.mono (show k≤k + 11 by omega) with hb:=?_,hc:=?_,cb:=?_,bv:=?_ }
  · have:=h.hb;show (Mk.declareGo s.attrs s.bnd 0).1.length≤_;omega
  · show (Mk.declare s).1.cnt.length≤_
    have:=h.hc
    rcases h2 with h2 | h2 <;> rw [h2] <;> simp <;> omega
  · show ∀ c ∈ (Mk.declare s).1.cnt,c≤32
    intro c hc
    rcases h2 with h2 | h2 <;> rw [h2] at hc
    · exact h.cb c hc
    · rcases List.mem_append.1 hc with hc | hc
      · exact h.cb c hc
      · simp at hc;omega
  · intro p hp;have:=h4 p hp;omega
theorem inv_enter {k:Nat} {s:St} (h:Inv k s):Inv (k + 11) (Mk.enter s).1:=by
  rcases enter_core s with e | e <;> rw [e]
  · exact h.mono (by omega)
  · exact inv_declare h
theorem declare_held (s:St):(Mk.declare s).1.held=s.held∧(Mk.declare s).1.opn=s.opn∧(Mk.declare s).1.name=s.name∧(Mk.declare s).1.state=s.state:=by
  rw [(declare_core s).1]
  exact ⟨rfl,rfl,rfl,rfl⟩
theorem inv_lengthenName {k:Nat} {s:St} (h:Inv k s) (x:Int):Inv (k + 4) (Mk.lengthenName s x).1:=by
  unfold Mk.lengthenName
  split
  · exact inv_put h x
  · exact h.mono (by omega)
theorem inv_endStart {k:Nat} {s:St} (h:Inv k s) (hd:s.held=[]) (x:Int):Inv (k + 6) (Mk.endStart s x):=by
  have hm:=h.mono (show k≤k + 6 by omega)
  unfold Mk.endStart
  split
  · exact { hm with hs:=.inl hd,hi:=fun _ h=>by simp at h }
  · have h1:=inv_tellStart h
    have hc:=tellStart_core s
    refine inv_resume (s:={ Mk.tellStart s with opn:=s.opn ++ [s.name],name:=[] }) { h1 with ho:=?_,on:=?_,hn:=by simp } ?_
    · have:=h.ho;simp;omega
    · intro y hy
      rcases List.mem_append.1 hy with hy | hy
      · have:=h.on y hy;omega
      · simp at hy;subst hy;have:=h.hn;omega
    · show (Mk.tellStart s).held=[]
      rw [hc];exact hd
theorem inv_readStartGap {k:Nat} {s:St} (h:Inv k s) (hd:s.held=[]) (x:Int):Inv (k + 12) (Mk.readStartGap s x).1:=by
  have hm:=h.mono (show k≤k + 12 by omega)
  unfold Mk.readStartGap
  split
  · exact { hm with hs:=.inl hd,hi:=by simp }
  · split
    · unfold Mk.endAttributes
      split
      · split
        · exact (inv_enter h).mono (by omega)
        · rename_i l hl
          obtain ⟨e1,e2⟩:=enter_some hl
          have h1:=inv_declare h
          obtain ⟨d1,d2,d3,d4⟩:=declare_held s
          have h2:=resolveGo_len (Mk.declare s).1.bnd k s.attrs [] l e2
          have h3:=h.ha
          have hk:∀ a ∈ l,a.val.length≤k:=h2.2 (fun a ha=>by cases ha) h.av
          have hkn:∀ a ∈ l,a.name.length≤k:=(resolveGo_nm (Mk.declare s).1.bnd k s.attrs [] l e2).2 (fun a ha=>by cases ha) h.an
          simp only [List.length_nil,Nat.zero_add] at h2
          rw [e1]
          have h32:∀ c ∈ (Mk.declare s).1.cnt,c≤32:=h1.cb
          -- the bounds of the list that is told, once more from k
          have g0:Inv (k + 11) { (Mk.declare s).1 with attrs:=l }:=by
            refine { h1 with ha:=?_,hi:=?_,av:=?_,an:=?_ }
            · show l.length≤32;omega
            · intro a b
              show l.length≤31
              have h9:(14:Int)≤s.state:=by rw [← d4];exact a
              have h8:s.state≤17:=by rw [← d4];exact b
              have:=h.hi h9 h8;omega
            · intro a ha;have:=hk a ha;omega
            · intro a ha;have:=hkn a ha;omega
          unfold Mk.endStart
          split
          · exact { g0.mono (show k + 11≤k + 12 by omega) with hs:=.inl (by show (Mk.declare s).1.held=[];rw [d1];exact hd),hi:=fun _ h=>by simp at h }
          · have hlist:(Mk.declare s).1.list=s.list∧(Mk.declare s).1.text=s.text:=by rw [(declare_core s).1];exact ⟨rfl,rfl⟩
            have hc:=tellStart_core { (Mk.declare s).1 with attrs:=l }
            have h33:=ofTag_len (s:={ (Mk.declare s).1 with attrs:=l }) h32
            obtain ⟨g1,g2,g3,g4⟩:=bindAll_told (k + 47) (Mk.ofTag { (Mk.declare s).1 with attrs:=l }) { (Mk.declare s).1 with attrs:=l } (by show (Mk.declare s).1.text.length≤_;rw [hlist.2];have:=h.hx;omega) (fun y hy=>by have:=g0.ev y hy;omega) fun p hp=>by have:=g0.bv p (List.mem_of_mem_drop hp);omega
            obtain ⟨q1,q2,q3⟩:=add_told (Mk.tellBinds { (Mk.declare s).1 with attrs:=l }) ⟨1,(Mk.declare s).1.name,Mk.spaceOf { (Mk.declare s).1 with attrs:=l } (Mk.declare s).1.name,[],l⟩ (k + 47) (by show (Mk.bindAll _ _).text.length≤_;have:({ (Mk.declare s).1 with attrs:=l }:St).text.length≤k:=(by show (Mk.declare s).1.text.length≤k;rw [hlist.2];exact h.hx);omega) g2 (by simp)
            have q1' : (Mk.tellStart { (Mk.declare s).1 with attrs:=l }).list.length≤(Mk.bindAll { (Mk.declare s).1 with attrs:=l } (Mk.ofTag { (Mk.declare s).1 with attrs:=l })).list.length + 2:=q1
            have g1' : (Mk.bindAll { (Mk.declare s).1 with attrs:=l } (Mk.ofTag { (Mk.declare s).1 with attrs:=l })).list.length≤s.list.length + 33:=by
              have:({ (Mk.declare s).1 with attrs:=l }:St).list.length=s.list.length:=by show (Mk.declare s).1.list.length=_;rw [hlist.1]
              omega
            have g9:Inv (k + 12) (Mk.tellStart { (Mk.declare s).1 with attrs:=l }):=by
              rw [hc]
              refine { inv_told (g0.mono (show k + 11≤k + 12 by omega)) (Mk.tellStart { (Mk.declare s).1 with attrs:=l }).list (Mk.tellStart { (Mk.declare s).1 with attrs:=l }).text ?_ ?_ ?_ with ha:=by simp,hi:=fun _ _=>by simp,av:=(fun a ha=>by cases ha),an:=(fun a ha=>by cases ha) }
              · have:=h.hl;omega
              · have q3' : (Mk.tellStart { (Mk.declare s).1 with attrs:=l }).text.length=0:=q3
                omega
              · intro y hy;have:=q2 y hy;omega
            refine inv_resume (s:={ Mk.tellStart { (Mk.declare s).1 with attrs:=l } with opn:=(Mk.declare s).1.opn ++ [(Mk.declare s).1.name],name:=[] }) { g9 with ho:=?_,on:=?_,hn:=by simp } ?_
            · have:=h.ho;show ((Mk.declare s).1.opn ++ [(Mk.declare s).1.name]).length≤_;rw [d2];simp;omega
            · intro y hy
              have hy' : y ∈ (Mk.declare s).1.opn ++ [(Mk.declare s).1.name]:=hy
              rw [d2,d3] at hy'
              rcases List.mem_append.1 hy' with hy | hy
              · have:=h.on y hy;omega
              · simp at hy;subst hy;have:=h.hn;omega
            · show (Mk.tellStart { (Mk.declare s).1 with attrs:=l }).held=[]
              rw [hc]
              show (Mk.declare s).1.held=[]
              rw [d1];exact hd
      · exact (inv_endStart h hd x).mono (by omega)
    · exact hm
theorem inv_refs {s:St} {x:Int} (h0:0≤x) (c0:0≤s.rc) {r:Mk.Rf} (h:Mk.refNext ⟨s.rp,s.rn,s.rc⟩ x=some r):0≤r.code∧r.code≤1114111∧r.name.length≤5:=by
  have hD:∀ base place r,(base=10∨base=16)→Mk.refDigit s.rc x base place=some r→0≤r.code∧r.code≤1114111∧r.name.length≤5:=by
    intro base place r hb h
    unfold Mk.refDigit at h
    split at h
    · cases h
    · rename_i v hv
      split at h
      · cases h
      · cases h
        have:=digit_bd h0 (by omega) hv
        have h9:0≤s.rc * base:=Int.mul_nonneg c0 (by omega)
        simp
        omega
  have hE:∀ base place r,(base=10∨base=16)→Mk.digitOrEnd s.rc x base place=some r→0≤r.code∧r.code≤1114111∧r.name.length≤5:=by
    intro base place r hb h
    unfold Mk.digitOrEnd at h
    split at h
    · split at h
      · rename_i hi
        cases h
        have:=isChar_bd hi
        simp
        omega
      · cases h
    · exact hD base place r hb h
  have hI:∀ l r,(∀ q ∈ l,0≤q.2∧q.2≤1114111∧q.1.length≤5)→Mk.letterIn (s.rn ++ [Mk.u8 x]) l=some r→0≤r.code∧r.code≤1114111∧r.name.length≤5:=by
    intro l
    induction l with
    | nil=>intro r _ h;cases h
    | cons q l ih =>
      intro r hq h
      obtain ⟨nm,cd⟩:=q
      have h9:=hq (nm,cd) List.mem_cons_self
      simp only at h9
      unfold Mk.letterIn at h
      split at h
      · cases h;simp;omega
      · split at h
        · rename_i hpre
          cases h
          have:=(List.isPrefixOf_iff_prefix.1 hpre).length_le
          simp only
          exact ⟨by decide,by decide,Nat.le_trans this h9.2.2⟩
        · exact ih r (fun q hq' => hq q (List.mem_cons_of_mem _ hq')) h
  have hL:∀ r,Mk.letter s.rn x=some r→0≤r.code∧r.code≤1114111∧r.name.length≤5:=fun r h=>hI _ r (by decide) h
  unfold Mk.refNext at h
  repeat' split at h
  all_goals first
    | (cases h;done)
    | (cases h;simp;done)
    | exact hL r h
    | exact hD _ _ r (.inl rfl) h
    | exact hD _ _ r (.inr rfl) h
    | exact hE _ _ r (.inl rfl) h
    | exact hE _ _ r (.inr rfl) h
theorem inv_setRef {k:Nat} {s:St} (h:Inv k s) (r:Mk.Rf) (h1:0≤r.code∧r.code≤1114111∧r.name.length≤5):Inv k (Mk.setRef s r):={ h with rn:=h1.2.2,r0:=h1.1,r1:=h1.2.1 }
section
variable {k:Nat} {s:St}
theorem inv_endInstruction (h:Inv k s):Inv (k + 4) (Mk.endInstruction s):=by
  unfold Mk.endInstruction
  have h1:Inv k (Mk.dropToken { s with held:=[] }):=inv_dropToken { h with hs:=.inl rfl }
  have h2:=inv_add h1 ⟨5,s.name,[],s.token,[]⟩ (by have:=h.ht;show s.token.length≤k + 36;omega)
  exact inv_resume (s:={ Mk.add (Mk.dropToken { s with held:=[] }) ⟨5,s.name,[],s.token,[]⟩ with name:=[] }) { h2.mono (show k + 2≤k + 4 by omega) with hn:=by simp } ((add_held (Mk.dropToken { s with held:=[] }) ⟨5,s.name,[],s.token,[]⟩).1.trans rfl)
theorem inv_endComment (h:Inv k s):Inv (k + 4) (Mk.endComment s):=by
  unfold Mk.endComment
  have h1:Inv k (Mk.dropToken { s with held:=[] }):=inv_dropToken { h with hs:=.inl rfl }
  have h2:=inv_add h1 ⟨4,[],[],s.token,[]⟩ (by have:=h.ht;show s.token.length≤k + 36;omega)
  exact inv_resume (h2.mono (by omega)) ((add_held (Mk.dropToken { s with held:=[] }) ⟨4,[],[],s.token,[]⟩).1.trans rfl)
theorem inv_readPart (h:Inv k s) (x:Int) (l0:0<s.pl):Inv (k + 12) (Mk.readPart s x).1:=by
  unfold Mk.readPart
  split
  · exact h.mono (by omega)
  · rename_i p hp
    exact (inv_goOn h p (nextPart_pt h.pt l0 hp)).mono (by omega)
theorem inv_readReference (h:Inv k s) (x:Int) (h0:0≤x):Inv (k + 12) (Mk.readReference s x).1:=by
  unfold Mk.readReference
  split
  · exact h.mono (by omega)
  · rename_i r hr
    have h1:=inv_setRef h r (inv_refs h0 h.r0 hr)
    split
    · exact h1.mono (by omega)
    · exact (inv_put h1 _).mono (by omega)
theorem inv_readComment (h:Inv k s) (x:Int) (h0:0≤x) (h1:x≤255) (hst:s.state=7):Inv (k + 12) (Mk.readComment s x).1:=by
  unfold Mk.readComment
  split
  · exact (inv_endComment h).mono (by omega)
  · split
    · exact h.mono (by omega)
    · split
      · rename_i n1 n2 n3
        refine { h.mono (show k≤k + 12 by omega) with hs:=?_ }
        show Hs s.state (s.held ++ [45])
        rcases h.hs with e | ⟨_,e | e⟩ | ⟨e,_⟩ | ⟨e,_⟩
        · rw [e];exact .inr (.inl ⟨hst,.inl rfl⟩)
        · rw [e];exact .inr (.inl ⟨hst,.inr rfl⟩)
        · exact absurd e n2
        · omega
        · omega
      · exact inv_readCharacter h x h0 h1
theorem inv_readSection (h:Inv k s) (x:Int) (h0:0≤x) (h1:x≤255) (hst:s.state=2):Inv (k + 12) (Mk.readSection s x).1:=by
  unfold Mk.readSection
  split
  · exact { h.mono (show k≤k + 12 by omega) with hs:=.inl rfl,hi:=by simp }
  · split
    · exact (inv_put h _).mono (by omega)
    · split
      · rename_i n1 n2 n3
        refine { h.mono (show k≤k + 12 by omega) with hs:=?_ }
        show Hs s.state (s.held ++ [93])
        rcases h.hs with e | ⟨e,_⟩ | ⟨_,e | e⟩ | ⟨e,_⟩
        · rw [e];exact .inr (.inr (.inl ⟨hst,.inl rfl⟩))
        · omega
        · rw [e];exact .inr (.inr (.inl ⟨hst,.inr rfl⟩))
        · exact absurd ⟨n3,e⟩ n2
        · omega
      · exact inv_readCharacter h x h0 h1
theorem inv_readInstruction (h:Inv k s) (x:Int) (h0:0≤x) (h1:x≤255) (hst:s.state=11):Inv (k + 12) (Mk.readInstruction s x).1:=by
  unfold Mk.readInstruction
  split
  · exact (inv_endInstruction h).mono (by omega)
  · split
    · split
      · exact (inv_put h _).mono (by omega)
      · exact h.mono (by omega)
    · split
      · exact { h.mono (show k≤k + 12 by omega) with hs:=.inr (.inr (.inr ⟨hst,rfl⟩)) }
      · exact inv_readCharacter h x h0 h1
theorem inv_readContent (h:Inv k s) (hd:s.held=[]) (x:Int) (h0:0≤x) (h1:x≤255):Inv (k + 12) (Mk.readContent s x).1:=by
  have hm:=h.mono (show k≤k + 12 by omega)
  unfold Mk.readContent
  split
  · exact { hm with hs:=.inl hd,hi:=by simp }
  · split
    · exact inv_setRef (s:={ s with brackets:=0 }) { hm with } _ (by simp)
    · split
      · split
        · exact { hm with }
        · exact inv_readCharacter (s:={ s with brackets:=0 }) { h with } x h0 h1
      · split
        · exact inv_readCharacter (s:={ s with brackets:=if s.brackets == 0 then 1 else 2 }) { h with } x h0 h1
        · exact inv_readCharacter (s:={ s with brackets:=0 }) { h with } x h0 h1
theorem inv_readOutside (h:Inv k s) (hd:s.held=[]) (x:Int):Inv (k + 12) (Mk.readOutside s x).1:=by
  have hm:=h.mono (show k≤k + 12 by omega)
  unfold Mk.readOutside
  repeat' split
  all_goals first | exact hm | exact { hm with hs:=.inl hd,hi:=by simp }
theorem inv_readValue (h:Inv k s) (hst:s.state=17) (hd:s.held=[]) (x:Int) (h0:0≤x) (h1:x≤255):Inv (k + 12) (Mk.readValue s x).1:=by
  have hm:=h.mono (show k≤k + 12 by omega)
  unfold Mk.readValue
  split
  · unfold Mk.endValue
    have h2:=inv_dropToken hm
    exact { h2 with ha:=(by have:=h.hi (by omega) (by omega);show (s.attrs ++ [_]).length≤32;simp;omega),hi:=by simp,hs:=.inl hd,av:=(by
      intro a ha
      have ha' : a ∈ s.attrs ++ [⟨s.attr,[],s.token⟩]:=ha
      rcases List.mem_append.1 ha' with ha | ha
      · have:=h.av a ha;omega
      · simp at ha;subst ha;have:=h.ht;show s.token.length≤k + 12;omega),an:=(by
      intro a ha
      have ha' : a ∈ s.attrs ++ [⟨s.attr,[],s.token⟩]:=ha
      rcases List.mem_append.1 ha' with ha | ha
      · have:=h.an a ha;omega
      · simp at ha;subst ha;have:=h.ax;show s.attr.length≤k + 12;omega),ax:=by simp }
  · split
    · exact hm
    · split
      · split
        · exact inv_setRef hm _ (by simp)
        · exact hm
      · split
        · exact inv_readCharacter h 32 (by decide) (by decide)
        · exact inv_readCharacter h x h0 h1
theorem inv_readLess (h:Inv k s) (hd:s.held=[]) (x:Int):Inv (k + 12) (Mk.readLess s x).1:=by
  have hm:=h.mono (show k≤k + 12 by omega)
  unfold Mk.readLess
  split
  · exact { hm with hs:=.inl hd,hi:=by simp }
  · split
    · exact { hm with hs:=.inl hd,hi:=by simp }
    · split
      · exact { hm with hs:=.inl hd,hi:=by simp,m0:=by simp,m1:=by simp;omega }
      · split
        · unfold Mk.beginStart
          split
          · exact hm
          · exact (inv_put (s:={ s with state:=12 }) { h with hs:=.inl hd,hi:=by simp } x).mono (by omega)
        · exact hm
theorem inv_readBang (h:Inv k s) (hd:s.held=[]) (x:Int):Inv (k + 12) (Mk.readBang s x).1:=by
  have hm:=h.mono (show k≤k + 12 by omega)
  unfold Mk.readBang
  split
  · exact { hm with hs:=.inl hd,hi:=by simp }
  · split
    · exact { hm with hs:=.inl hd,hi:=by simp,m0:=by simp,m1:=by simp;omega }
    · exact hm
theorem inv_readDash (h:Inv k s) (hd:s.held=[]) (x:Int):Inv (k + 12) (Mk.readDash s x).1:=by
  have hm:=h.mono (show k≤k + 12 by omega)
  unfold Mk.readDash
  split
  · exact { hm with hs:=.inl hd,hi:=by simp }
  · exact hm
theorem inv_readSectionMark (h:Inv k s) (hd:s.held=[]) (x:Int):Inv (k + 12) (Mk.readSectionMark s x).1:=by
  have hm:=h.mono (show k≤k + 12 by omega)
  have m0:=h.m0
  have m1:=h.m1
  unfold Mk.readSectionMark
  split
  · exact hm
  · split
    · exact { hm with hs:=.inl hd,hi:=by simp,m0:=by simp;omega,m1:=by simp;omega }
    · exact { hm with m0:=by simp;omega,m1:=by simp;omega }
theorem inv_readInstructionName (h:Inv k s) (hd:s.held=[]) (x:Int):Inv (k + 12) (Mk.readInstructionName s x).1:=by
  have hm:=h.mono (show k≤k + 12 by omega)
  unfold Mk.readInstructionName
  split
  · exact hm
  · split
    · exact (inv_lengthenName h x).mono (by omega)
    · split
      · exact hm
      · split
        · exact hm
        · exact { inv_dropToken hm with hs:=.inl hd,hn:=hm.ht,hi:=fun h1 _=>by exfalso;revert h1;show ¬ (14:Int)≤(if (x == 63)=true then 9 else 10);split <;> decide }
theorem inv_readInstructionSpace (h:Inv k s) (hd:s.held=[]) (x:Int) (h0:0≤x) (h1:x≤255):Inv (k + 12) (Mk.readInstructionSpace s x).1:=by
  unfold Mk.readInstructionSpace
  split
  · exact h.mono (by omega)
  · exact inv_readInstruction (s:={ s with state:=11 }) { h with hs:=.inl hd,hi:=by simp } x h0 h1 rfl
theorem inv_readBareInstruction (h:Inv k s) (x:Int):Inv (k + 12) (Mk.readBareInstruction s x).1:=by
  unfold Mk.readBareInstruction
  split
  · exact (inv_endInstruction h).mono (by omega)
  · exact h.mono (by omega)
theorem inv_readEndSpace (h:Inv k s) (hd:s.held=[]) (x:Int):Inv (k + 12) (Mk.readEndSpace s x).1:=by
  have hm:=h.mono (show k≤k + 12 by omega)
  unfold Mk.readEndSpace
  split
  · exact { hm with hs:=.inl hd,hi:=by simp }
  · split
    · unfold Mk.endInnermost
      have h2:Inv k { s with opn:=s.opn.dropLast }:={ h with ho:=by have:=h.ho;simp;omega,on:=fun y hy=>h.on y (List.dropLast_subset _ hy) }
      exact (inv_tellEnd h2 hd _).mono (by omega)
    · exact hm
theorem innermost_len (h:Inv k s):(Mk.innermost s).length≤k:=by
  unfold Mk.innermost
  by_cases hn:s.opn=[]
  · simp [hn]
  · rw [List.getLastD_eq_getLast?,List.getLast?_eq_some_getLast hn]
    exact h.on _ (List.getLast_mem hn)
theorem inv_readEndName (h:Inv k s) (hd:s.held=[]) (x:Int):Inv (k + 12) (Mk.readEndName s x).1:=by
  have hm:=h.mono (show k≤k + 12 by omega)
  have hi:=innermost_len h
  have m0:=h.m0
  unfold Mk.readEndName
  split
  · split
    · exact hm
    · exact { hm with m0:=by simp;omega,m1:=by simp;omega }
  · split
    · exact hm
    · exact inv_readEndSpace h hd x
theorem inv_readAttrSpace (h:Inv k s) (g1:14≤s.state) (g2:s.state≤17) (hd:s.held=[]) (x:Int):Inv k (Mk.readAttrSpace s x).1:=by
  unfold Mk.readAttrSpace
  repeat' split
  all_goals first | exact h | exact { h with hs:=.inl hd,hi:=fun _ _=>h.hi g1 g2 }
theorem inv_readStartTag (h:Inv k s) (hd:s.held=[]) (x:Int):Inv (k + 12) (Mk.readStartTag s x).1:=by
  have hm:=h.mono (show k≤k + 12 by omega)
  unfold Mk.readStartTag
  split
  · unfold Mk.readStartName
    split
    · exact (inv_lengthenName h x).mono (by omega)
    · exact inv_readStartGap (s:={ Mk.dropToken s with name:=s.token }) { inv_dropToken h with hn:=h.ht } hd x
  · split
    · unfold Mk.readStartSpace
      split
      · exact inv_readStartGap h hd x
      · split
        · exact hm
        · rename_i hlt
          exact (inv_put (s:={ s with state:=14 }) { h with hs:=.inl hd,hi:=fun _ _=>by have:=h.oA;show s.attrs.length≤31;omega } x).mono (by omega)
    · split
      · rename_i hst;have hst:s.state=14:=by simpa using hst
        unfold Mk.readAttrName
        split
        · unfold Mk.lengthenAttrName
          split
          · split
            · exact (inv_put h x).mono (by omega)
            · exact (inv_put h x).mono (by omega)
          · exact hm
        · split
          · exact hm
          · split
            · exact hm
            · exact inv_readAttrSpace (s:={ Mk.dropToken s with attr:=s.token }) { inv_dropToken hm with ax:=hm.ht } (by show (14:Int)≤s.state;omega) (by show s.state≤17;omega) hd x
      · split
        · rename_i hst;have hst:s.state=15:=by simpa using hst
          exact inv_readAttrSpace hm (by omega) (by omega) hd x
        · split
          · rename_i hst;have hst:s.state=16:=by simpa using hst
            unfold Mk.readEquals
            split
            · exact hm
            · split
              · exact { hm with hs:=.inl hd,hi:=fun _ _=>h.hi (by omega) (by omega) }
              · exact hm
          · split
            · exact inv_readStartGap h hd x
            · unfold Mk.readSlash
              split
              · exact hm
              · have h1:=inv_tellStart h
                have hc:=tellStart_core s
                have h2:=inv_tellEnd h1 (by rw [hc];exact hd) s.name
                have h3:=h2.mono (show k + 6 + 6≤k + 12 by omega)
                generalize Mk.tellEnd (Mk.tellStart s) s.name=z at h3 ⊢
                exact { h3 with hn:=by simp }
theorem inv_readMark (h:Inv k s) (hd:s.held=[]) (x:Int) (h0:0≤x) (h1:x≤255):Inv (k + 12) (Mk.readMark s x).1:=by
  unfold Mk.readMark
  repeat' split
  all_goals first
    | exact inv_readLess h hd x
    | exact inv_readBang h hd x
    | exact inv_readDash h hd x
    | exact inv_readSectionMark h hd x
    | exact inv_readInstructionName h hd x
    | exact inv_readBareInstruction h x
    | exact inv_readInstructionSpace h hd x h0 h1
    | exact inv_readEndName h hd x
    | exact inv_readEndSpace h hd x
    | exact inv_readStartTag h hd x
theorem inv_readByte (h:Inv k s) (x:Int) (h0:0≤x) (h1:x≤255):Inv (k + 12) (Mk.readByte s x).1:=by
  unfold Mk.readByte
  split
  · exact inv_readPart h x (by assumption)
  · split
    · exact inv_readReference h x h0
    · split
      · rename_i hst;have hst:s.state=0:=by simpa using hst
        exact inv_readOutside h (h.hs.none (by omega) (by omega) (by omega)) x
      · split
        · rename_i hst;have hst:s.state=1:=by simpa using hst
          exact inv_readContent h (h.hs.none (by omega) (by omega) (by omega)) x h0 h1
        · split
          · rename_i hst;have hst:s.state=2:=by simpa using hst
            exact inv_readSection h x h0 h1 hst
          · split
            · rename_i hst;have hst:s.state=7:=by simpa using hst
              exact inv_readComment h x h0 h1 hst
            · split
              · rename_i hst;have hst:s.state=11:=by simpa using hst
                exact inv_readInstruction h x h0 h1 hst
              · split
                · rename_i hst;have hst:s.state=17:=by simpa using hst
                  exact inv_readValue h hst (h.hs.none (by omega) (by omega) (by omega)) x h0 h1
                · rename_i q0 q1 q2 q7 q11 q17
                  simp at q0 q1 q2 q7 q11 q17
                  exact inv_readMark h (h.hs.none (by omega) (by omega) (by omega)) x h0 h1
theorem inv_readOn (h:Inv k s) (x:Int) (h0:0≤x) (h1:x≤255):Inv (k + 12) (Mk.readOn s x).1:=by
  unfold Mk.readOn
  have hm:=inv_readByte h x h0 h1
  have e1:=ln_readByte s x
  have e2:=co_readByte s x
  have g1:=h.l0
  have g2:=h.l1
  have g3:=h.cl0
  have g4:=h.cl1
  split
  · unfold Mk.movePlace
    split
    · exact { hm with l0:=by show 0≤(Mk.readByte s x).1.line + 1;omega,l1:=by show (Mk.readByte s x).1.line + 1≤((k + 12:Nat):Int) + 1;omega,cl0:=by show (0:Int)≤1;decide,cl1:=by show (1:Int)≤((k + 12:Nat):Int) + 1;omega }
    · split
      · exact { hm with cl0:=by show 0≤(Mk.readByte s x).1.column + 1;omega,cl1:=by show (Mk.readByte s x).1.column + 1≤((k + 12:Nat):Int) + 1;omega }
      · exact hm
  · exact hm
theorem inv_read (h:Inv k s) (x:Int) (h0:0≤x) (h1:x≤255):Inv (k + 12) (Mk.read s x).1:=by
  unfold Mk.read
  split
  · exact { h.mono (show k≤k + 12 by omega) with }
  · split
    · exact inv_readOn (s:={ s with ret:=true }) { h with } 10 (by decide) (by decide)
    · exact inv_readOn (s:={ s with ret:=false }) { h with } x h0 h1
end
end Go.Proofs.YtmgfijllcdadgabGreatDoor
