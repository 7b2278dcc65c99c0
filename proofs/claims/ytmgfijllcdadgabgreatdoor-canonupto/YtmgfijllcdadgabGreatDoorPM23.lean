/- Keeps, Feed -/
import Derived.Test.YtmgfijllcdadgabGreatDoorPM00
import Derived.Test.YtmgfijllcdadgabGreatDoorPM22
set_option linter.unusedVariables false
set_option linter.unusedSimpArgs false
namespace Go.Proofs.YtmgfijllcdadgabGreatDoor
open Mk (St Bs Ev Att)
theorem at_put (s:St) (c:Int):(Mk.put s c).at_=s.at_:=by unfold Mk.put;split <;> rfl
theorem at_putAll:∀ (l:Bs) (s:St),(Mk.putAll s l).at_=s.at_
  | [],s=>rfl
  | x :: r,s=>(at_putAll r _).trans (at_put s _)
theorem at_goOn (s:St) (p:Int × Int):(Mk.goOn s p).at_=s.at_:=by unfold Mk.goOn;split <;> simp only [at_put]
theorem at_endText (s:St):(Mk.endText s).at_=s.at_:=by unfold Mk.endText;split <;> rfl
theorem at_add (s:St) (e:Ev):(Mk.add s e).at_=s.at_:=by unfold Mk.add;simp only [at_endText]
theorem at_resume (s:St):(Mk.resume s).at_=s.at_:=rfl
theorem at_dropToken (s:St):(Mk.dropToken s).at_=s.at_:=rfl
theorem at_setRef (s:St) (r:Mk.Rf):(Mk.setRef s r).at_=s.at_:=rfl
theorem at_bindAll:∀ (l:List (Bs × Bs)) (s:St),(Mk.bindAll s l).at_=s.at_
  | [],s=>rfl
  | p :: r,s=>(at_bindAll r _).trans (at_add s _)
theorem at_unbindAll:∀ (l:List (Bs × Bs)) (s:St),(Mk.unbindAll s l).at_=s.at_
  | [],s=>rfl
  | p :: r,s=>(at_unbindAll r _).trans (at_add s _)
theorem at_tellBinds (s:St):(Mk.tellBinds s).at_=s.at_:=at_bindAll _ s
theorem at_tellUnbinds (s:St):(Mk.tellUnbinds s).at_=s.at_:=at_unbindAll _ s
theorem at_leave (s:St):(Mk.leave s).at_=s.at_:=rfl
theorem at_tellStart (s:St):(Mk.tellStart s).at_=s.at_:=by unfold Mk.tellStart;simp only [at_add,at_tellBinds]
theorem at_tellEnd (s:St) (n:Bs):(Mk.tellEnd s n).at_=s.at_:=by unfold Mk.tellEnd;simp only [at_resume,at_leave,at_tellUnbinds,at_add]
theorem at_declare (s:St):(Mk.declare s).1.at_=s.at_:=by unfold Mk.declare;dsimp only;split <;> rfl
theorem at_enter (s:St):(Mk.enter s).1.at_=s.at_:=by unfold Mk.enter;(repeat' split) <;> simp only [at_declare]
theorem at_endStart (s:St) (x:Int):(Mk.endStart s x).at_=s.at_:=by unfold Mk.endStart;split <;> simp only [at_resume,at_tellStart]
theorem at_endAttributes (s:St) (x:Int):(Mk.endAttributes s x).1.at_=s.at_:=by unfold Mk.endAttributes;(repeat' split) <;> simp only [at_enter,at_endStart]
theorem at_endInnermost (s:St):(Mk.endInnermost s).at_=s.at_:=by unfold Mk.endInnermost;simp only [at_tellEnd]
theorem at_endComment (s:St):(Mk.endComment s).at_=s.at_:=by unfold Mk.endComment;simp only [at_resume,at_add,at_dropToken]
theorem at_endInstruction (s:St):(Mk.endInstruction s).at_=s.at_:=by unfold Mk.endInstruction;simp only [at_resume,at_add,at_dropToken]
theorem at_endValue (s:St):(Mk.endValue s).at_=s.at_:=rfl
theorem at_readCharacter (s:St) (x:Int):(Mk.readCharacter s x).1.at_=s.at_:=by unfold Mk.readCharacter;(repeat' split) <;> simp only [at_put,at_putAll,at_goOn,at_endText,at_add,at_resume,at_dropToken,at_setRef,at_tellStart,at_tellEnd,at_endInnermost,at_endComment,at_endInstruction,at_endValue]
theorem at_readPart (s:St) (x:Int):(Mk.readPart s x).1.at_=s.at_:=by unfold Mk.readPart;(repeat' split) <;> simp only [at_put,at_putAll,at_goOn,at_endText,at_add,at_resume,at_dropToken,at_setRef,at_tellStart,at_tellEnd,at_endInnermost,at_endComment,at_endInstruction,at_endValue,at_readCharacter]
theorem at_readReference (s:St) (x:Int):(Mk.readReference s x).1.at_=s.at_:=by unfold Mk.readReference;(repeat' split) <;> simp only [at_put,at_putAll,at_goOn,at_endText,at_add,at_resume,at_dropToken,at_setRef,at_tellStart,at_tellEnd,at_endInnermost,at_endComment,at_endInstruction,at_endValue,at_readCharacter,at_readPart]
theorem at_lengthenName (s:St) (x:Int):(Mk.lengthenName s x).1.at_=s.at_:=by unfold Mk.lengthenName;(repeat' split) <;> simp only [at_put,at_putAll,at_goOn,at_endText,at_add,at_resume,at_dropToken,at_setRef,at_tellStart,at_tellEnd,at_endInnermost,at_endComment,at_endInstruction,at_endValue,at_readCharacter,at_readPart,at_readReference]
theorem at_readDash (s:St) (x:Int):(Mk.readDash s x).1.at_=s.at_:=by unfold Mk.readDash;(repeat' split) <;> simp only [at_put,at_putAll,at_goOn,at_endText,at_add,at_resume,at_dropToken,at_setRef,at_tellStart,at_tellEnd,at_endInnermost,at_endComment,at_endInstruction,at_endValue,at_readCharacter,at_readPart,at_readReference,at_lengthenName]
theorem at_readComment (s:St) (x:Int):(Mk.readComment s x).1.at_=s.at_:=by unfold Mk.readComment;(repeat' split) <;> simp only [at_put,at_putAll,at_goOn,at_endText,at_add,at_resume,at_dropToken,at_setRef,at_tellStart,at_tellEnd,at_endInnermost,at_endComment,at_endInstruction,at_endValue,at_readCharacter,at_readPart,at_readReference,at_lengthenName,at_readDash]
theorem at_readInstructionName (s:St) (x:Int):(Mk.readInstructionName s x).1.at_=s.at_:=by unfold Mk.readInstructionName;(repeat' split) <;> simp only [at_put,at_putAll,at_goOn,at_endText,at_add,at_resume,at_dropToken,at_setRef,at_tellStart,at_tellEnd,at_endInnermost,at_endComment,at_endInstruction,at_endValue,at_readCharacter,at_readPart,at_readReference,at_lengthenName,at_readDash,at_readComment]
theorem at_readBareInstruction (s:St) (x:Int):(Mk.readBareInstruction s x).1.at_=s.at_:=by unfold Mk.readBareInstruction;(repeat' split) <;> simp only [at_put,at_putAll,at_goOn,at_endText,at_add,at_resume,at_dropToken,at_setRef,at_tellStart,at_tellEnd,at_endInnermost,at_endComment,at_endInstruction,at_endValue,at_readCharacter,at_readPart,at_readReference,at_lengthenName,at_readDash,at_readComment,at_readInstructionName]
theorem at_readInstruction (s:St) (x:Int):(Mk.readInstruction s x).1.at_=s.at_:=by unfold Mk.readInstruction;(repeat' split) <;> simp only [at_put,at_putAll,at_goOn,at_endText,at_add,at_resume,at_dropToken,at_setRef,at_tellStart,at_tellEnd,at_endInnermost,at_endComment,at_endInstruction,at_endValue,at_readCharacter,at_readPart,at_readReference,at_lengthenName,at_readDash,at_readComment,at_readInstructionName,at_readBareInstruction]
theorem at_readInstructionSpace (s:St) (x:Int):(Mk.readInstructionSpace s x).1.at_=s.at_:=by unfold Mk.readInstructionSpace;(repeat' split) <;> simp only [at_put,at_putAll,at_goOn,at_endText,at_add,at_resume,at_dropToken,at_setRef,at_tellStart,at_tellEnd,at_endInnermost,at_endComment,at_endInstruction,at_endValue,at_readCharacter,at_readPart,at_readReference,at_lengthenName,at_readDash,at_readComment,at_readInstructionName,at_readBareInstruction,at_readInstruction]
theorem at_readOutside (s:St) (x:Int):(Mk.readOutside s x).1.at_=s.at_:=by unfold Mk.readOutside;(repeat' split) <;> simp only [at_put,at_putAll,at_goOn,at_endText,at_add,at_resume,at_dropToken,at_setRef,at_tellStart,at_tellEnd,at_endInnermost,at_endComment,at_endInstruction,at_endValue,at_readCharacter,at_readPart,at_readReference,at_lengthenName,at_readDash,at_readComment,at_readInstructionName,at_readBareInstruction,at_readInstruction,at_readInstructionSpace]
theorem at_readContent (s:St) (x:Int):(Mk.readContent s x).1.at_=s.at_:=by unfold Mk.readContent;(repeat' split) <;> simp only [at_put,at_putAll,at_goOn,at_endText,at_add,at_resume,at_dropToken,at_setRef,at_tellStart,at_tellEnd,at_endInnermost,at_endComment,at_endInstruction,at_endValue,at_readCharacter,at_readPart,at_readReference,at_lengthenName,at_readDash,at_readComment,at_readInstructionName,at_readBareInstruction,at_readInstruction,at_readInstructionSpace,at_readOutside]
theorem at_readSection (s:St) (x:Int):(Mk.readSection s x).1.at_=s.at_:=by unfold Mk.readSection;(repeat' split) <;> simp only [at_put,at_putAll,at_goOn,at_endText,at_add,at_resume,at_dropToken,at_setRef,at_tellStart,at_tellEnd,at_endInnermost,at_endComment,at_endInstruction,at_endValue,at_readCharacter,at_readPart,at_readReference,at_lengthenName,at_readDash,at_readComment,at_readInstructionName,at_readBareInstruction,at_readInstruction,at_readInstructionSpace,at_readOutside,at_readContent]
theorem at_beginStart (s:St) (x:Int):(Mk.beginStart s x).1.at_=s.at_:=by unfold Mk.beginStart;(repeat' split) <;> simp only [at_put,at_putAll,at_goOn,at_endText,at_add,at_resume,at_dropToken,at_setRef,at_tellStart,at_tellEnd,at_endInnermost,at_endComment,at_endInstruction,at_endValue,at_readCharacter,at_readPart,at_readReference,at_lengthenName,at_readDash,at_readComment,at_readInstructionName,at_readBareInstruction,at_readInstruction,at_readInstructionSpace,at_readOutside,at_readContent,at_readSection]
theorem at_readLess (s:St) (x:Int):(Mk.readLess s x).1.at_=s.at_:=by unfold Mk.readLess;(repeat' split) <;> simp only [at_put,at_putAll,at_goOn,at_endText,at_add,at_resume,at_dropToken,at_setRef,at_tellStart,at_tellEnd,at_endInnermost,at_endComment,at_endInstruction,at_endValue,at_readCharacter,at_readPart,at_readReference,at_lengthenName,at_readDash,at_readComment,at_readInstructionName,at_readBareInstruction,at_readInstruction,at_readInstructionSpace,at_readOutside,at_readContent,at_readSection,at_beginStart]
theorem at_readBang (s:St) (x:Int):(Mk.readBang s x).1.at_=s.at_:=by unfold Mk.readBang;(repeat' split) <;> simp only [at_put,at_putAll,at_goOn,at_endText,at_add,at_resume,at_dropToken,at_setRef,at_tellStart,at_tellEnd,at_endInnermost,at_endComment,at_endInstruction,at_endValue,at_readCharacter,at_readPart,at_readReference,at_lengthenName,at_readDash,at_readComment,at_readInstructionName,at_readBareInstruction,at_readInstruction,at_readInstructionSpace,at_readOutside,at_readContent,at_readSection,at_beginStart,at_readLess]
theorem at_readSectionMark (s:St) (x:Int):(Mk.readSectionMark s x).1.at_=s.at_:=by unfold Mk.readSectionMark;(repeat' split) <;> simp only [at_put,at_putAll,at_goOn,at_endText,at_add,at_resume,at_dropToken,at_setRef,at_tellStart,at_tellEnd,at_endInnermost,at_endComment,at_endInstruction,at_endValue,at_readCharacter,at_readPart,at_readReference,at_lengthenName,at_readDash,at_readComment,at_readInstructionName,at_readBareInstruction,at_readInstruction,at_readInstructionSpace,at_readOutside,at_readContent,at_readSection,at_beginStart,at_readLess,at_readBang]
theorem at_readStartGap (s:St) (x:Int):(Mk.readStartGap s x).1.at_=s.at_:=by unfold Mk.readStartGap;(repeat' split) <;> simp only [at_endAttributes,at_put,at_putAll,at_goOn,at_endText,at_add,at_resume,at_dropToken,at_setRef,at_tellStart,at_tellEnd,at_endInnermost,at_endComment,at_endInstruction,at_endValue,at_readCharacter,at_readPart,at_readReference,at_lengthenName,at_readDash,at_readComment,at_readInstructionName,at_readBareInstruction,at_readInstruction,at_readInstructionSpace,at_readOutside,at_readContent,at_readSection,at_beginStart,at_readLess,at_readBang,at_readSectionMark]
theorem at_readStartName (s:St) (x:Int):(Mk.readStartName s x).1.at_=s.at_:=by unfold Mk.readStartName;(repeat' split) <;> simp only [at_put,at_putAll,at_goOn,at_endText,at_add,at_resume,at_dropToken,at_setRef,at_tellStart,at_tellEnd,at_endInnermost,at_endComment,at_endInstruction,at_endValue,at_readCharacter,at_readPart,at_readReference,at_lengthenName,at_readDash,at_readComment,at_readInstructionName,at_readBareInstruction,at_readInstruction,at_readInstructionSpace,at_readOutside,at_readContent,at_readSection,at_beginStart,at_readLess,at_readBang,at_readSectionMark,at_readStartGap]
theorem at_readStartSpace (s:St) (x:Int):(Mk.readStartSpace s x).1.at_=s.at_:=by unfold Mk.readStartSpace;(repeat' split) <;> simp only [at_put,at_putAll,at_goOn,at_endText,at_add,at_resume,at_dropToken,at_setRef,at_tellStart,at_tellEnd,at_endInnermost,at_endComment,at_endInstruction,at_endValue,at_readCharacter,at_readPart,at_readReference,at_lengthenName,at_readDash,at_readComment,at_readInstructionName,at_readBareInstruction,at_readInstruction,at_readInstructionSpace,at_readOutside,at_readContent,at_readSection,at_beginStart,at_readLess,at_readBang,at_readSectionMark,at_readStartGap,at_readStartName]
theorem at_readSlash (s:St) (x:Int):(Mk.readSlash s x).1.at_=s.at_:=by unfold Mk.readSlash;(repeat' split) <;> simp only [at_put,at_putAll,at_goOn,at_endText,at_add,at_resume,at_dropToken,at_setRef,at_tellStart,at_tellEnd,at_endInnermost,at_endComment,at_endInstruction,at_endValue,at_readCharacter,at_readPart,at_readReference,at_lengthenName,at_readDash,at_readComment,at_readInstructionName,at_readBareInstruction,at_readInstruction,at_readInstructionSpace,at_readOutside,at_readContent,at_readSection,at_beginStart,at_readLess,at_readBang,at_readSectionMark,at_readStartGap,at_readStartName,at_readStartSpace]
theorem at_readAttrSpace (s:St) (x:Int):(Mk.readAttrSpace s x).1.at_=s.at_:=by unfold Mk.readAttrSpace;(repeat' split) <;> simp only [at_put,at_putAll,at_goOn,at_endText,at_add,at_resume,at_dropToken,at_setRef,at_tellStart,at_tellEnd,at_endInnermost,at_endComment,at_endInstruction,at_endValue,at_readCharacter,at_readPart,at_readReference,at_lengthenName,at_readDash,at_readComment,at_readInstructionName,at_readBareInstruction,at_readInstruction,at_readInstructionSpace,at_readOutside,at_readContent,at_readSection,at_beginStart,at_readLess,at_readBang,at_readSectionMark,at_readStartGap,at_readStartName,at_readStartSpace,at_readSlash]
theorem at_lengthenAttrName (s:St) (x:Int):(Mk.lengthenAttrName s x).1.at_=s.at_:=by unfold Mk.lengthenAttrName;(repeat' split) <;> simp only [at_put,at_putAll,at_goOn,at_endText,at_add,at_resume,at_dropToken,at_setRef,at_tellStart,at_tellEnd,at_endInnermost,at_endComment,at_endInstruction,at_endValue,at_readCharacter,at_readPart,at_readReference,at_lengthenName,at_readDash,at_readComment,at_readInstructionName,at_readBareInstruction,at_readInstruction,at_readInstructionSpace,at_readOutside,at_readContent,at_readSection,at_beginStart,at_readLess,at_readBang,at_readSectionMark,at_readStartGap,at_readStartName,at_readStartSpace,at_readSlash,at_readAttrSpace]
theorem at_readAttrName (s:St) (x:Int):(Mk.readAttrName s x).1.at_=s.at_:=by unfold Mk.readAttrName;(repeat' split) <;> simp only [at_put,at_putAll,at_goOn,at_endText,at_add,at_resume,at_dropToken,at_setRef,at_tellStart,at_tellEnd,at_endInnermost,at_endComment,at_endInstruction,at_endValue,at_readCharacter,at_readPart,at_readReference,at_lengthenName,at_readDash,at_readComment,at_readInstructionName,at_readBareInstruction,at_readInstruction,at_readInstructionSpace,at_readOutside,at_readContent,at_readSection,at_beginStart,at_readLess,at_readBang,at_readSectionMark,at_readStartGap,at_readStartName,at_readStartSpace,at_readSlash,at_readAttrSpace,at_lengthenAttrName]
theorem at_readEquals (s:St) (x:Int):(Mk.readEquals s x).1.at_=s.at_:=by unfold Mk.readEquals;(repeat' split) <;> simp only [at_put,at_putAll,at_goOn,at_endText,at_add,at_resume,at_dropToken,at_setRef,at_tellStart,at_tellEnd,at_endInnermost,at_endComment,at_endInstruction,at_endValue,at_readCharacter,at_readPart,at_readReference,at_lengthenName,at_readDash,at_readComment,at_readInstructionName,at_readBareInstruction,at_readInstruction,at_readInstructionSpace,at_readOutside,at_readContent,at_readSection,at_beginStart,at_readLess,at_readBang,at_readSectionMark,at_readStartGap,at_readStartName,at_readStartSpace,at_readSlash,at_readAttrSpace,at_lengthenAttrName,at_readAttrName]
theorem at_readValue (s:St) (x:Int):(Mk.readValue s x).1.at_=s.at_:=by unfold Mk.readValue;(repeat' split) <;> simp only [at_put,at_putAll,at_goOn,at_endText,at_add,at_resume,at_dropToken,at_setRef,at_tellStart,at_tellEnd,at_endInnermost,at_endComment,at_endInstruction,at_endValue,at_readCharacter,at_readPart,at_readReference,at_lengthenName,at_readDash,at_readComment,at_readInstructionName,at_readBareInstruction,at_readInstruction,at_readInstructionSpace,at_readOutside,at_readContent,at_readSection,at_beginStart,at_readLess,at_readBang,at_readSectionMark,at_readStartGap,at_readStartName,at_readStartSpace,at_readSlash,at_readAttrSpace,at_lengthenAttrName,at_readAttrName,at_readEquals]
theorem at_readEndSpace (s:St) (x:Int):(Mk.readEndSpace s x).1.at_=s.at_:=by unfold Mk.readEndSpace;(repeat' split) <;> simp only [at_put,at_putAll,at_goOn,at_endText,at_add,at_resume,at_dropToken,at_setRef,at_tellStart,at_tellEnd,at_endInnermost,at_endComment,at_endInstruction,at_endValue,at_readCharacter,at_readPart,at_readReference,at_lengthenName,at_readDash,at_readComment,at_readInstructionName,at_readBareInstruction,at_readInstruction,at_readInstructionSpace,at_readOutside,at_readContent,at_readSection,at_beginStart,at_readLess,at_readBang,at_readSectionMark,at_readStartGap,at_readStartName,at_readStartSpace,at_readSlash,at_readAttrSpace,at_lengthenAttrName,at_readAttrName,at_readEquals,at_readValue]
theorem at_readEndName (s:St) (x:Int):(Mk.readEndName s x).1.at_=s.at_:=by unfold Mk.readEndName;(repeat' split) <;> simp only [at_put,at_putAll,at_goOn,at_endText,at_add,at_resume,at_dropToken,at_setRef,at_tellStart,at_tellEnd,at_endInnermost,at_endComment,at_endInstruction,at_endValue,at_readCharacter,at_readPart,at_readReference,at_lengthenName,at_readDash,at_readComment,at_readInstructionName,at_readBareInstruction,at_readInstruction,at_readInstructionSpace,at_readOutside,at_readContent,at_readSection,at_beginStart,at_readLess,at_readBang,at_readSectionMark,at_readStartGap,at_readStartName,at_readStartSpace,at_readSlash,at_readAttrSpace,at_lengthenAttrName,at_readAttrName,at_readEquals,at_readValue,at_readEndSpace]
theorem at_readStartTag (s:St) (x:Int):(Mk.readStartTag s x).1.at_=s.at_:=by unfold Mk.readStartTag;(repeat' split) <;> simp only [at_put,at_putAll,at_goOn,at_endText,at_add,at_resume,at_dropToken,at_setRef,at_tellStart,at_tellEnd,at_endInnermost,at_endComment,at_endInstruction,at_endValue,at_readCharacter,at_readPart,at_readReference,at_lengthenName,at_readDash,at_readComment,at_readInstructionName,at_readBareInstruction,at_readInstruction,at_readInstructionSpace,at_readOutside,at_readContent,at_readSection,at_beginStart,at_readLess,at_readBang,at_readSectionMark,at_readStartGap,at_readStartName,at_readStartSpace,at_readSlash,at_readAttrSpace,at_lengthenAttrName,at_readAttrName,at_readEquals,at_readValue,at_readEndSpace,at_readEndName]
theorem at_readMark (s:St) (x:Int):(Mk.readMark s x).1.at_=s.at_:=by unfold Mk.readMark;(repeat' split) <;> simp only [at_put,at_putAll,at_goOn,at_endText,at_add,at_resume,at_dropToken,at_setRef,at_tellStart,at_tellEnd,at_endInnermost,at_endComment,at_endInstruction,at_endValue,at_readCharacter,at_readPart,at_readReference,at_lengthenName,at_readDash,at_readComment,at_readInstructionName,at_readBareInstruction,at_readInstruction,at_readInstructionSpace,at_readOutside,at_readContent,at_readSection,at_beginStart,at_readLess,at_readBang,at_readSectionMark,at_readStartGap,at_readStartName,at_readStartSpace,at_readSlash,at_readAttrSpace,at_lengthenAttrName,at_readAttrName,at_readEquals,at_readValue,at_readEndSpace,at_readEndName,at_readStartTag]
theorem at_readByte (s:St) (x:Int):(Mk.readByte s x).1.at_=s.at_:=by unfold Mk.readByte;(repeat' split) <;> simp only [at_put,at_putAll,at_goOn,at_endText,at_add,at_resume,at_dropToken,at_setRef,at_tellStart,at_tellEnd,at_endInnermost,at_endComment,at_endInstruction,at_endValue,at_readCharacter,at_readPart,at_readReference,at_lengthenName,at_readDash,at_readComment,at_readInstructionName,at_readBareInstruction,at_readInstruction,at_readInstructionSpace,at_readOutside,at_readContent,at_readSection,at_beginStart,at_readLess,at_readBang,at_readSectionMark,at_readStartGap,at_readStartName,at_readStartSpace,at_readSlash,at_readAttrSpace,at_lengthenAttrName,at_readAttrName,at_readEquals,at_readValue,at_readEndSpace,at_readEndName,at_readStartTag,at_readMark]
theorem at_movePlace (s:St) (x:Int):(Mk.movePlace s x).at_=s.at_:=by unfold Mk.movePlace;(repeat' split) <;> rfl
theorem at_readOn (s:St) (x:Int):(Mk.readOn s x).1.at_=s.at_:=by unfold Mk.readOn;split <;> simp only [at_movePlace,at_readByte]
theorem at_read (s:St) (x:Int):(Mk.read s x).1.at_=s.at_:=by unfold Mk.read;(repeat' split) <;> simp only [at_readOn]
open Go.RowKit
theorem feedAll_snoc (l:Bs) (x:UInt8):∀ s,Mk.feedAll s (l ++ [x])=Mk.feedByte (Mk.feedAll s l) x:=by
  induction l with
  | nil=>intro s;rfl
  | cons y r ih=>intro s;exact ih _
theorem feedAll_append (l r:Bs):∀ s,Mk.feedAll s (l ++ r)=Mk.feedAll (Mk.feedAll s l) r:=by
  induction l with
  | nil=>intro s;rfl
  | cons y t ih=>intro s;exact ih _
theorem feedByte_ended (s:St) (x:UInt8) (h:s.ended ≠ 0):Mk.feedByte s x=s:=by unfold Mk.feedByte;rw [if_neg h]
theorem feedAll_ended:∀ (l:Bs) (s:St),s.ended ≠ 0→Mk.feedAll s l=s
  | [],s,_=>rfl
  | x :: r,s,h=>by
    show Mk.feedAll (Mk.feedByte s x) r=s
    rw [feedByte_ended s x h]
    exact feedAll_ended r s h
theorem feedByte_at (s:St) (x:UInt8):s.at_≤(Mk.feedByte s x).at_∧(Mk.feedByte s x).at_≤s.at_ + 1:=by
  unfold Mk.feedByte
  split
  · have:=at_read { s with at_:=s.at_ + 1 } x.toNat
    simp only at this ⊢
    omega
  · omega
theorem feedAll_at:∀ (l:Bs) (s:St),s.at_≤(Mk.feedAll s l).at_∧(Mk.feedAll s l).at_≤s.at_ + l.length
  | [],s=>by simp [Mk.feedAll]
  | x :: r,s=>by
    have h1:=feedByte_at s x
    have h2:=feedAll_at r (Mk.feedByte s x)
    simp only [Mk.feedAll,List.length_cons]
    omega
theorem inv_feedByte {k:Nat} {s:St} (h:Inv k s) (x:UInt8):Inv (k + 12) (Mk.feedByte s x):=by
  unfold Mk.feedByte
  split
  · have hb:=byte_le x
    have h1:=inv_read (s:={ s with at_:=s.at_ + 1 }) (k:=k) { h with } x.toNat hb.1 hb.2
    exact { h1 with }
  · exact h.mono (by omega)
theorem inv_feedAll:∀ (l:Bs) {k:Nat} {s:St},Inv k s→Inv (k + 12 * l.length) (Mk.feedAll s l)
  | [],k,s,h=>h
  | x :: r,k,s,h=>(inv_feedAll r (inv_feedByte h x)).mono (by simp;omega)
structure Got (w:World) (v:Value) (l:List Ev) (fp:List Nat):Prop where
  ex:∃ es:List (Ev × Value),es.map (·.1)=l∧w.ownsRow 0 53 5 v l.length (evsRow es)∧(∀ p ∈ es,(evRow p).owned w 0)∧(∀ k,v.ownBlock=some k→k ∈ fp)∧(∀ k ∈ blks (es.map evRow),k ∈ fp∧v.ownBlock ≠ some k)
theorem ownsRow_base {w:World} {base base' : Nat} {e:TypeId} {size:Nat} {v:Value} {n:Nat} {xs:List Value} (h:w.ownsRow base e size v n xs) (hb:base' ≤ base):w.ownsRow base' e size v n xs:=by
  refine ⟨h.1,?_⟩
  rcases h.2 with h2 | ⟨g,cap,cur,h3,h4,h5⟩
  · exact .inl h2
  · exact .inr ⟨g,cap,cur,h3,Nat.le_trans hb h4,h5⟩
theorem Got.keep {w w' : World} {v:Value} {l:List Ev} {fp:List Nat} (h:Got w v l fp) (hk:∀ k ∈ fp,w'.heap[k]? = w.heap[k]?):Got w' v l fp:=by
  obtain ⟨es,h1,h2,h3,h4,h5⟩:=h.ex
  refine ⟨es,h1,?_,fun p hp=>owned_keep (h3 p hp) fun k hv=>hk k ((h5 k (List.mem_filterMap.2 ⟨evRow p,List.mem_map_of_mem hp,hv⟩)).1),h4,h5⟩
  exact owned_keep (r:=⟨53,5,v,l.length,evsRow es⟩) h2 fun k hv=>hk k (h4 k hv)
theorem Take_any {w:World} {b:Nat} {s:St} {L:Lay} (h:RdL w b s L) (hx:s.text.length≤1000000000000) (hl:s.list.length≤1000000000000) :
    Calls Tryz.prog 58 #[.pointer (some ⟨b,0,none⟩)] w fun e w' => ∃ v fp L', e = .returned v∧Got w' v (Mk.endText s).list fp∧(∃ a n c,v = .slice a n c)∧Mv w b (foot s L) w' (Mk.take s) L' ∧ ∀ k ∈ fp,(b≤k + 1∧k ≠ b)∧k<w'.heap.size∧k ∉ foot (Mk.take s) L' ∧ (k ∈ foot s L∨w.heap.size≤k):=by
  have HT:=hide (take_any h hx hl)
  clear h
  go_enter Tryz.func58,Tryz.ntmps58
  go_wp2_with (go_at_call 75;refine (unhide HT).mono ?_;rintro e w1 ⟨L1,rfl,⟨w2,hm2,rfl⟩,L2,hm3,hd⟩;have HA:=hide hm2;have HB:=hide hm3;have HC:=hide hd;clear hm2 hm3 hd)
  go_ret
  have hm2:=unhide HA
  have hrows:=hm2.rd.rows
  have hp:(rowsOf (Mk.endText s) L1).Perm ((lstRow (Mk.endText s) L1 :: L1.es.map evRow) ++ [opnRow (Mk.endText s) L1,tokRow (Mk.endText s) L1,attRow (Mk.endText s) L1,txtRow (Mk.endText s) L1,bndRow (Mk.endText s) L1,cntRow (Mk.endText s) L1]):=by
    refine (perm4 _ _ _ _ _).trans (.cons _ ?_)
    exact (List.perm_append_comm (l₁:=[opnRow _ _,tokRow _ _,attRow _ _,txtRow _ _,bndRow _ _,cntRow _ _]) (l₂:=L1.es.map evRow))
  have h2:=hrows.perm hp
  have hblk:∀ k ∈ blks (lstRow (Mk.endText s) L1 :: L1.es.map evRow),(b≤k + 1∧k ≠ b)∧k<w2.heap.size∧k ∈ foot (Mk.endText s) L1:=fun k hk=>by
    have h9:k ∈ blks ((lstRow (Mk.endText s) L1 :: L1.es.map evRow) ++ [opnRow (Mk.endText s) L1,tokRow (Mk.endText s) L1,attRow (Mk.endText s) L1,txtRow (Mk.endText s) L1,bndRow (Mk.endText s) L1,cntRow (Mk.endText s) L1]):=by unfold blks at hk ⊢;rw [List.filterMap_append];exact List.mem_append_left _ hk
    have:=h2.lt k h9
    have hkf:=perm_blks hp.symm k h9
    exact ⟨⟨by omega,fun e=>hm2.rd.nb (e ▸ hkf)⟩,this.2,hkf⟩
  have hkeep:∀ k ∈ blks (lstRow (Mk.endText s) L1 :: L1.es.map evRow),(w2.setCell ⟨b,26,none⟩ (.slice none 0 0)).heap[k]? = w2.heap[k]? := fun k hk=>by
    refine Below.heap_setCell _ _ _ _ ?_
    exact (hblk k hk).1.2
  have hown:∀ r ∈ lstRow (Mk.endText s) L1 :: L1.es.map evRow,r.owned w2 (b - 1):=fun r hr=>h2.own r (List.mem_append_left _ hr)
  have hnd:=h2.nd
  refine ⟨_,blks (lstRow (Mk.endText s) L1 :: L1.es.map evRow),L2,rfl,?_,⟨_,_,_,rfl⟩,unhide HB,fun k hk=>⟨(hblk k hk).1,by have:=(hblk k hk).2.1;simpa [World.setCell] using this,fun hm=>(unhide HC) k hm hk,(unhide HA).fr.foot k (hblk k hk).2.2⟩⟩
  refine Got.keep (w:=w2) ⟨L1.es,hm2.rd.evs,ownsRow_base (hown _ List.mem_cons_self) (Nat.zero_le _),fun p hp' => ownsRow_base (hown _ (List.mem_cons_of_mem _ (List.mem_map_of_mem hp'))) (Nat.zero_le _),fun k hv=>List.mem_filterMap.2 ⟨lstRow (Mk.endText s) L1,List.mem_cons_self,hv⟩,fun k hk=>⟨?_,?_⟩⟩ hkeep
  · unfold blks at hk ⊢
    rw [List.filterMap_cons]
    split
    · exact hk
    · exact List.mem_cons_of_mem _ hk
  · intro he
    have h8:(blks (lstRow (Mk.endText s) L1 :: L1.es.map evRow)).Nodup:=by
      unfold blks at hnd ⊢
      rw [List.filterMap_append] at hnd
      exact (List.nodup_append.1 hnd).1
    unfold blks at h8 hk
    rw [List.filterMap_cons] at h8
    have he' : (lstRow (Mk.endText s) L1).v.ownBlock=some k:=he
    rw [he'] at h8
    exact (List.nodup_cons.1 h8).1 hk
end Go.Proofs.YtmgfijllcdadgabGreatDoor
