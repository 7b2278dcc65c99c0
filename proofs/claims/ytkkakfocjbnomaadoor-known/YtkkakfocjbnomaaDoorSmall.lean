/-
  THE SMALL DOCUMENTS (no Go, no memory).
-/
import Derived.Test.YtkkakfocjbnomaaDoorRun
namespace Go.Proofs.YtkkakfocjbnomaaDoor
set_option linter.unusedVariables false
set_option linter.unusedSimpArgs false
open Mk (St Bs Ev Att)

theorem small_none (d a t : Int) (n : Bool) : (Mk.close (runL (Mk.make_ d a t n) [] 0 [] []).1).2 = 9 := by rfl
set_option maxRecDepth 10000 in
set_option maxHeartbeats 2000000 in
theorem small_doc (d a t : Int) (n : Bool) (d1 : 1 ≤ d) (a1 : 0 ≤ a) (t1 : 8 ≤ t) : (runL (Mk.make_ d a t n) [] 0 [60, 97, 47, 62] []).2.2 = 0 ∧ (Mk.close (runL (Mk.make_ d a t n) [] 0 [60, 97, 47, 62] []).1).2 = 0 ∧ (runL (Mk.make_ d a t n) [] 0 [60, 97, 47, 62] []).2.1.length = 2 := by
  have h1 : ¬ d ≤ 0 := by omega
  have h2 : ¬ t ≤ 0 := by omega
  have h3 : ¬ t < 1 := by omega
  have h4 : ¬ t ≤ 1 := by omega
  have h5 : ¬ d < 1 := by omega
  have h6 : 0 < t := by omega
  have h7 : 0 < d := by omega
  simp [runL, join, joinOne, h1, h2, h3, h4, h5, h6, h7, Mk.u8,Mk.isSpace,Mk.isLetter,Mk.isDigit,Mk.beginsName,Mk.inName,Mk.digitVal,Mk.digit,Mk.isChar,Mk.encodeI,Mk.encode,Mk.begin_,Mk.canEnd,Mk.nextPart,Mk.refNames,Mk.letterIn,Mk.letter,Mk.refDigit,Mk.digitOrEnd,Mk.refNext,Mk.isOpen,Mk.inText,Mk.fits,Mk.put,Mk.dropToken,Mk.lengthenName,Mk.goOn,Mk.putAll,Mk.readCharacter,Mk.readPart,Mk.setRef,Mk.readReference,Mk.endText,Mk.add,Mk.take,Mk.resume,Mk.endComment,Mk.readDash,Mk.readComment,Mk.isXML,Mk.readInstructionName,Mk.endInstruction,Mk.readBareInstruction,Mk.readInstruction,Mk.readInstructionSpace,Mk.readOutside,Mk.readContent,Mk.readSection,Mk.beginStart,Mk.readLess,Mk.readBang,Mk.sectionMark,Mk.readSectionMark,Mk.tellStart,Mk.tellEnd,Mk.readStartGap,Mk.readStartName,Mk.readStartSpace,Mk.readSlash,Mk.hasAttr,Mk.readAttrSpace,Mk.lengthenAttrName,Mk.readAttrName,Mk.readEquals,Mk.endValue,Mk.readValue,Mk.innermost,Mk.endInnermost,Mk.readEndSpace,Mk.readEndName,Mk.readStartTag,Mk.readMark,Mk.readByte,Mk.movePlace,Mk.readOn,Mk.read,Mk.isDocument,Mk.make_,Mk.feedByte,Mk.feedAll,Mk.feed,Mk.close]
end Go.Proofs.YtkkakfocjbnomaaDoor
