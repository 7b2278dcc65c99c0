/-
  NARROWER THAN 'FOR EVERY INPUT', by the rows' own cells (each row's printed sentence says how): News: laid · Plains: laid · Closes: laid · Places: laid · Rests: laid · Qualified: laid · Writes: laid · All: laid · Known: laid · Split: laid · SplitNames: laid · Earliest: laid.
  DERIVED. THE GIVEN ROWS OF THIS SEAT. 12 by the template 'for every input the law returns true; each argument reads behind the call as it read before'; 0 by the template 'total and deterministic' (their statements: YtmgfijllcdadgaaGreatDoorTotals.lean).
  GIVEN WITH THE SEED: the statements are not yours to turn. If you find one false, say at which input.
  Laid BY PROGRAM, IN A SANDBOX (cutbox-rows.mjs): the forced cells as the released guide's own fill.sh prints them over the translation 0e279e2cbb46c25c… (all of the seat's roots in one cut). By AI agents, Wed Nov 11 2026. No macro, syntax, notation, axiom, sorry.
-/
import Derived.Test.YtmgfijllcdadgaaGreatDoorChecked
import GoSem.Claim
import GoSem.ClaimJoined
import GoSem.ClaimMapViews
import Derived.JoinedTies
import Derived.KernelRfl
namespace Go.Proofs.YtmgfijllcdadgaaGreatDoor
/- THE CELL 'sum', in the pinned program and in every row, IS THE sha256 OF THE DUMP (.gsa) THAT YtmgfijllcdadgaaGreatDoorProg.lean LOADS. Nothing in Lean hashes anything: it is a label: what it is worth is what the hold of that sum in a sandbox is worth. -/
noncomputable def Tryz.pinned : Pinned := { name := "ytmgfijllcdadgaagreatdoor", sum := "0e279e2cbb46c25c851983ed8fcd1b6129ddd1b03a1296e07ab8f4a890626e1a", checked := Tryz.checked }
namespace Rows
def none {H : Type} : Left H := { results := [], args := [] }

/- WHAT THE LISTED PACKAGE-LEVEL VARIABLES READ AS WHEN THE CALL BEGINS. Each datum BY PROGRAM (the guide's laid-datum.mjs) off the statement by which the dump's own 'gosem.cut.vars' lays the variable. In a bare row this is a premise. The card (YtmgfijllcdadgaaGreatDoorCards.lean) ties it to the program's text. -/
def laid_markup_markupref_words {H : Type} : DataW H := .agg [.lit (.string [108, 116, 59, 60]), .lit (.string [103, 116, 59, 62]), .lit (.string [97, 109, 112, 59, 38]), .lit (.string [113, 117, 111, 116, 59, 34]), .lit (.string [97, 112, 111, 115, 59, 39])]
def laid_markup_refs_names {H : Type} : DataW H := .agg [.lit (.string [108, 116, 59]), .lit (.string [103, 116, 59]), .lit (.string [97, 109, 112, 59]), .lit (.string [113, 117, 111, 116, 59]), .lit (.string [97, 112, 111, 115, 59])]
def laid_markup_refs_named {H : Type} : DataW H := .agg [.lit (.int .i64 60), .lit (.int .i64 62), .lit (.int .i64 38), .lit (.int .i64 34), .lit (.int .i64 39)]

/-- 'markuplaw.News': WHATEVER THE INPUT: true; the input reads as it did. -/
def newsSpec : ChangeSpec := { name := "news", fn := fun _ => fun
  | [d] => { results := [.lit (.bool true)], args := [d] }
  | _ => none }
def newsRow : OpenClaim := { program := "ytmgfijllcdadgaagreatdoor", sum := "0e279e2cbb46c25c851983ed8fcd1b6129ddd1b03a1296e07ab8f4a890626e1a", func := "markup/markuplaw.News", spec := "news", recurses := true, named := ["markup/markupref.words", "markup/refs.names", "markup/refs.named"], apart := false, laid := [("markup/markupref.words", laid_markup_markupref_words), ("markup/refs.names", laid_markup_refs_names), ("markup/refs.named", laid_markup_refs_named)] }
def NewsSaid : Prop := newsRow.holds Tryz.pinned (OpenSpec.ofChange newsSpec)

/-- ITS FALSE NEIGHBOUR: 'it returns false'. Refute it at one input. -/
def newsWrong : ChangeSpec := { name := "news", fn := fun _ => fun
  | [d] => { results := [.lit (.bool false)], args := [d] }
  | _ => none }
def NewsWrongFalsely : Prop := newsRow.holds Tryz.pinned (OpenSpec.ofChange newsWrong)

/-- 'markuplaw.Plains': WHATEVER THE INPUT: true; the input reads as it did. -/
def plainsSpec : ChangeSpec := { name := "plains", fn := fun _ => fun
  | [d] => { results := [.lit (.bool true)], args := [d] }
  | _ => none }
def plainsRow : OpenClaim := { program := "ytmgfijllcdadgaagreatdoor", sum := "0e279e2cbb46c25c851983ed8fcd1b6129ddd1b03a1296e07ab8f4a890626e1a", func := "markup/markuplaw.Plains", spec := "plains", recurses := true, named := ["markup/markupref.words", "markup/refs.names", "markup/refs.named"], apart := false, laid := [("markup/markupref.words", laid_markup_markupref_words), ("markup/refs.names", laid_markup_refs_names), ("markup/refs.named", laid_markup_refs_named)] }
def PlainsSaid : Prop := plainsRow.holds Tryz.pinned (OpenSpec.ofChange plainsSpec)

/-- ITS FALSE NEIGHBOUR: 'it returns false'. Refute it at one input. -/
def plainsWrong : ChangeSpec := { name := "plains", fn := fun _ => fun
  | [d] => { results := [.lit (.bool false)], args := [d] }
  | _ => none }
def PlainsWrongFalsely : Prop := plainsRow.holds Tryz.pinned (OpenSpec.ofChange plainsWrong)

/-- 'markuplaw.Closes': WHATEVER THE INPUT: true; the input reads as it did. -/
def closesSpec : ChangeSpec := { name := "closes", fn := fun _ => fun
  | [d] => { results := [.lit (.bool true)], args := [d] }
  | _ => none }
def closesRow : OpenClaim := { program := "ytmgfijllcdadgaagreatdoor", sum := "0e279e2cbb46c25c851983ed8fcd1b6129ddd1b03a1296e07ab8f4a890626e1a", func := "markup/markuplaw.Closes", spec := "closes", recurses := true, named := ["markup/markupref.words", "markup/refs.names", "markup/refs.named"], apart := false, laid := [("markup/markupref.words", laid_markup_markupref_words), ("markup/refs.names", laid_markup_refs_names), ("markup/refs.named", laid_markup_refs_named)] }
def ClosesSaid : Prop := closesRow.holds Tryz.pinned (OpenSpec.ofChange closesSpec)

/-- ITS FALSE NEIGHBOUR: 'it returns false'. Refute it at one input. -/
def closesWrong : ChangeSpec := { name := "closes", fn := fun _ => fun
  | [d] => { results := [.lit (.bool false)], args := [d] }
  | _ => none }
def ClosesWrongFalsely : Prop := closesRow.holds Tryz.pinned (OpenSpec.ofChange closesWrong)

/-- 'markuplaw.Places': WHATEVER THE INPUT: true; the input reads as it did. -/
def placesSpec : ChangeSpec := { name := "places", fn := fun _ => fun
  | [d] => { results := [.lit (.bool true)], args := [d] }
  | _ => none }
def placesRow : OpenClaim := { program := "ytmgfijllcdadgaagreatdoor", sum := "0e279e2cbb46c25c851983ed8fcd1b6129ddd1b03a1296e07ab8f4a890626e1a", func := "markup/markuplaw.Places", spec := "places", recurses := true, named := ["markup/markupref.words", "markup/refs.names", "markup/refs.named"], apart := false, laid := [("markup/markupref.words", laid_markup_markupref_words), ("markup/refs.names", laid_markup_refs_names), ("markup/refs.named", laid_markup_refs_named)] }
def PlacesSaid : Prop := placesRow.holds Tryz.pinned (OpenSpec.ofChange placesSpec)

/-- ITS FALSE NEIGHBOUR: 'it returns false'. Refute it at one input. -/
def placesWrong : ChangeSpec := { name := "places", fn := fun _ => fun
  | [d] => { results := [.lit (.bool false)], args := [d] }
  | _ => none }
def PlacesWrongFalsely : Prop := placesRow.holds Tryz.pinned (OpenSpec.ofChange placesWrong)

/-- 'markuplaw.Rests': WHATEVER THE INPUT: true; the input reads as it did. -/
def restsSpec : ChangeSpec := { name := "rests", fn := fun _ => fun
  | [d] => { results := [.lit (.bool true)], args := [d] }
  | _ => none }
def restsRow : OpenClaim := { program := "ytmgfijllcdadgaagreatdoor", sum := "0e279e2cbb46c25c851983ed8fcd1b6129ddd1b03a1296e07ab8f4a890626e1a", func := "markup/markuplaw.Rests", spec := "rests", recurses := true, named := ["markup/markupref.words", "markup/refs.names", "markup/refs.named"], apart := false, laid := [("markup/markupref.words", laid_markup_markupref_words), ("markup/refs.names", laid_markup_refs_names), ("markup/refs.named", laid_markup_refs_named)] }
def RestsSaid : Prop := restsRow.holds Tryz.pinned (OpenSpec.ofChange restsSpec)

/-- ITS FALSE NEIGHBOUR: 'it returns false'. Refute it at one input. -/
def restsWrong : ChangeSpec := { name := "rests", fn := fun _ => fun
  | [d] => { results := [.lit (.bool false)], args := [d] }
  | _ => none }
def RestsWrongFalsely : Prop := restsRow.holds Tryz.pinned (OpenSpec.ofChange restsWrong)

/-- 'markuplaw.Qualified': WHATEVER THE INPUT: true; the input reads as it did. -/
def qualifiedSpec : ChangeSpec := { name := "qualified", fn := fun _ => fun
  | [d] => { results := [.lit (.bool true)], args := [d] }
  | _ => none }
def qualifiedRow : OpenClaim := { program := "ytmgfijllcdadgaagreatdoor", sum := "0e279e2cbb46c25c851983ed8fcd1b6129ddd1b03a1296e07ab8f4a890626e1a", func := "markup/markuplaw.Qualified", spec := "qualified", recurses := true, named := ["markup/markupref.words", "markup/refs.names", "markup/refs.named"], apart := false, laid := [("markup/markupref.words", laid_markup_markupref_words), ("markup/refs.names", laid_markup_refs_names), ("markup/refs.named", laid_markup_refs_named)] }
def QualifiedSaid : Prop := qualifiedRow.holds Tryz.pinned (OpenSpec.ofChange qualifiedSpec)

/-- ITS FALSE NEIGHBOUR: 'it returns false'. Refute it at one input. -/
def qualifiedWrong : ChangeSpec := { name := "qualified", fn := fun _ => fun
  | [d] => { results := [.lit (.bool false)], args := [d] }
  | _ => none }
def QualifiedWrongFalsely : Prop := qualifiedRow.holds Tryz.pinned (OpenSpec.ofChange qualifiedWrong)

/-- 'markuplaw.Writes': WHATEVER THE INPUT: true; the input reads as it did. -/
def writesSpec : ChangeSpec := { name := "writes", fn := fun _ => fun
  | [d] => { results := [.lit (.bool true)], args := [d] }
  | _ => none }
def writesRow : OpenClaim := { program := "ytmgfijllcdadgaagreatdoor", sum := "0e279e2cbb46c25c851983ed8fcd1b6129ddd1b03a1296e07ab8f4a890626e1a", func := "markup/markuplaw.Writes", spec := "writes", recurses := true, named := ["markup/markupref.words", "markup/refs.names", "markup/refs.named"], apart := false, laid := [("markup/markupref.words", laid_markup_markupref_words), ("markup/refs.names", laid_markup_refs_names), ("markup/refs.named", laid_markup_refs_named)] }
def WritesSaid : Prop := writesRow.holds Tryz.pinned (OpenSpec.ofChange writesSpec)

/-- ITS FALSE NEIGHBOUR: 'it returns false'. Refute it at one input. -/
def writesWrong : ChangeSpec := { name := "writes", fn := fun _ => fun
  | [d] => { results := [.lit (.bool false)], args := [d] }
  | _ => none }
def WritesWrongFalsely : Prop := writesRow.holds Tryz.pinned (OpenSpec.ofChange writesWrong)

/-- 'markuplaw.All': WHATEVER THE INPUT: true; the input reads as it did. -/
def allSpec : ChangeSpec := { name := "all", fn := fun _ => fun
  | [d] => { results := [.lit (.bool true)], args := [d] }
  | _ => none }
def allRow : OpenClaim := { program := "ytmgfijllcdadgaagreatdoor", sum := "0e279e2cbb46c25c851983ed8fcd1b6129ddd1b03a1296e07ab8f4a890626e1a", func := "markup/markuplaw.All", spec := "all", recurses := true, named := ["markup/markupref.words", "markup/refs.names", "markup/refs.named"], apart := false, laid := [("markup/markupref.words", laid_markup_markupref_words), ("markup/refs.names", laid_markup_refs_names), ("markup/refs.named", laid_markup_refs_named)] }
def AllSaid : Prop := allRow.holds Tryz.pinned (OpenSpec.ofChange allSpec)

/-- ITS FALSE NEIGHBOUR: 'it returns false'. Refute it at one input. -/
def allWrong : ChangeSpec := { name := "all", fn := fun _ => fun
  | [d] => { results := [.lit (.bool false)], args := [d] }
  | _ => none }
def AllWrongFalsely : Prop := allRow.holds Tryz.pinned (OpenSpec.ofChange allWrong)

/-- 'markupkeep.Known': WHATEVER THE INPUT: true; the input reads as it did. -/
def knownSpec : ChangeSpec := { name := "known", fn := fun _ => fun
  | [d1, d2] => { results := [.lit (.bool true)], args := [d1, d2] }
  | _ => none }
def knownRow : OpenClaim := { program := "ytmgfijllcdadgaagreatdoor", sum := "0e279e2cbb46c25c851983ed8fcd1b6129ddd1b03a1296e07ab8f4a890626e1a", func := "markup/markupkeep.Known", spec := "known", named := ["markup/refs.names", "markup/refs.named"], apart := false, laid := [("markup/refs.names", laid_markup_refs_names), ("markup/refs.named", laid_markup_refs_named)] }
def KnownSaid : Prop := knownRow.holds Tryz.pinned (OpenSpec.ofChange knownSpec)

/-- ITS FALSE NEIGHBOUR: 'it returns false'. Refute it at one input. -/
def knownWrong : ChangeSpec := { name := "known", fn := fun _ => fun
  | [d1, d2] => { results := [.lit (.bool false)], args := [d1, d2] }
  | _ => none }
def KnownWrongFalsely : Prop := knownRow.holds Tryz.pinned (OpenSpec.ofChange knownWrong)

/-- 'markupkeep.Split': WHATEVER THE INPUT: true; the input reads as it did. -/
def splitSpec : ChangeSpec := { name := "split", fn := fun _ => fun
  | [d1, d2, d3, d4, d5] => { results := [.lit (.bool true)], args := [d1, d2, d3, d4, d5] }
  | _ => none }
def splitRow : OpenClaim := { program := "ytmgfijllcdadgaagreatdoor", sum := "0e279e2cbb46c25c851983ed8fcd1b6129ddd1b03a1296e07ab8f4a890626e1a", func := "markup/markupkeep.Split", spec := "split", named := ["markup/refs.names", "markup/refs.named"], apart := false, laid := [("markup/refs.names", laid_markup_refs_names), ("markup/refs.named", laid_markup_refs_named)] }
def SplitSaid : Prop := splitRow.holds Tryz.pinned (OpenSpec.ofChange splitSpec)

/-- ITS FALSE NEIGHBOUR: 'it returns false'. Refute it at one input. -/
def splitWrong : ChangeSpec := { name := "split", fn := fun _ => fun
  | [d1, d2, d3, d4, d5] => { results := [.lit (.bool false)], args := [d1, d2, d3, d4, d5] }
  | _ => none }
def SplitWrongFalsely : Prop := splitRow.holds Tryz.pinned (OpenSpec.ofChange splitWrong)

/-- 'markupkeep.SplitNames': WHATEVER THE INPUT: true; the input reads as it did. -/
def splitNamesSpec : ChangeSpec := { name := "splitNames", fn := fun _ => fun
  | [d1, d2, d3, d4, d5] => { results := [.lit (.bool true)], args := [d1, d2, d3, d4, d5] }
  | _ => none }
def splitNamesRow : OpenClaim := { program := "ytmgfijllcdadgaagreatdoor", sum := "0e279e2cbb46c25c851983ed8fcd1b6129ddd1b03a1296e07ab8f4a890626e1a", func := "markup/markupkeep.SplitNames", spec := "splitNames", named := ["markup/refs.names", "markup/refs.named"], apart := false, laid := [("markup/refs.names", laid_markup_refs_names), ("markup/refs.named", laid_markup_refs_named)] }
def SplitNamesSaid : Prop := splitNamesRow.holds Tryz.pinned (OpenSpec.ofChange splitNamesSpec)

/-- ITS FALSE NEIGHBOUR: 'it returns false'. Refute it at one input. -/
def splitNamesWrong : ChangeSpec := { name := "splitNames", fn := fun _ => fun
  | [d1, d2, d3, d4, d5] => { results := [.lit (.bool false)], args := [d1, d2, d3, d4, d5] }
  | _ => none }
def SplitNamesWrongFalsely : Prop := splitNamesRow.holds Tryz.pinned (OpenSpec.ofChange splitNamesWrong)

/-- 'markupkeep.Earliest': WHATEVER THE INPUT: true; the input reads as it did. -/
def earliestSpec : ChangeSpec := { name := "earliest", fn := fun _ => fun
  | [d1, d2, d3, d4, d5, d6] => { results := [.lit (.bool true)], args := [d1, d2, d3, d4, d5, d6] }
  | _ => none }
def earliestRow : OpenClaim := { program := "ytmgfijllcdadgaagreatdoor", sum := "0e279e2cbb46c25c851983ed8fcd1b6129ddd1b03a1296e07ab8f4a890626e1a", func := "markup/markupkeep.Earliest", spec := "earliest", named := ["markup/refs.names", "markup/refs.named"], apart := false, laid := [("markup/refs.names", laid_markup_refs_names), ("markup/refs.named", laid_markup_refs_named)] }
def EarliestSaid : Prop := earliestRow.holds Tryz.pinned (OpenSpec.ofChange earliestSpec)

/-- ITS FALSE NEIGHBOUR: 'it returns false'. Refute it at one input. -/
def earliestWrong : ChangeSpec := { name := "earliest", fn := fun _ => fun
  | [d1, d2, d3, d4, d5, d6] => { results := [.lit (.bool false)], args := [d1, d2, d3, d4, d5, d6] }
  | _ => none }
def EarliestWrongFalsely : Prop := earliestRow.holds Tryz.pinned (OpenSpec.ofChange earliestWrong)

/- THE SECOND FORM. 'bulk': how many values and letters a reading holds, each counted each time it is reached (what is shared counts as often as it is met; a slice's spare places count too). A statement '..UptoSaid' is the law's where the arguments, and the package variables that the reading takes, are together of bulk at most 1048576: NARROWER than '..Said'. Prove '..Said' where nothing that the law and all that it calls make is longer than what came in: it says more and counts as full. Else prove '..UptoSaid'. A law counts once. -/
mutual
def uptoBulk {H : Type} : DataW H → Nat
  | .lit (.string bytes) => bytes.length + 1
  | .lit _ => 1
  | .nil => 1
  | .ptr d => uptoBulk d + 1
  | .slice elems spare => uptoBulkAll elems + uptoBulkAll spare + 1
  | .agg parts => uptoBulkAll parts + 1
  | .iface _ d => uptoBulk d + 1
  | .map entries => uptoBulkEntries entries + 1
  | .held _ => 1
def uptoBulkAll {H : Type} : List (DataW H) → Nat
  | [] => 0
  | d :: r => uptoBulk d + uptoBulkAll r
def uptoBulkEntries {H : Type} : List (Lit × DataW H) → Nat
  | [] => 0
  | x :: r => uptoBulkEntry x + uptoBulkEntries r
def uptoBulkEntry {H : Type} : Lit × DataW H → Nat
  | (.string bytes, d) => bytes.length + uptoBulk d + 1
  | (_, d) => uptoBulk d + 1
 end
def uptoSmall : (H : Type) → List (DataW H) → Bool := fun _ ds => decide (uptoBulkAll ds ≤ 1048576)
def OpenSpec.upto (s : _root_.Go.ChangeSpec) : _root_.Go.OpenSpec := { _root_.Go.OpenSpec.ofChange s with cond := some uptoSmall }

/-- 'markuplaw.News', WHERE WHAT IT READS IS OF BULK AT MOST 1048576: true; the input reads as it did. -/
def newsUptoRow : OpenClaim := { program := "ytmgfijllcdadgaagreatdoor", sum := "0e279e2cbb46c25c851983ed8fcd1b6129ddd1b03a1296e07ab8f4a890626e1a", func := "markup/markuplaw.News", spec := "news", recurses := true, named := ["markup/markupref.words", "markup/refs.names", "markup/refs.named"], apart := false, laid := [("markup/markupref.words", laid_markup_markupref_words), ("markup/refs.names", laid_markup_refs_names), ("markup/refs.named", laid_markup_refs_named)], narrowed := true }
def NewsUptoSaid : Prop := newsUptoRow.holds Tryz.pinned (OpenSpec.upto newsSpec)

/-- 'markuplaw.Plains', WHERE WHAT IT READS IS OF BULK AT MOST 1048576: true; the input reads as it did. -/
def plainsUptoRow : OpenClaim := { program := "ytmgfijllcdadgaagreatdoor", sum := "0e279e2cbb46c25c851983ed8fcd1b6129ddd1b03a1296e07ab8f4a890626e1a", func := "markup/markuplaw.Plains", spec := "plains", recurses := true, named := ["markup/markupref.words", "markup/refs.names", "markup/refs.named"], apart := false, laid := [("markup/markupref.words", laid_markup_markupref_words), ("markup/refs.names", laid_markup_refs_names), ("markup/refs.named", laid_markup_refs_named)], narrowed := true }
def PlainsUptoSaid : Prop := plainsUptoRow.holds Tryz.pinned (OpenSpec.upto plainsSpec)

/-- 'markuplaw.Closes', WHERE WHAT IT READS IS OF BULK AT MOST 1048576: true; the input reads as it did. -/
def closesUptoRow : OpenClaim := { program := "ytmgfijllcdadgaagreatdoor", sum := "0e279e2cbb46c25c851983ed8fcd1b6129ddd1b03a1296e07ab8f4a890626e1a", func := "markup/markuplaw.Closes", spec := "closes", recurses := true, named := ["markup/markupref.words", "markup/refs.names", "markup/refs.named"], apart := false, laid := [("markup/markupref.words", laid_markup_markupref_words), ("markup/refs.names", laid_markup_refs_names), ("markup/refs.named", laid_markup_refs_named)], narrowed := true }
def ClosesUptoSaid : Prop := closesUptoRow.holds Tryz.pinned (OpenSpec.upto closesSpec)

/-- 'markuplaw.Places', WHERE WHAT IT READS IS OF BULK AT MOST 1048576: true; the input reads as it did. -/
def placesUptoRow : OpenClaim := { program := "ytmgfijllcdadgaagreatdoor", sum := "0e279e2cbb46c25c851983ed8fcd1b6129ddd1b03a1296e07ab8f4a890626e1a", func := "markup/markuplaw.Places", spec := "places", recurses := true, named := ["markup/markupref.words", "markup/refs.names", "markup/refs.named"], apart := false, laid := [("markup/markupref.words", laid_markup_markupref_words), ("markup/refs.names", laid_markup_refs_names), ("markup/refs.named", laid_markup_refs_named)], narrowed := true }
def PlacesUptoSaid : Prop := placesUptoRow.holds Tryz.pinned (OpenSpec.upto placesSpec)

/-- 'markuplaw.Rests', WHERE WHAT IT READS IS OF BULK AT MOST 1048576: true; the input reads as it did. -/
def restsUptoRow : OpenClaim := { program := "ytmgfijllcdadgaagreatdoor", sum := "0e279e2cbb46c25c851983ed8fcd1b6129ddd1b03a1296e07ab8f4a890626e1a", func := "markup/markuplaw.Rests", spec := "rests", recurses := true, named := ["markup/markupref.words", "markup/refs.names", "markup/refs.named"], apart := false, laid := [("markup/markupref.words", laid_markup_markupref_words), ("markup/refs.names", laid_markup_refs_names), ("markup/refs.named", laid_markup_refs_named)], narrowed := true }
def RestsUptoSaid : Prop := restsUptoRow.holds Tryz.pinned (OpenSpec.upto restsSpec)

/-- 'markuplaw.Qualified', WHERE WHAT IT READS IS OF BULK AT MOST 1048576: true; the input reads as it did. -/
def qualifiedUptoRow : OpenClaim := { program := "ytmgfijllcdadgaagreatdoor", sum := "0e279e2cbb46c25c851983ed8fcd1b6129ddd1b03a1296e07ab8f4a890626e1a", func := "markup/markuplaw.Qualified", spec := "qualified", recurses := true, named := ["markup/markupref.words", "markup/refs.names", "markup/refs.named"], apart := false, laid := [("markup/markupref.words", laid_markup_markupref_words), ("markup/refs.names", laid_markup_refs_names), ("markup/refs.named", laid_markup_refs_named)], narrowed := true }
def QualifiedUptoSaid : Prop := qualifiedUptoRow.holds Tryz.pinned (OpenSpec.upto qualifiedSpec)

/-- 'markuplaw.Writes', WHERE WHAT IT READS IS OF BULK AT MOST 1048576: true; the input reads as it did. -/
def writesUptoRow : OpenClaim := { program := "ytmgfijllcdadgaagreatdoor", sum := "0e279e2cbb46c25c851983ed8fcd1b6129ddd1b03a1296e07ab8f4a890626e1a", func := "markup/markuplaw.Writes", spec := "writes", recurses := true, named := ["markup/markupref.words", "markup/refs.names", "markup/refs.named"], apart := false, laid := [("markup/markupref.words", laid_markup_markupref_words), ("markup/refs.names", laid_markup_refs_names), ("markup/refs.named", laid_markup_refs_named)], narrowed := true }
def WritesUptoSaid : Prop := writesUptoRow.holds Tryz.pinned (OpenSpec.upto writesSpec)

/-- 'markuplaw.All', WHERE WHAT IT READS IS OF BULK AT MOST 1048576: true; the input reads as it did. -/
def allUptoRow : OpenClaim := { program := "ytmgfijllcdadgaagreatdoor", sum := "0e279e2cbb46c25c851983ed8fcd1b6129ddd1b03a1296e07ab8f4a890626e1a", func := "markup/markuplaw.All", spec := "all", recurses := true, named := ["markup/markupref.words", "markup/refs.names", "markup/refs.named"], apart := false, laid := [("markup/markupref.words", laid_markup_markupref_words), ("markup/refs.names", laid_markup_refs_names), ("markup/refs.named", laid_markup_refs_named)], narrowed := true }
def AllUptoSaid : Prop := allUptoRow.holds Tryz.pinned (OpenSpec.upto allSpec)

/-- 'markupkeep.Known', WHERE WHAT IT READS IS OF BULK AT MOST 1048576: true; the input reads as it did. -/
def knownUptoRow : OpenClaim := { program := "ytmgfijllcdadgaagreatdoor", sum := "0e279e2cbb46c25c851983ed8fcd1b6129ddd1b03a1296e07ab8f4a890626e1a", func := "markup/markupkeep.Known", spec := "known", named := ["markup/refs.names", "markup/refs.named"], apart := false, laid := [("markup/refs.names", laid_markup_refs_names), ("markup/refs.named", laid_markup_refs_named)], narrowed := true }
def KnownUptoSaid : Prop := knownUptoRow.holds Tryz.pinned (OpenSpec.upto knownSpec)

/-- 'markupkeep.Split', WHERE WHAT IT READS IS OF BULK AT MOST 1048576: true; the input reads as it did. -/
def splitUptoRow : OpenClaim := { program := "ytmgfijllcdadgaagreatdoor", sum := "0e279e2cbb46c25c851983ed8fcd1b6129ddd1b03a1296e07ab8f4a890626e1a", func := "markup/markupkeep.Split", spec := "split", named := ["markup/refs.names", "markup/refs.named"], apart := false, laid := [("markup/refs.names", laid_markup_refs_names), ("markup/refs.named", laid_markup_refs_named)], narrowed := true }
def SplitUptoSaid : Prop := splitUptoRow.holds Tryz.pinned (OpenSpec.upto splitSpec)

/-- 'markupkeep.SplitNames', WHERE WHAT IT READS IS OF BULK AT MOST 1048576: true; the input reads as it did. -/
def splitNamesUptoRow : OpenClaim := { program := "ytmgfijllcdadgaagreatdoor", sum := "0e279e2cbb46c25c851983ed8fcd1b6129ddd1b03a1296e07ab8f4a890626e1a", func := "markup/markupkeep.SplitNames", spec := "splitNames", named := ["markup/refs.names", "markup/refs.named"], apart := false, laid := [("markup/refs.names", laid_markup_refs_names), ("markup/refs.named", laid_markup_refs_named)], narrowed := true }
def SplitNamesUptoSaid : Prop := splitNamesUptoRow.holds Tryz.pinned (OpenSpec.upto splitNamesSpec)

/-- 'markupkeep.Earliest', WHERE WHAT IT READS IS OF BULK AT MOST 1048576: true; the input reads as it did. -/
def earliestUptoRow : OpenClaim := { program := "ytmgfijllcdadgaagreatdoor", sum := "0e279e2cbb46c25c851983ed8fcd1b6129ddd1b03a1296e07ab8f4a890626e1a", func := "markup/markupkeep.Earliest", spec := "earliest", named := ["markup/refs.names", "markup/refs.named"], apart := false, laid := [("markup/refs.names", laid_markup_refs_names), ("markup/refs.named", laid_markup_refs_named)], narrowed := true }
def EarliestUptoSaid : Prop := earliestUptoRow.holds Tryz.pinned (OpenSpec.upto earliestSpec)

end Rows
end Go.Proofs.YtmgfijllcdadgaaGreatDoor
