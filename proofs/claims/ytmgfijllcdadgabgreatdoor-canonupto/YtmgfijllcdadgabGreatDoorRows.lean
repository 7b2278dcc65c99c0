/-
  NARROWER THAN 'FOR EVERY INPUT', by the rows' own cells (each row's printed sentence says how): Sticky: laid · Ways: laid · Nested: laid · Bounds: laid · Spaces: laid · Built: laid · Canon: laid.
  DERIVED. THE GIVEN ROWS OF THIS SEAT. 7 by the template 'for every input the law returns true; each argument reads behind the call as it read before'; 0 by the template 'total and deterministic' (their statements: YtmgfijllcdadgabGreatDoorTotals.lean).
  GIVEN WITH THE SEED: the statements are not yours to turn. If you find one false, say at which input.
  Laid BY PROGRAM, IN A SANDBOX (cutbox-rows.mjs): the forced cells as the released guide's own fill.sh prints them over the translation 118e36bbe64c942d… (all of the seat's roots in one cut). By AI agents, Wed Nov 11 2026. No macro, syntax, notation, axiom, sorry.
-/
import Derived.Test.YtmgfijllcdadgabGreatDoorChecked
import GoSem.Claim
import GoSem.ClaimJoined
import GoSem.ClaimMapViews
import Derived.JoinedTies
import Derived.KernelRfl
namespace Go.Proofs.YtmgfijllcdadgabGreatDoor
/- THE CELL 'sum', in the pinned program and in every row, IS THE sha256 OF THE DUMP (.gsa) THAT YtmgfijllcdadgabGreatDoorProg.lean LOADS. Nothing in Lean hashes anything: it is a label: what it is worth is what the hold of that sum in a sandbox is worth. -/
noncomputable def Tryz.pinned : Pinned := { name := "ytmgfijllcdadgabgreatdoor", sum := "118e36bbe64c942d4b3e330123e3e41f2f23cfb239ab1048fa9d9493a359102a", checked := Tryz.checked }
namespace Rows
def none {H : Type} : Left H := { results := [], args := [] }

/- WHAT THE LISTED PACKAGE-LEVEL VARIABLES READ AS WHEN THE CALL BEGINS. Each datum BY PROGRAM (the guide's laid-datum.mjs) off the statement by which the dump's own 'gosem.cut.vars' lays the variable. In a bare row this is a premise. The card (YtmgfijllcdadgabGreatDoorCards.lean) ties it to the program's text. -/
def laid_markup_refs_names {H : Type} : DataW H := .agg [.lit (.string [108, 116, 59]), .lit (.string [103, 116, 59]), .lit (.string [97, 109, 112, 59]), .lit (.string [113, 117, 111, 116, 59]), .lit (.string [97, 112, 111, 115, 59])]
def laid_markup_refs_named {H : Type} : DataW H := .agg [.lit (.int .i64 60), .lit (.int .i64 62), .lit (.int .i64 38), .lit (.int .i64 34), .lit (.int .i64 39)]
def laid_markup_markupkeep_tags {H : Type} : DataW H := .agg [.lit (.string [97]), .lit (.string [98, 45, 99]), .lit (.string [95, 100]), .lit (.string [112, 58, 97]), .lit (.string [113, 58, 101, 46, 49]), .lit (.string [90])]
def laid_markup_markupkeep_values {H : Type} : DataW H := .agg [.lit (.string [120]), .lit (.string [60, 38, 62, 34, 39]), .lit (.string [93, 93, 62]), .lit (.string [13]), .lit (.string [13, 10]), .lit (.string [32, 9, 10]), .lit (.string [195, 169, 237, 159, 191]), .lit (.string [244, 143, 191, 191, 239, 191, 189]), .lit (.string [38, 108, 116, 59]), .lit (.string [45, 45, 93, 93])]
def laid_markup_markupkeep_comments {H : Type} : DataW H := .agg [.lit (.string []), .lit (.string [99]), .lit (.string [97, 45, 98]), .lit (.string [32, 45, 32]), .lit (.string [60, 38, 62, 93, 93, 62]), .lit (.string [10, 9]), .lit (.string [226, 130, 172, 63, 62])]
def laid_markup_markupkeep_targets {H : Type} : DataW H := .agg [.lit (.string [116]), .lit (.string [120, 109, 108, 120]), .lit (.string [95]), .lit (.string [120])]
def laid_markup_markupkeep_datas {H : Type} : DataW H := .agg [.lit (.string []), .lit (.string [100, 32]), .lit (.string [63, 32, 63]), .lit (.string [60, 38, 62]), .lit (.string [120, 62, 63]), .lit (.string [195, 169]), .lit (.string [93, 93, 62])]

/-- 'markupkeep.Sticky': WHATEVER THE INPUT: true; the input reads as it did. -/
def stickySpec : ChangeSpec := { name := "sticky", fn := fun _ => fun
  | [d1, d2, d3, d4, d5, d6] => { results := [.lit (.bool true)], args := [d1, d2, d3, d4, d5, d6] }
  | _ => none }
def stickyRow : OpenClaim := { program := "ytmgfijllcdadgabgreatdoor", sum := "118e36bbe64c942d4b3e330123e3e41f2f23cfb239ab1048fa9d9493a359102a", func := "markup/markupkeep.Sticky", spec := "sticky", named := ["markup/refs.names", "markup/refs.named"], apart := false, laid := [("markup/refs.names", laid_markup_refs_names), ("markup/refs.named", laid_markup_refs_named)] }
def StickySaid : Prop := stickyRow.holds Tryz.pinned (OpenSpec.ofChange stickySpec)

/-- ITS FALSE NEIGHBOUR: 'it returns false'. Refute it at one input. -/
def stickyWrong : ChangeSpec := { name := "sticky", fn := fun _ => fun
  | [d1, d2, d3, d4, d5, d6] => { results := [.lit (.bool false)], args := [d1, d2, d3, d4, d5, d6] }
  | _ => none }
def StickyWrongFalsely : Prop := stickyRow.holds Tryz.pinned (OpenSpec.ofChange stickyWrong)

/-- 'markupkeep.Ways': WHATEVER THE INPUT: true; the input reads as it did. -/
def waysSpec : ChangeSpec := { name := "ways", fn := fun _ => fun
  | [d1, d2, d3, d4, d5] => { results := [.lit (.bool true)], args := [d1, d2, d3, d4, d5] }
  | _ => none }
def waysRow : OpenClaim := { program := "ytmgfijllcdadgabgreatdoor", sum := "118e36bbe64c942d4b3e330123e3e41f2f23cfb239ab1048fa9d9493a359102a", func := "markup/markupkeep.Ways", spec := "ways", named := ["markup/refs.names", "markup/refs.named"], apart := false, laid := [("markup/refs.names", laid_markup_refs_names), ("markup/refs.named", laid_markup_refs_named)] }
def WaysSaid : Prop := waysRow.holds Tryz.pinned (OpenSpec.ofChange waysSpec)

/-- ITS FALSE NEIGHBOUR: 'it returns false'. Refute it at one input. -/
def waysWrong : ChangeSpec := { name := "ways", fn := fun _ => fun
  | [d1, d2, d3, d4, d5] => { results := [.lit (.bool false)], args := [d1, d2, d3, d4, d5] }
  | _ => none }
def WaysWrongFalsely : Prop := waysRow.holds Tryz.pinned (OpenSpec.ofChange waysWrong)

/-- 'markupkeep.Nested': WHATEVER THE INPUT: true; the input reads as it did. -/
def nestedSpec : ChangeSpec := { name := "nested", fn := fun _ => fun
  | [d1, d2, d3, d4] => { results := [.lit (.bool true)], args := [d1, d2, d3, d4] }
  | _ => none }
def nestedRow : OpenClaim := { program := "ytmgfijllcdadgabgreatdoor", sum := "118e36bbe64c942d4b3e330123e3e41f2f23cfb239ab1048fa9d9493a359102a", func := "markup/markupkeep.Nested", spec := "nested", named := ["markup/refs.names", "markup/refs.named"], apart := false, laid := [("markup/refs.names", laid_markup_refs_names), ("markup/refs.named", laid_markup_refs_named)] }
def NestedSaid : Prop := nestedRow.holds Tryz.pinned (OpenSpec.ofChange nestedSpec)

/-- ITS FALSE NEIGHBOUR: 'it returns false'. Refute it at one input. -/
def nestedWrong : ChangeSpec := { name := "nested", fn := fun _ => fun
  | [d1, d2, d3, d4] => { results := [.lit (.bool false)], args := [d1, d2, d3, d4] }
  | _ => none }
def NestedWrongFalsely : Prop := nestedRow.holds Tryz.pinned (OpenSpec.ofChange nestedWrong)

/-- 'markupkeep.Bounds': WHATEVER THE INPUT: true; the input reads as it did. -/
def boundsSpec : ChangeSpec := { name := "bounds", fn := fun _ => fun
  | [d1, d2, d3, d4] => { results := [.lit (.bool true)], args := [d1, d2, d3, d4] }
  | _ => none }
def boundsRow : OpenClaim := { program := "ytmgfijllcdadgabgreatdoor", sum := "118e36bbe64c942d4b3e330123e3e41f2f23cfb239ab1048fa9d9493a359102a", func := "markup/markupkeep.Bounds", spec := "bounds", named := ["markup/refs.names", "markup/refs.named"], apart := false, laid := [("markup/refs.names", laid_markup_refs_names), ("markup/refs.named", laid_markup_refs_named)] }
def BoundsSaid : Prop := boundsRow.holds Tryz.pinned (OpenSpec.ofChange boundsSpec)

/-- ITS FALSE NEIGHBOUR: 'it returns false'. Refute it at one input. -/
def boundsWrong : ChangeSpec := { name := "bounds", fn := fun _ => fun
  | [d1, d2, d3, d4] => { results := [.lit (.bool false)], args := [d1, d2, d3, d4] }
  | _ => none }
def BoundsWrongFalsely : Prop := boundsRow.holds Tryz.pinned (OpenSpec.ofChange boundsWrong)

/-- 'markupkeep.Spaces': WHATEVER THE INPUT: true; the input reads as it did. -/
def spacesSpec : ChangeSpec := { name := "spaces", fn := fun _ => fun
  | [d1, d2, d3, d4] => { results := [.lit (.bool true)], args := [d1, d2, d3, d4] }
  | _ => none }
def spacesRow : OpenClaim := { program := "ytmgfijllcdadgabgreatdoor", sum := "118e36bbe64c942d4b3e330123e3e41f2f23cfb239ab1048fa9d9493a359102a", func := "markup/markupkeep.Spaces", spec := "spaces", named := ["markup/refs.names", "markup/refs.named"], apart := false, laid := [("markup/refs.names", laid_markup_refs_names), ("markup/refs.named", laid_markup_refs_named)] }
def SpacesSaid : Prop := spacesRow.holds Tryz.pinned (OpenSpec.ofChange spacesSpec)

/-- ITS FALSE NEIGHBOUR: 'it returns false'. Refute it at one input. -/
def spacesWrong : ChangeSpec := { name := "spaces", fn := fun _ => fun
  | [d1, d2, d3, d4] => { results := [.lit (.bool false)], args := [d1, d2, d3, d4] }
  | _ => none }
def SpacesWrongFalsely : Prop := spacesRow.holds Tryz.pinned (OpenSpec.ofChange spacesWrong)

/-- 'markupkeep.Built': WHATEVER THE INPUT: true; the input reads as it did. -/
def builtSpec : ChangeSpec := { name := "built", fn := fun _ => fun
  | [d1, d2, d3] => { results := [.lit (.bool true)], args := [d1, d2, d3] }
  | _ => none }
def builtRow : OpenClaim := { program := "ytmgfijllcdadgabgreatdoor", sum := "118e36bbe64c942d4b3e330123e3e41f2f23cfb239ab1048fa9d9493a359102a", func := "markup/markupkeep.Built", spec := "built", named := ["markup/markupkeep.values", "markup/markupkeep.comments", "markup/markupkeep.targets", "markup/markupkeep.datas", "markup/markupkeep.tags", "markup/refs.names", "markup/refs.named"], apart := false, laid := [("markup/refs.names", laid_markup_refs_names), ("markup/refs.named", laid_markup_refs_named), ("markup/markupkeep.tags", laid_markup_markupkeep_tags), ("markup/markupkeep.values", laid_markup_markupkeep_values), ("markup/markupkeep.comments", laid_markup_markupkeep_comments), ("markup/markupkeep.targets", laid_markup_markupkeep_targets), ("markup/markupkeep.datas", laid_markup_markupkeep_datas)] }
def BuiltSaid : Prop := builtRow.holds Tryz.pinned (OpenSpec.ofChange builtSpec)

/-- ITS FALSE NEIGHBOUR: 'it returns false'. Refute it at one input. -/
def builtWrong : ChangeSpec := { name := "built", fn := fun _ => fun
  | [d1, d2, d3] => { results := [.lit (.bool false)], args := [d1, d2, d3] }
  | _ => none }
def BuiltWrongFalsely : Prop := builtRow.holds Tryz.pinned (OpenSpec.ofChange builtWrong)

/-- 'markupkeep.Canon': WHATEVER THE INPUT: true; the input reads as it did. -/
def canonSpec : ChangeSpec := { name := "canon", fn := fun _ => fun
  | [d1, d2, d3, d4, d5, d6] => { results := [.lit (.bool true)], args := [d1, d2, d3, d4, d5, d6] }
  | _ => none }
def canonRow : OpenClaim := { program := "ytmgfijllcdadgabgreatdoor", sum := "118e36bbe64c942d4b3e330123e3e41f2f23cfb239ab1048fa9d9493a359102a", func := "markup/markupkeep.Canon", spec := "canon", named := ["markup/refs.names", "markup/refs.named"], apart := false, laid := [("markup/refs.names", laid_markup_refs_names), ("markup/refs.named", laid_markup_refs_named)] }
def CanonSaid : Prop := canonRow.holds Tryz.pinned (OpenSpec.ofChange canonSpec)

/-- ITS FALSE NEIGHBOUR: 'it returns false'. Refute it at one input. -/
def canonWrong : ChangeSpec := { name := "canon", fn := fun _ => fun
  | [d1, d2, d3, d4, d5, d6] => { results := [.lit (.bool false)], args := [d1, d2, d3, d4, d5, d6] }
  | _ => none }
def CanonWrongFalsely : Prop := canonRow.holds Tryz.pinned (OpenSpec.ofChange canonWrong)

/- THE SECOND FORM. 'bulk': how many values and letters a reading holds, each counted each time it is reached (what is shared counts as often as it is met; a slice's spare places count too). A statement '..UptoSaid' is the law's where the arguments, and the package variables that the reading takes, are together of bulk at most 1048576: NARROWER than '..Said'. Prove '..Said' where nothing that the law and all that it calls make is longer than what came in: it says more and counts as full. Else prove '..UptoSaid'. A law counts once. -/
mutual
def uptoBulk {H : Type} : DataW H → Nat
  | .lit (.string bytes) => bytes.length + 1
  | .lit _ => 1
  | .nil => 1
  | .ptr d => uptoBulk d + 1
  | .slice elems spare => uptoBulkAll elems + uptoBulkAll spare + 1
  | .agg parts => uptoBulkAll parts + 1
  | .iface _ d => uptoBulk d + 1
  | .map entries => uptoBulkEntries entries + 1
  | .held _ => 1
def uptoBulkAll {H : Type} : List (DataW H) → Nat
  | [] => 0
  | d :: r => uptoBulk d + uptoBulkAll r
def uptoBulkEntries {H : Type} : List (Lit × DataW H) → Nat
  | [] => 0
  | x :: r => uptoBulkEntry x + uptoBulkEntries r
def uptoBulkEntry {H : Type} : Lit × DataW H → Nat
  | (.string bytes, d) => bytes.length + uptoBulk d + 1
  | (_, d) => uptoBulk d + 1
 end
def uptoSmall : (H : Type) → List (DataW H) → Bool := fun _ ds => decide (uptoBulkAll ds ≤ 1048576)
def OpenSpec.upto (s : _root_.Go.ChangeSpec) : _root_.Go.OpenSpec := { _root_.Go.OpenSpec.ofChange s with cond := some uptoSmall }

/-- 'markupkeep.Sticky', WHERE WHAT IT READS IS OF BULK AT MOST 1048576: true; the input reads as it did. -/
def stickyUptoRow : OpenClaim := { program := "ytmgfijllcdadgabgreatdoor", sum := "118e36bbe64c942d4b3e330123e3e41f2f23cfb239ab1048fa9d9493a359102a", func := "markup/markupkeep.Sticky", spec := "sticky", named := ["markup/refs.names", "markup/refs.named"], apart := false, laid := [("markup/refs.names", laid_markup_refs_names), ("markup/refs.named", laid_markup_refs_named)], narrowed := true }
def StickyUptoSaid : Prop := stickyUptoRow.holds Tryz.pinned (OpenSpec.upto stickySpec)

/-- 'markupkeep.Ways', WHERE WHAT IT READS IS OF BULK AT MOST 1048576: true; the input reads as it did. -/
def waysUptoRow : OpenClaim := { program := "ytmgfijllcdadgabgreatdoor", sum := "118e36bbe64c942d4b3e330123e3e41f2f23cfb239ab1048fa9d9493a359102a", func := "markup/markupkeep.Ways", spec := "ways", named := ["markup/refs.names", "markup/refs.named"], apart := false, laid := [("markup/refs.names", laid_markup_refs_names), ("markup/refs.named", laid_markup_refs_named)], narrowed := true }
def WaysUptoSaid : Prop := waysUptoRow.holds Tryz.pinned (OpenSpec.upto waysSpec)

/-- 'markupkeep.Nested', WHERE WHAT IT READS IS OF BULK AT MOST 1048576: true; the input reads as it did. -/
def nestedUptoRow : OpenClaim := { program := "ytmgfijllcdadgabgreatdoor", sum := "118e36bbe64c942d4b3e330123e3e41f2f23cfb239ab1048fa9d9493a359102a", func := "markup/markupkeep.Nested", spec := "nested", named := ["markup/refs.names", "markup/refs.named"], apart := false, laid := [("markup/refs.names", laid_markup_refs_names), ("markup/refs.named", laid_markup_refs_named)], narrowed := true }
def NestedUptoSaid : Prop := nestedUptoRow.holds Tryz.pinned (OpenSpec.upto nestedSpec)

/-- 'markupkeep.Bounds', WHERE WHAT IT READS IS OF BULK AT MOST 1048576: true; the input reads as it did. -/
def boundsUptoRow : OpenClaim := { program := "ytmgfijllcdadgabgreatdoor", sum := "118e36bbe64c942d4b3e330123e3e41f2f23cfb239ab1048fa9d9493a359102a", func := "markup/markupkeep.Bounds", spec := "bounds", named := ["markup/refs.names", "markup/refs.named"], apart := false, laid := [("markup/refs.names", laid_markup_refs_names), ("markup/refs.named", laid_markup_refs_named)], narrowed := true }
def BoundsUptoSaid : Prop := boundsUptoRow.holds Tryz.pinned (OpenSpec.upto boundsSpec)

/-- 'markupkeep.Spaces', WHERE WHAT IT READS IS OF BULK AT MOST 1048576: true; the input reads as it did. -/
def spacesUptoRow : OpenClaim := { program := "ytmgfijllcdadgabgreatdoor", sum := "118e36bbe64c942d4b3e330123e3e41f2f23cfb239ab1048fa9d9493a359102a", func := "markup/markupkeep.Spaces", spec := "spaces", named := ["markup/refs.names", "markup/refs.named"], apart := false, laid := [("markup/refs.names", laid_markup_refs_names), ("markup/refs.named", laid_markup_refs_named)], narrowed := true }
def SpacesUptoSaid : Prop := spacesUptoRow.holds Tryz.pinned (OpenSpec.upto spacesSpec)

/-- 'markupkeep.Built', WHERE WHAT IT READS IS OF BULK AT MOST 1048576: true; the input reads as it did. -/
def builtUptoRow : OpenClaim := { program := "ytmgfijllcdadgabgreatdoor", sum := "118e36bbe64c942d4b3e330123e3e41f2f23cfb239ab1048fa9d9493a359102a", func := "markup/markupkeep.Built", spec := "built", named := ["markup/markupkeep.values", "markup/markupkeep.comments", "markup/markupkeep.targets", "markup/markupkeep.datas", "markup/markupkeep.tags", "markup/refs.names", "markup/refs.named"], apart := false, laid := [("markup/refs.names", laid_markup_refs_names), ("markup/refs.named", laid_markup_refs_named), ("markup/markupkeep.tags", laid_markup_markupkeep_tags), ("markup/markupkeep.values", laid_markup_markupkeep_values), ("markup/markupkeep.comments", laid_markup_markupkeep_comments), ("markup/markupkeep.targets", laid_markup_markupkeep_targets), ("markup/markupkeep.datas", laid_markup_markupkeep_datas)], narrowed := true }
def BuiltUptoSaid : Prop := builtUptoRow.holds Tryz.pinned (OpenSpec.upto builtSpec)

/-- 'markupkeep.Canon', WHERE WHAT IT READS IS OF BULK AT MOST 1048576: true; the input reads as it did. -/
def canonUptoRow : OpenClaim := { program := "ytmgfijllcdadgabgreatdoor", sum := "118e36bbe64c942d4b3e330123e3e41f2f23cfb239ab1048fa9d9493a359102a", func := "markup/markupkeep.Canon", spec := "canon", named := ["markup/refs.names", "markup/refs.named"], apart := false, laid := [("markup/refs.names", laid_markup_refs_names), ("markup/refs.named", laid_markup_refs_named)], narrowed := true }
def CanonUptoSaid : Prop := canonUptoRow.holds Tryz.pinned (OpenSpec.upto canonSpec)

end Rows
end Go.Proofs.YtmgfijllcdadgabGreatDoor
