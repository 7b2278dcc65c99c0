/-
  NARROWER THAN 'FOR EVERY INPUT', by the rows' own cells (each row's printed sentence says how): Known: laid · Split: laid · SplitNames: laid · Earliest: laid.
  DERIVED. THE GIVEN ROWS OF THIS SEAT. 4 by the template 'for every input the law returns true; each argument reads behind the call as it read before'; 0 by the template 'total and deterministic' (their statements: YtkkakfocjbnomaaDoorTotals.lean).
  GIVEN WITH THE SEED: the statements are not yours to turn. If you find one false, say at which input.
  Laid BY PROGRAM, IN A SANDBOX (cutbox-rows.mjs): the forced cells as the released guide's own fill.sh prints them over the translation 6c93eca716bd71ca… (all of the seat's roots in one cut). By AI agents, Wed Nov 11 2026. No macro, syntax, notation, axiom, sorry.
-/
import Derived.Test.YtkkakfocjbnomaaDoorChecked
import GoSem.Claim
import GoSem.ClaimJoined
import GoSem.ClaimMapViews
import Derived.JoinedTies
import Derived.KernelRfl
namespace Go.Proofs.YtkkakfocjbnomaaDoor
/- THE CELL 'sum', in the pinned program and in every row, IS THE sha256 OF THE DUMP (.gsa) THAT YtkkakfocjbnomaaDoorProg.lean LOADS. Nothing in Lean hashes anything: it is a label: what it is worth is what the hold of that sum in a sandbox is worth. -/
noncomputable def Tryd.pinned : Pinned := { name := "ytkkakfocjbnomaadoor", sum := "6c93eca716bd71ca61fde06806dcb9ed6385debca19d645e0bbbc3cdc5e6bf5d", checked := Tryd.checked }
namespace Rows
def none {H : Type} : Left H := { results := [], args := [] }

/- WHAT THE LISTED PACKAGE-LEVEL VARIABLES READ AS WHEN THE CALL BEGINS. Each datum BY PROGRAM (the guide's laid-datum.mjs) off the statement by which the dump's own 'gosem.cut.vars' lays the variable. In a bare row this is a premise. The card (YtkkakfocjbnomaaDoorCards.lean) ties it to the program's text. -/
def laid_markup_refs_names {H : Type} : DataW H := .agg [.lit (.string [108, 116, 59]), .lit (.string [103, 116, 59]), .lit (.string [97, 109, 112, 59]), .lit (.string [113, 117, 111, 116, 59]), .lit (.string [97, 112, 111, 115, 59])]
def laid_markup_refs_named {H : Type} : DataW H := .agg [.lit (.int .i64 60), .lit (.int .i64 62), .lit (.int .i64 38), .lit (.int .i64 34), .lit (.int .i64 39)]

/-- 'markupkeep.Known': WHATEVER THE INPUT: true; the input reads as it did. -/
def knownSpec : ChangeSpec := { name := "known", fn := fun _ => fun
  | [d1, d2] => { results := [.lit (.bool true)], args := [d1, d2] }
  | _ => none }
def knownRow : OpenClaim := { program := "ytkkakfocjbnomaadoor", sum := "6c93eca716bd71ca61fde06806dcb9ed6385debca19d645e0bbbc3cdc5e6bf5d", func := "markup/markupkeep.Known", spec := "known", named := ["markup/refs.names", "markup/refs.named"], apart := false, laid := [("markup/refs.names", laid_markup_refs_names), ("markup/refs.named", laid_markup_refs_named)] }
def KnownSaid : Prop := knownRow.holds Tryd.pinned (OpenSpec.ofChange knownSpec)

/-- ITS FALSE NEIGHBOUR: 'it returns false'. Refute it at one input. -/
def knownWrong : ChangeSpec := { name := "known", fn := fun _ => fun
  | [d1, d2] => { results := [.lit (.bool false)], args := [d1, d2] }
  | _ => none }
def KnownWrongFalsely : Prop := knownRow.holds Tryd.pinned (OpenSpec.ofChange knownWrong)

/-- 'markupkeep.Split': WHATEVER THE INPUT: true; the input reads as it did. -/
def splitSpec : ChangeSpec := { name := "split", fn := fun _ => fun
  | [d1, d2, d3, d4, d5] => { results := [.lit (.bool true)], args := [d1, d2, d3, d4, d5] }
  | _ => none }
def splitRow : OpenClaim := { program := "ytkkakfocjbnomaadoor", sum := "6c93eca716bd71ca61fde06806dcb9ed6385debca19d645e0bbbc3cdc5e6bf5d", func := "markup/markupkeep.Split", spec := "split", named := ["markup/refs.names", "markup/refs.named"], apart := false, laid := [("markup/refs.names", laid_markup_refs_names), ("markup/refs.named", laid_markup_refs_named)] }
def SplitSaid : Prop := splitRow.holds Tryd.pinned (OpenSpec.ofChange splitSpec)

/-- ITS FALSE NEIGHBOUR: 'it returns false'. Refute it at one input. -/
def splitWrong : ChangeSpec := { name := "split", fn := fun _ => fun
  | [d1, d2, d3, d4, d5] => { results := [.lit (.bool false)], args := [d1, d2, d3, d4, d5] }
  | _ => none }
def SplitWrongFalsely : Prop := splitRow.holds Tryd.pinned (OpenSpec.ofChange splitWrong)

/-- 'markupkeep.SplitNames': WHATEVER THE INPUT: true; the input reads as it did. -/
def splitNamesSpec : ChangeSpec := { name := "splitNames", fn := fun _ => fun
  | [d1, d2, d3, d4, d5] => { results := [.lit (.bool true)], args := [d1, d2, d3, d4, d5] }
  | _ => none }
def splitNamesRow : OpenClaim := { program := "ytkkakfocjbnomaadoor", sum := "6c93eca716bd71ca61fde06806dcb9ed6385debca19d645e0bbbc3cdc5e6bf5d", func := "markup/markupkeep.SplitNames", spec := "splitNames", named := ["markup/refs.names", "markup/refs.named"], apart := false, laid := [("markup/refs.names", laid_markup_refs_names), ("markup/refs.named", laid_markup_refs_named)] }
def SplitNamesSaid : Prop := splitNamesRow.holds Tryd.pinned (OpenSpec.ofChange splitNamesSpec)

/-- ITS FALSE NEIGHBOUR: 'it returns false'. Refute it at one input. -/
def splitNamesWrong : ChangeSpec := { name := "splitNames", fn := fun _ => fun
  | [d1, d2, d3, d4, d5] => { results := [.lit (.bool false)], args := [d1, d2, d3, d4, d5] }
  | _ => none }
def SplitNamesWrongFalsely : Prop := splitNamesRow.holds Tryd.pinned (OpenSpec.ofChange splitNamesWrong)

/-- 'markupkeep.Earliest': WHATEVER THE INPUT: true; the input reads as it did. -/
def earliestSpec : ChangeSpec := { name := "earliest", fn := fun _ => fun
  | [d1, d2, d3, d4, d5, d6] => { results := [.lit (.bool true)], args := [d1, d2, d3, d4, d5, d6] }
  | _ => none }
def earliestRow : OpenClaim := { program := "ytkkakfocjbnomaadoor", sum := "6c93eca716bd71ca61fde06806dcb9ed6385debca19d645e0bbbc3cdc5e6bf5d", func := "markup/markupkeep.Earliest", spec := "earliest", named := ["markup/refs.names", "markup/refs.named"], apart := false, laid := [("markup/refs.names", laid_markup_refs_names), ("markup/refs.named", laid_markup_refs_named)] }
def EarliestSaid : Prop := earliestRow.holds Tryd.pinned (OpenSpec.ofChange earliestSpec)

/-- ITS FALSE NEIGHBOUR: 'it returns false'. Refute it at one input. -/
def earliestWrong : ChangeSpec := { name := "earliest", fn := fun _ => fun
  | [d1, d2, d3, d4, d5, d6] => { results := [.lit (.bool false)], args := [d1, d2, d3, d4, d5, d6] }
  | _ => none }
def EarliestWrongFalsely : Prop := earliestRow.holds Tryd.pinned (OpenSpec.ofChange earliestWrong)

/- THE SECOND FORM. 'bulk': how many values and letters a reading holds, each counted each time it is reached (what is shared counts as often as it is met; a slice's spare places count too). A statement '..UptoSaid' is the law's where the arguments, and the package variables that the reading takes, are together of bulk at most 1048576: NARROWER than '..Said'. Prove '..Said' where nothing that the law and all that it calls make is longer than what came in: it says more and counts as full. Else prove '..UptoSaid'. A law counts once. -/
mutual
def uptoBulk {H : Type} : DataW H → Nat
  | .lit (.string bytes) => bytes.length + 1
  | .lit _ => 1
  | .nil => 1
  | .ptr d => uptoBulk d + 1
  | .slice elems spare => uptoBulkAll elems + uptoBulkAll spare + 1
  | .agg parts => uptoBulkAll parts + 1
  | .iface _ d => uptoBulk d + 1
  | .map entries => uptoBulkEntries entries + 1
  | .held _ => 1
def uptoBulkAll {H : Type} : List (DataW H) → Nat
  | [] => 0
  | d :: r => uptoBulk d + uptoBulkAll r
def uptoBulkEntries {H : Type} : List (Lit × DataW H) → Nat
  | [] => 0
  | x :: r => uptoBulkEntry x + uptoBulkEntries r
def uptoBulkEntry {H : Type} : Lit × DataW H → Nat
  | (.string bytes, d) => bytes.length + uptoBulk d + 1
  | (_, d) => uptoBulk d + 1
 end
def uptoSmall : (H : Type) → List (DataW H) → Bool := fun _ ds => decide (uptoBulkAll ds ≤ 1048576)
def OpenSpec.upto (s : _root_.Go.ChangeSpec) : _root_.Go.OpenSpec := { _root_.Go.OpenSpec.ofChange s with cond := some uptoSmall }

/-- 'markupkeep.Known', WHERE WHAT IT READS IS OF BULK AT MOST 1048576: true; the input reads as it did. -/
def knownUptoRow : OpenClaim := { program := "ytkkakfocjbnomaadoor", sum := "6c93eca716bd71ca61fde06806dcb9ed6385debca19d645e0bbbc3cdc5e6bf5d", func := "markup/markupkeep.Known", spec := "known", named := ["markup/refs.names", "markup/refs.named"], apart := false, laid := [("markup/refs.names", laid_markup_refs_names), ("markup/refs.named", laid_markup_refs_named)], narrowed := true }
def KnownUptoSaid : Prop := knownUptoRow.holds Tryd.pinned (OpenSpec.upto knownSpec)

/-- 'markupkeep.Split', WHERE WHAT IT READS IS OF BULK AT MOST 1048576: true; the input reads as it did. -/
def splitUptoRow : OpenClaim := { program := "ytkkakfocjbnomaadoor", sum := "6c93eca716bd71ca61fde06806dcb9ed6385debca19d645e0bbbc3cdc5e6bf5d", func := "markup/markupkeep.Split", spec := "split", named := ["markup/refs.names", "markup/refs.named"], apart := false, laid := [("markup/refs.names", laid_markup_refs_names), ("markup/refs.named", laid_markup_refs_named)], narrowed := true }
def SplitUptoSaid : Prop := splitUptoRow.holds Tryd.pinned (OpenSpec.upto splitSpec)

/-- 'markupkeep.SplitNames', WHERE WHAT IT READS IS OF BULK AT MOST 1048576: true; the input reads as it did. -/
def splitNamesUptoRow : OpenClaim := { program := "ytkkakfocjbnomaadoor", sum := "6c93eca716bd71ca61fde06806dcb9ed6385debca19d645e0bbbc3cdc5e6bf5d", func := "markup/markupkeep.SplitNames", spec := "splitNames", named := ["markup/refs.names", "markup/refs.named"], apart := false, laid := [("markup/refs.names", laid_markup_refs_names), ("markup/refs.named", laid_markup_refs_named)], narrowed := true }
def SplitNamesUptoSaid : Prop := splitNamesUptoRow.holds Tryd.pinned (OpenSpec.upto splitNamesSpec)

/-- 'markupkeep.Earliest', WHERE WHAT IT READS IS OF BULK AT MOST 1048576: true; the input reads as it did. -/
def earliestUptoRow : OpenClaim := { program := "ytkkakfocjbnomaadoor", sum := "6c93eca716bd71ca61fde06806dcb9ed6385debca19d645e0bbbc3cdc5e6bf5d", func := "markup/markupkeep.Earliest", spec := "earliest", named := ["markup/refs.names", "markup/refs.named"], apart := false, laid := [("markup/refs.names", laid_markup_refs_names), ("markup/refs.named", laid_markup_refs_named)], narrowed := true }
def EarliestUptoSaid : Prop := earliestUptoRow.holds Tryd.pinned (OpenSpec.upto earliestSpec)

end Rows
end Go.Proofs.YtkkakfocjbnomaaDoor
