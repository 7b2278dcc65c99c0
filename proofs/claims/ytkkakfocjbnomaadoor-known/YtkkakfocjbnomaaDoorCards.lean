/-
  DERIVED. GIVEN WITH THE SEED: THE CARDS: each row of YtkkakfocjbnomaaDoorRows.lean that lists a variable, with what it lists TIED to the program's text (the seventh form; the later family's looks); each row that meets fmt, with fmt's text TOLD by the authors' own Lean function (tested against real Go, not proved from fmt's source: count such statements apart). THE CARD IS WHAT COUNTS. Prove the row's statement (the work); the ties are given (YtkkakfocjbnomaaDoorTie.lean); close each card by the builder's one call (the guide's Derived/Test/ToyasCard.lean, 'card_holds'). Laid BY PROGRAM, IN A SANDBOX (cutbox-door.mjs). By AI agents, Wed Nov 11 2026. No macro, syntax, notation, axiom, sorry.
-/
import Derived.Test.YtkkakfocjbnomaaDoorRows
import GoSem.ClaimSeven
namespace Go.Proofs.YtkkakfocjbnomaaDoor
namespace Rows

/-- THE TIED CARD OF 'markupkeep.Known'. -/
def knownCard : Claim7 := { stood := { row := knownRow, standIns := [], harness := (true, "1ea8167ba3e770094f41a6bb76dcdb46ee728b1971d97e50eec67e506509d330"), looks := false }, kinds := [], alts := [], laidByText := true, laidKinds := [.data, .data], laidTests := true, laidLooks := .later }
def KnownCardSaid : Prop := Claim7.holds Tryd.pinned (.plain (OpenSpec.ofChange knownSpec)) knownCard

/-- THE TIED CARD OF 'markupkeep.Split'. -/
def splitCard : Claim7 := { stood := { row := splitRow, standIns := [], harness := (true, "1ea8167ba3e770094f41a6bb76dcdb46ee728b1971d97e50eec67e506509d330"), looks := false }, kinds := [], alts := [], laidByText := true, laidKinds := [.data, .data], laidTests := true, laidLooks := .later }
def SplitCardSaid : Prop := Claim7.holds Tryd.pinned (.plain (OpenSpec.ofChange splitSpec)) splitCard

/-- THE TIED CARD OF 'markupkeep.SplitNames'. -/
def splitNamesCard : Claim7 := { stood := { row := splitNamesRow, standIns := [], harness := (true, "1ea8167ba3e770094f41a6bb76dcdb46ee728b1971d97e50eec67e506509d330"), looks := false }, kinds := [], alts := [], laidByText := true, laidKinds := [.data, .data], laidTests := true, laidLooks := .later }
def SplitNamesCardSaid : Prop := Claim7.holds Tryd.pinned (.plain (OpenSpec.ofChange splitNamesSpec)) splitNamesCard

/-- THE TIED CARD OF 'markupkeep.Earliest'. -/
def earliestCard : Claim7 := { stood := { row := earliestRow, standIns := [], harness := (true, "1ea8167ba3e770094f41a6bb76dcdb46ee728b1971d97e50eec67e506509d330"), looks := false }, kinds := [], alts := [], laidByText := true, laidKinds := [.data, .data], laidTests := true, laidLooks := .later }
def EarliestCardSaid : Prop := Claim7.holds Tryd.pinned (.plain (OpenSpec.ofChange earliestSpec)) earliestCard

/-- THE SECOND FORM's CARD OF 'markupkeep.Known'. -/
def knownUptoCard : Claim7 := { stood := { row := knownUptoRow, standIns := [], harness := (true, "1ea8167ba3e770094f41a6bb76dcdb46ee728b1971d97e50eec67e506509d330"), looks := false }, kinds := [], alts := [], laidByText := true, laidKinds := [.data, .data], laidTests := true, laidLooks := .later }
def KnownUptoCardSaid : Prop := Claim7.holds Tryd.pinned (.plain (OpenSpec.upto knownSpec)) knownUptoCard

/-- THE SECOND FORM's CARD OF 'markupkeep.Split'. -/
def splitUptoCard : Claim7 := { stood := { row := splitUptoRow, standIns := [], harness := (true, "1ea8167ba3e770094f41a6bb76dcdb46ee728b1971d97e50eec67e506509d330"), looks := false }, kinds := [], alts := [], laidByText := true, laidKinds := [.data, .data], laidTests := true, laidLooks := .later }
def SplitUptoCardSaid : Prop := Claim7.holds Tryd.pinned (.plain (OpenSpec.upto splitSpec)) splitUptoCard

/-- THE SECOND FORM's CARD OF 'markupkeep.SplitNames'. -/
def splitNamesUptoCard : Claim7 := { stood := { row := splitNamesUptoRow, standIns := [], harness := (true, "1ea8167ba3e770094f41a6bb76dcdb46ee728b1971d97e50eec67e506509d330"), looks := false }, kinds := [], alts := [], laidByText := true, laidKinds := [.data, .data], laidTests := true, laidLooks := .later }
def SplitNamesUptoCardSaid : Prop := Claim7.holds Tryd.pinned (.plain (OpenSpec.upto splitNamesSpec)) splitNamesUptoCard

/-- THE SECOND FORM's CARD OF 'markupkeep.Earliest'. -/
def earliestUptoCard : Claim7 := { stood := { row := earliestUptoRow, standIns := [], harness := (true, "1ea8167ba3e770094f41a6bb76dcdb46ee728b1971d97e50eec67e506509d330"), looks := false }, kinds := [], alts := [], laidByText := true, laidKinds := [.data, .data], laidTests := true, laidLooks := .later }
def EarliestUptoCardSaid : Prop := Claim7.holds Tryd.pinned (.plain (OpenSpec.upto earliestSpec)) earliestUptoCard
end Rows
end Go.Proofs.YtkkakfocjbnomaaDoor
