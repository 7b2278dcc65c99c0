/-
  DERIVED. GIVEN WITH THE SEED: THE CARDS: each row of YtahcpeedikpboaaDoorRows.lean that lists a variable, with what it lists TIED to the program's text (the seventh form; the later family's looks); each row that meets fmt, with fmt's text TOLD by the authors' own Lean function (tested against real Go, not proved from fmt's source: count such statements apart). THE CARD IS WHAT COUNTS. Prove the row's statement (the work); the ties are given (YtahcpeedikpboaaDoorTie.lean); close each card by the builder's one call (the guide's Derived/Test/ToyasCard.lean, 'card_holds'). Laid BY PROGRAM, IN A SANDBOX (cutbox-door.mjs). By AI agents, Wed Nov 11 2026. No macro, syntax, notation, axiom, sorry.
-/
import Derived.Test.YtahcpeedikpboaaDoorRows
import GoSem.ClaimSeven
namespace Go.Proofs.YtahcpeedikpboaaDoor
namespace Rows

/-- THE TIED CARD OF 'markupkeep.Split'. -/
def splitCard : Claim7 := { stood := { row := splitRow, standIns := [], harness := (true, "52effe4658947fb20a7e8b9b9aad63eeea5cdbabad6e28267890d204e56f83a9"), looks := false }, kinds := [], alts := [], laidByText := true, laidKinds := [.data, .data], laidTests := true, laidLooks := .later }
def SplitCardSaid : Prop := Claim7.holds Tryd.pinned (.plain (OpenSpec.ofChange splitSpec)) splitCard

/-- THE TIED CARD OF 'markupkeep.SplitNames'. -/
def splitNamesCard : Claim7 := { stood := { row := splitNamesRow, standIns := [], harness := (true, "52effe4658947fb20a7e8b9b9aad63eeea5cdbabad6e28267890d204e56f83a9"), looks := false }, kinds := [], alts := [], laidByText := true, laidKinds := [.data, .data], laidTests := true, laidLooks := .later }
def SplitNamesCardSaid : Prop := Claim7.holds Tryd.pinned (.plain (OpenSpec.ofChange splitNamesSpec)) splitNamesCard

/-- THE TIED CARD OF 'markupkeep.Earliest'. -/
def earliestCard : Claim7 := { stood := { row := earliestRow, standIns := [], harness := (true, "52effe4658947fb20a7e8b9b9aad63eeea5cdbabad6e28267890d204e56f83a9"), looks := false }, kinds := [], alts := [], laidByText := true, laidKinds := [.data, .data], laidTests := true, laidLooks := .later }
def EarliestCardSaid : Prop := Claim7.holds Tryd.pinned (.plain (OpenSpec.ofChange earliestSpec)) earliestCard

/-- THE SECOND FORM's CARD OF 'markupkeep.Split'. -/
def splitUptoCard : Claim7 := { stood := { row := splitUptoRow, standIns := [], harness := (true, "52effe4658947fb20a7e8b9b9aad63eeea5cdbabad6e28267890d204e56f83a9"), looks := false }, kinds := [], alts := [], laidByText := true, laidKinds := [.data, .data], laidTests := true, laidLooks := .later }
def SplitUptoCardSaid : Prop := Claim7.holds Tryd.pinned (.plain (OpenSpec.upto splitSpec)) splitUptoCard

/-- THE SECOND FORM's CARD OF 'markupkeep.SplitNames'. -/
def splitNamesUptoCard : Claim7 := { stood := { row := splitNamesUptoRow, standIns := [], harness := (true, "52effe4658947fb20a7e8b9b9aad63eeea5cdbabad6e28267890d204e56f83a9"), looks := false }, kinds := [], alts := [], laidByText := true, laidKinds := [.data, .data], laidTests := true, laidLooks := .later }
def SplitNamesUptoCardSaid : Prop := Claim7.holds Tryd.pinned (.plain (OpenSpec.upto splitNamesSpec)) splitNamesUptoCard

/-- THE SECOND FORM's CARD OF 'markupkeep.Earliest'. -/
def earliestUptoCard : Claim7 := { stood := { row := earliestUptoRow, standIns := [], harness := (true, "52effe4658947fb20a7e8b9b9aad63eeea5cdbabad6e28267890d204e56f83a9"), looks := false }, kinds := [], alts := [], laidByText := true, laidKinds := [.data, .data], laidTests := true, laidLooks := .later }
def EarliestUptoCardSaid : Prop := Claim7.holds Tryd.pinned (.plain (OpenSpec.upto earliestSpec)) earliestUptoCard
end Rows
end Go.Proofs.YtahcpeedikpboaaDoor
