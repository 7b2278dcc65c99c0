/-
  DERIVED. GIVEN WITH THE SEED: THE CARDS: each row of YtahcpeedikpboabDoorRows.lean that lists a variable, with what it lists TIED to the program's text (the seventh form; the later family's looks); each row that meets fmt, with fmt's text TOLD by the authors' own Lean function (tested against real Go, not proved from fmt's source: count such statements apart). THE CARD IS WHAT COUNTS. Prove the row's statement (the work); the ties are given (YtahcpeedikpboabDoorTie.lean); close each card by the builder's one call (the guide's Derived/Test/ToyasCard.lean, 'card_holds'). Laid BY PROGRAM, IN A SANDBOX (cutbox-door.mjs). By AI agents, Wed Nov 11 2026. No macro, syntax, notation, axiom, sorry.
-/
import Derived.Test.YtahcpeedikpboabDoorRows
import GoSem.ClaimSeven
namespace Go.Proofs.YtahcpeedikpboabDoor
namespace Rows

/-- THE TIED CARD OF 'markupkeep.Sticky'. -/
def stickyCard : Claim7 := { stood := { row := stickyRow, standIns := [], harness := (true, "7ee5e9aa19d270a52c88d9bbd907cbc1d08984fee31f9784731f3038e40e0b5f"), looks := false }, kinds := [], alts := [], laidByText := true, laidKinds := [.data, .data], laidTests := true, laidLooks := .later }
def StickyCardSaid : Prop := Claim7.holds Tryd.pinned (.plain (OpenSpec.ofChange stickySpec)) stickyCard

/-- THE SECOND FORM's CARD OF 'markupkeep.Sticky'. -/
def stickyUptoCard : Claim7 := { stood := { row := stickyUptoRow, standIns := [], harness := (true, "7ee5e9aa19d270a52c88d9bbd907cbc1d08984fee31f9784731f3038e40e0b5f"), looks := false }, kinds := [], alts := [], laidByText := true, laidKinds := [.data, .data], laidTests := true, laidLooks := .later }
def StickyUptoCardSaid : Prop := Claim7.holds Tryd.pinned (.plain (OpenSpec.upto stickySpec)) stickyUptoCard
end Rows
end Go.Proofs.YtahcpeedikpboabDoor
