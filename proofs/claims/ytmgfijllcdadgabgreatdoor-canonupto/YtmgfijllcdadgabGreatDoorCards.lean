/-
  DERIVED. GIVEN WITH THE SEED: THE CARDS: each row of YtmgfijllcdadgabGreatDoorRows.lean that lists a variable, with what it lists TIED to the program's text (the seventh form; the later family's looks); each row that meets fmt, with fmt's text TOLD by the authors' own Lean function (tested against real Go, not proved from fmt's source: count such statements apart). THE CARD IS WHAT COUNTS. Prove the row's statement (the work); the ties are given (YtmgfijllcdadgabGreatDoorTie.lean); close each card by the builder's one call (the guide's Derived/Test/ToyasCard.lean, 'card_holds'). Laid BY PROGRAM, IN A SANDBOX (cutbox-door.mjs). By AI agents, Wed Nov 11 2026. No macro, syntax, notation, axiom, sorry.
-/
import Derived.Test.YtmgfijllcdadgabGreatDoorRows
import GoSem.ClaimSeven
namespace Go.Proofs.YtmgfijllcdadgabGreatDoor
namespace Rows

/-- THE TIED CARD OF 'markupkeep.Sticky'. -/
def stickyCard : Claim7 := { stood := { row := stickyRow, standIns := [], harness := (true, "404ea5e5f1e97d8c4af5bfd10f206a5fdc08ad7485f266e27eddac62778863db"), looks := false }, kinds := [], alts := [], laidByText := true, laidKinds := [.data, .data], laidTests := true, laidLooks := .later }
def StickyCardSaid : Prop := Claim7.holds Tryz.pinned (.plain (OpenSpec.ofChange stickySpec)) stickyCard

/-- THE TIED CARD OF 'markupkeep.Ways'. -/
def waysCard : Claim7 := { stood := { row := waysRow, standIns := [], harness := (true, "404ea5e5f1e97d8c4af5bfd10f206a5fdc08ad7485f266e27eddac62778863db"), looks := false }, kinds := [], alts := [], laidByText := true, laidKinds := [.data, .data], laidTests := true, laidLooks := .later }
def WaysCardSaid : Prop := Claim7.holds Tryz.pinned (.plain (OpenSpec.ofChange waysSpec)) waysCard

/-- THE TIED CARD OF 'markupkeep.Nested'. -/
def nestedCard : Claim7 := { stood := { row := nestedRow, standIns := [], harness := (true, "404ea5e5f1e97d8c4af5bfd10f206a5fdc08ad7485f266e27eddac62778863db"), looks := false }, kinds := [], alts := [], laidByText := true, laidKinds := [.data, .data], laidTests := true, laidLooks := .later }
def NestedCardSaid : Prop := Claim7.holds Tryz.pinned (.plain (OpenSpec.ofChange nestedSpec)) nestedCard

/-- THE TIED CARD OF 'markupkeep.Bounds'. -/
def boundsCard : Claim7 := { stood := { row := boundsRow, standIns := [], harness := (true, "404ea5e5f1e97d8c4af5bfd10f206a5fdc08ad7485f266e27eddac62778863db"), looks := false }, kinds := [], alts := [], laidByText := true, laidKinds := [.data, .data], laidTests := true, laidLooks := .later }
def BoundsCardSaid : Prop := Claim7.holds Tryz.pinned (.plain (OpenSpec.ofChange boundsSpec)) boundsCard

/-- THE TIED CARD OF 'markupkeep.Spaces'. -/
def spacesCard : Claim7 := { stood := { row := spacesRow, standIns := [], harness := (true, "404ea5e5f1e97d8c4af5bfd10f206a5fdc08ad7485f266e27eddac62778863db"), looks := false }, kinds := [], alts := [], laidByText := true, laidKinds := [.data, .data], laidTests := true, laidLooks := .later }
def SpacesCardSaid : Prop := Claim7.holds Tryz.pinned (.plain (OpenSpec.ofChange spacesSpec)) spacesCard

/-- THE TIED CARD OF 'markupkeep.Built'. -/
def builtCard : Claim7 := { stood := { row := builtRow, standIns := [], harness := (true, "404ea5e5f1e97d8c4af5bfd10f206a5fdc08ad7485f266e27eddac62778863db"), looks := false }, kinds := [], alts := [], laidByText := true, laidKinds := [.data, .data, .data, .data, .data, .data, .data], laidTests := true, laidLooks := .later }
def BuiltCardSaid : Prop := Claim7.holds Tryz.pinned (.plain (OpenSpec.ofChange builtSpec)) builtCard

/-- THE TIED CARD OF 'markupkeep.Canon'. -/
def canonCard : Claim7 := { stood := { row := canonRow, standIns := [], harness := (true, "404ea5e5f1e97d8c4af5bfd10f206a5fdc08ad7485f266e27eddac62778863db"), looks := false }, kinds := [], alts := [], laidByText := true, laidKinds := [.data, .data], laidTests := true, laidLooks := .later }
def CanonCardSaid : Prop := Claim7.holds Tryz.pinned (.plain (OpenSpec.ofChange canonSpec)) canonCard

/-- THE SECOND FORM's CARD OF 'markupkeep.Sticky'. -/
def stickyUptoCard : Claim7 := { stood := { row := stickyUptoRow, standIns := [], harness := (true, "404ea5e5f1e97d8c4af5bfd10f206a5fdc08ad7485f266e27eddac62778863db"), looks := false }, kinds := [], alts := [], laidByText := true, laidKinds := [.data, .data], laidTests := true, laidLooks := .later }
def StickyUptoCardSaid : Prop := Claim7.holds Tryz.pinned (.plain (OpenSpec.upto stickySpec)) stickyUptoCard

/-- THE SECOND FORM's CARD OF 'markupkeep.Ways'. -/
def waysUptoCard : Claim7 := { stood := { row := waysUptoRow, standIns := [], harness := (true, "404ea5e5f1e97d8c4af5bfd10f206a5fdc08ad7485f266e27eddac62778863db"), looks := false }, kinds := [], alts := [], laidByText := true, laidKinds := [.data, .data], laidTests := true, laidLooks := .later }
def WaysUptoCardSaid : Prop := Claim7.holds Tryz.pinned (.plain (OpenSpec.upto waysSpec)) waysUptoCard

/-- THE SECOND FORM's CARD OF 'markupkeep.Nested'. -/
def nestedUptoCard : Claim7 := { stood := { row := nestedUptoRow, standIns := [], harness := (true, "404ea5e5f1e97d8c4af5bfd10f206a5fdc08ad7485f266e27eddac62778863db"), looks := false }, kinds := [], alts := [], laidByText := true, laidKinds := [.data, .data], laidTests := true, laidLooks := .later }
def NestedUptoCardSaid : Prop := Claim7.holds Tryz.pinned (.plain (OpenSpec.upto nestedSpec)) nestedUptoCard

/-- THE SECOND FORM's CARD OF 'markupkeep.Bounds'. -/
def boundsUptoCard : Claim7 := { stood := { row := boundsUptoRow, standIns := [], harness := (true, "404ea5e5f1e97d8c4af5bfd10f206a5fdc08ad7485f266e27eddac62778863db"), looks := false }, kinds := [], alts := [], laidByText := true, laidKinds := [.data, .data], laidTests := true, laidLooks := .later }
def BoundsUptoCardSaid : Prop := Claim7.holds Tryz.pinned (.plain (OpenSpec.upto boundsSpec)) boundsUptoCard

/-- THE SECOND FORM's CARD OF 'markupkeep.Spaces'. -/
def spacesUptoCard : Claim7 := { stood := { row := spacesUptoRow, standIns := [], harness := (true, "404ea5e5f1e97d8c4af5bfd10f206a5fdc08ad7485f266e27eddac62778863db"), looks := false }, kinds := [], alts := [], laidByText := true, laidKinds := [.data, .data], laidTests := true, laidLooks := .later }
def SpacesUptoCardSaid : Prop := Claim7.holds Tryz.pinned (.plain (OpenSpec.upto spacesSpec)) spacesUptoCard

/-- THE SECOND FORM's CARD OF 'markupkeep.Built'. -/
def builtUptoCard : Claim7 := { stood := { row := builtUptoRow, standIns := [], harness := (true, "404ea5e5f1e97d8c4af5bfd10f206a5fdc08ad7485f266e27eddac62778863db"), looks := false }, kinds := [], alts := [], laidByText := true, laidKinds := [.data, .data, .data, .data, .data, .data, .data], laidTests := true, laidLooks := .later }
def BuiltUptoCardSaid : Prop := Claim7.holds Tryz.pinned (.plain (OpenSpec.upto builtSpec)) builtUptoCard

/-- THE SECOND FORM's CARD OF 'markupkeep.Canon'. -/
def canonUptoCard : Claim7 := { stood := { row := canonUptoRow, standIns := [], harness := (true, "404ea5e5f1e97d8c4af5bfd10f206a5fdc08ad7485f266e27eddac62778863db"), looks := false }, kinds := [], alts := [], laidByText := true, laidKinds := [.data, .data], laidTests := true, laidLooks := .later }
def CanonUptoCardSaid : Prop := Claim7.holds Tryz.pinned (.plain (OpenSpec.upto canonSpec)) canonUptoCard
end Rows
end Go.Proofs.YtmgfijllcdadgabGreatDoor
