/-
  DERIVED. GIVEN WITH THE SEED: THE CARDS: each row of YtmgfijllcdadgaaGreatDoorRows.lean that lists a variable, with what it lists TIED to the program's text (the seventh form; the later family's looks); each row that meets fmt, with fmt's text TOLD by the authors' own Lean function (tested against real Go, not proved from fmt's source: count such statements apart). THE CARD IS WHAT COUNTS. Prove the row's statement (the work); the ties are given (YtmgfijllcdadgaaGreatDoorTie.lean); close each card by the builder's one call (the guide's Derived/Test/ToyasCard.lean, 'card_holds'). Laid BY PROGRAM, IN A SANDBOX (cutbox-door.mjs). By AI agents, Wed Nov 11 2026. No macro, syntax, notation, axiom, sorry.
-/
import Derived.Test.YtmgfijllcdadgaaGreatDoorRows
import GoSem.ClaimSeven
namespace Go.Proofs.YtmgfijllcdadgaaGreatDoor
namespace Rows

/-- THE TIED CARD OF 'markuplaw.News'. -/
def newsCard : Claim7 := { stood := { row := newsRow, standIns := [], harness := (true, "65d6873a9ba4980fab4e0f7af48d08cbcc8649aa559715b2f32ee66088945340"), looks := false }, kinds := [], alts := [], laidByText := true, laidKinds := [.data, .data, .data], laidTests := true, laidLooks := .later }
def NewsCardSaid : Prop := Claim7.holds Tryz.pinned (.plain (OpenSpec.ofChange newsSpec)) newsCard

/-- THE TIED CARD OF 'markuplaw.Plains'. -/
def plainsCard : Claim7 := { stood := { row := plainsRow, standIns := [], harness := (true, "65d6873a9ba4980fab4e0f7af48d08cbcc8649aa559715b2f32ee66088945340"), looks := false }, kinds := [], alts := [], laidByText := true, laidKinds := [.data, .data, .data], laidTests := true, laidLooks := .later }
def PlainsCardSaid : Prop := Claim7.holds Tryz.pinned (.plain (OpenSpec.ofChange plainsSpec)) plainsCard

/-- THE TIED CARD OF 'markuplaw.Closes'. -/
def closesCard : Claim7 := { stood := { row := closesRow, standIns := [], harness := (true, "65d6873a9ba4980fab4e0f7af48d08cbcc8649aa559715b2f32ee66088945340"), looks := false }, kinds := [], alts := [], laidByText := true, laidKinds := [.data, .data, .data], laidTests := true, laidLooks := .later }
def ClosesCardSaid : Prop := Claim7.holds Tryz.pinned (.plain (OpenSpec.ofChange closesSpec)) closesCard

/-- THE TIED CARD OF 'markuplaw.Places'. -/
def placesCard : Claim7 := { stood := { row := placesRow, standIns := [], harness := (true, "65d6873a9ba4980fab4e0f7af48d08cbcc8649aa559715b2f32ee66088945340"), looks := false }, kinds := [], alts := [], laidByText := true, laidKinds := [.data, .data, .data], laidTests := true, laidLooks := .later }
def PlacesCardSaid : Prop := Claim7.holds Tryz.pinned (.plain (OpenSpec.ofChange placesSpec)) placesCard

/-- THE TIED CARD OF 'markuplaw.Rests'. -/
def restsCard : Claim7 := { stood := { row := restsRow, standIns := [], harness := (true, "65d6873a9ba4980fab4e0f7af48d08cbcc8649aa559715b2f32ee66088945340"), looks := false }, kinds := [], alts := [], laidByText := true, laidKinds := [.data, .data, .data], laidTests := true, laidLooks := .later }
def RestsCardSaid : Prop := Claim7.holds Tryz.pinned (.plain (OpenSpec.ofChange restsSpec)) restsCard

/-- THE TIED CARD OF 'markuplaw.Qualified'. -/
def qualifiedCard : Claim7 := { stood := { row := qualifiedRow, standIns := [], harness := (true, "65d6873a9ba4980fab4e0f7af48d08cbcc8649aa559715b2f32ee66088945340"), looks := false }, kinds := [], alts := [], laidByText := true, laidKinds := [.data, .data, .data], laidTests := true, laidLooks := .later }
def QualifiedCardSaid : Prop := Claim7.holds Tryz.pinned (.plain (OpenSpec.ofChange qualifiedSpec)) qualifiedCard

/-- THE TIED CARD OF 'markuplaw.Writes'. -/
def writesCard : Claim7 := { stood := { row := writesRow, standIns := [], harness := (true, "65d6873a9ba4980fab4e0f7af48d08cbcc8649aa559715b2f32ee66088945340"), looks := false }, kinds := [], alts := [], laidByText := true, laidKinds := [.data, .data, .data], laidTests := true, laidLooks := .later }
def WritesCardSaid : Prop := Claim7.holds Tryz.pinned (.plain (OpenSpec.ofChange writesSpec)) writesCard

/-- THE TIED CARD OF 'markuplaw.All'. -/
def allCard : Claim7 := { stood := { row := allRow, standIns := [], harness := (true, "65d6873a9ba4980fab4e0f7af48d08cbcc8649aa559715b2f32ee66088945340"), looks := false }, kinds := [], alts := [], laidByText := true, laidKinds := [.data, .data, .data], laidTests := true, laidLooks := .later }
def AllCardSaid : Prop := Claim7.holds Tryz.pinned (.plain (OpenSpec.ofChange allSpec)) allCard

/-- THE TIED CARD OF 'markupkeep.Known'. -/
def knownCard : Claim7 := { stood := { row := knownRow, standIns := [], harness := (true, "65d6873a9ba4980fab4e0f7af48d08cbcc8649aa559715b2f32ee66088945340"), looks := false }, kinds := [], alts := [], laidByText := true, laidKinds := [.data, .data], laidTests := true, laidLooks := .later }
def KnownCardSaid : Prop := Claim7.holds Tryz.pinned (.plain (OpenSpec.ofChange knownSpec)) knownCard

/-- THE TIED CARD OF 'markupkeep.Split'. -/
def splitCard : Claim7 := { stood := { row := splitRow, standIns := [], harness := (true, "65d6873a9ba4980fab4e0f7af48d08cbcc8649aa559715b2f32ee66088945340"), looks := false }, kinds := [], alts := [], laidByText := true, laidKinds := [.data, .data], laidTests := true, laidLooks := .later }
def SplitCardSaid : Prop := Claim7.holds Tryz.pinned (.plain (OpenSpec.ofChange splitSpec)) splitCard

/-- THE TIED CARD OF 'markupkeep.SplitNames'. -/
def splitNamesCard : Claim7 := { stood := { row := splitNamesRow, standIns := [], harness := (true, "65d6873a9ba4980fab4e0f7af48d08cbcc8649aa559715b2f32ee66088945340"), looks := false }, kinds := [], alts := [], laidByText := true, laidKinds := [.data, .data], laidTests := true, laidLooks := .later }
def SplitNamesCardSaid : Prop := Claim7.holds Tryz.pinned (.plain (OpenSpec.ofChange splitNamesSpec)) splitNamesCard

/-- THE TIED CARD OF 'markupkeep.Earliest'. -/
def earliestCard : Claim7 := { stood := { row := earliestRow, standIns := [], harness := (true, "65d6873a9ba4980fab4e0f7af48d08cbcc8649aa559715b2f32ee66088945340"), looks := false }, kinds := [], alts := [], laidByText := true, laidKinds := [.data, .data], laidTests := true, laidLooks := .later }
def EarliestCardSaid : Prop := Claim7.holds Tryz.pinned (.plain (OpenSpec.ofChange earliestSpec)) earliestCard

/-- THE SECOND FORM's CARD OF 'markuplaw.News'. -/
def newsUptoCard : Claim7 := { stood := { row := newsUptoRow, standIns := [], harness := (true, "65d6873a9ba4980fab4e0f7af48d08cbcc8649aa559715b2f32ee66088945340"), looks := false }, kinds := [], alts := [], laidByText := true, laidKinds := [.data, .data, .data], laidTests := true, laidLooks := .later }
def NewsUptoCardSaid : Prop := Claim7.holds Tryz.pinned (.plain (OpenSpec.upto newsSpec)) newsUptoCard

/-- THE SECOND FORM's CARD OF 'markuplaw.Plains'. -/
def plainsUptoCard : Claim7 := { stood := { row := plainsUptoRow, standIns := [], harness := (true, "65d6873a9ba4980fab4e0f7af48d08cbcc8649aa559715b2f32ee66088945340"), looks := false }, kinds := [], alts := [], laidByText := true, laidKinds := [.data, .data, .data], laidTests := true, laidLooks := .later }
def PlainsUptoCardSaid : Prop := Claim7.holds Tryz.pinned (.plain (OpenSpec.upto plainsSpec)) plainsUptoCard

/-- THE SECOND FORM's CARD OF 'markuplaw.Closes'. -/
def closesUptoCard : Claim7 := { stood := { row := closesUptoRow, standIns := [], harness := (true, "65d6873a9ba4980fab4e0f7af48d08cbcc8649aa559715b2f32ee66088945340"), looks := false }, kinds := [], alts := [], laidByText := true, laidKinds := [.data, .data, .data], laidTests := true, laidLooks := .later }
def ClosesUptoCardSaid : Prop := Claim7.holds Tryz.pinned (.plain (OpenSpec.upto closesSpec)) closesUptoCard

/-- THE SECOND FORM's CARD OF 'markuplaw.Places'. -/
def placesUptoCard : Claim7 := { stood := { row := placesUptoRow, standIns := [], harness := (true, "65d6873a9ba4980fab4e0f7af48d08cbcc8649aa559715b2f32ee66088945340"), looks := false }, kinds := [], alts := [], laidByText := true, laidKinds := [.data, .data, .data], laidTests := true, laidLooks := .later }
def PlacesUptoCardSaid : Prop := Claim7.holds Tryz.pinned (.plain (OpenSpec.upto placesSpec)) placesUptoCard

/-- THE SECOND FORM's CARD OF 'markuplaw.Rests'. -/
def restsUptoCard : Claim7 := { stood := { row := restsUptoRow, standIns := [], harness := (true, "65d6873a9ba4980fab4e0f7af48d08cbcc8649aa559715b2f32ee66088945340"), looks := false }, kinds := [], alts := [], laidByText := true, laidKinds := [.data, .data, .data], laidTests := true, laidLooks := .later }
def RestsUptoCardSaid : Prop := Claim7.holds Tryz.pinned (.plain (OpenSpec.upto restsSpec)) restsUptoCard

/-- THE SECOND FORM's CARD OF 'markuplaw.Qualified'. -/
def qualifiedUptoCard : Claim7 := { stood := { row := qualifiedUptoRow, standIns := [], harness := (true, "65d6873a9ba4980fab4e0f7af48d08cbcc8649aa559715b2f32ee66088945340"), looks := false }, kinds := [], alts := [], laidByText := true, laidKinds := [.data, .data, .data], laidTests := true, laidLooks := .later }
def QualifiedUptoCardSaid : Prop := Claim7.holds Tryz.pinned (.plain (OpenSpec.upto qualifiedSpec)) qualifiedUptoCard

/-- THE SECOND FORM's CARD OF 'markuplaw.Writes'. -/
def writesUptoCard : Claim7 := { stood := { row := writesUptoRow, standIns := [], harness := (true, "65d6873a9ba4980fab4e0f7af48d08cbcc8649aa559715b2f32ee66088945340"), looks := false }, kinds := [], alts := [], laidByText := true, laidKinds := [.data, .data, .data], laidTests := true, laidLooks := .later }
def WritesUptoCardSaid : Prop := Claim7.holds Tryz.pinned (.plain (OpenSpec.upto writesSpec)) writesUptoCard

/-- THE SECOND FORM's CARD OF 'markuplaw.All'. -/
def allUptoCard : Claim7 := { stood := { row := allUptoRow, standIns := [], harness := (true, "65d6873a9ba4980fab4e0f7af48d08cbcc8649aa559715b2f32ee66088945340"), looks := false }, kinds := [], alts := [], laidByText := true, laidKinds := [.data, .data, .data], laidTests := true, laidLooks := .later }
def AllUptoCardSaid : Prop := Claim7.holds Tryz.pinned (.plain (OpenSpec.upto allSpec)) allUptoCard

/-- THE SECOND FORM's CARD OF 'markupkeep.Known'. -/
def knownUptoCard : Claim7 := { stood := { row := knownUptoRow, standIns := [], harness := (true, "65d6873a9ba4980fab4e0f7af48d08cbcc8649aa559715b2f32ee66088945340"), looks := false }, kinds := [], alts := [], laidByText := true, laidKinds := [.data, .data], laidTests := true, laidLooks := .later }
def KnownUptoCardSaid : Prop := Claim7.holds Tryz.pinned (.plain (OpenSpec.upto knownSpec)) knownUptoCard

/-- THE SECOND FORM's CARD OF 'markupkeep.Split'. -/
def splitUptoCard : Claim7 := { stood := { row := splitUptoRow, standIns := [], harness := (true, "65d6873a9ba4980fab4e0f7af48d08cbcc8649aa559715b2f32ee66088945340"), looks := false }, kinds := [], alts := [], laidByText := true, laidKinds := [.data, .data], laidTests := true, laidLooks := .later }
def SplitUptoCardSaid : Prop := Claim7.holds Tryz.pinned (.plain (OpenSpec.upto splitSpec)) splitUptoCard

/-- THE SECOND FORM's CARD OF 'markupkeep.SplitNames'. -/
def splitNamesUptoCard : Claim7 := { stood := { row := splitNamesUptoRow, standIns := [], harness := (true, "65d6873a9ba4980fab4e0f7af48d08cbcc8649aa559715b2f32ee66088945340"), looks := false }, kinds := [], alts := [], laidByText := true, laidKinds := [.data, .data], laidTests := true, laidLooks := .later }
def SplitNamesUptoCardSaid : Prop := Claim7.holds Tryz.pinned (.plain (OpenSpec.upto splitNamesSpec)) splitNamesUptoCard

/-- THE SECOND FORM's CARD OF 'markupkeep.Earliest'. -/
def earliestUptoCard : Claim7 := { stood := { row := earliestUptoRow, standIns := [], harness := (true, "65d6873a9ba4980fab4e0f7af48d08cbcc8649aa559715b2f32ee66088945340"), looks := false }, kinds := [], alts := [], laidByText := true, laidKinds := [.data, .data], laidTests := true, laidLooks := .later }
def EarliestUptoCardSaid : Prop := Claim7.holds Tryz.pinned (.plain (OpenSpec.upto earliestSpec)) earliestUptoCard
end Rows
end Go.Proofs.YtmgfijllcdadgaaGreatDoor
