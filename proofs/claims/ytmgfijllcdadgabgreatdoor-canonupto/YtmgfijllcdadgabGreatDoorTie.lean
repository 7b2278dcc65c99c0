/-
  DERIVED. GIVEN WITH THE SEED: THE PROGRAM's TIES (one call each: nine closed facts by the kernel) AND EACH ROW's TIE, after the 31st guide's Derived/Test/Toyas{Tie, Card}.lean. No idea stands in it: it is a product of the set-up. Laid BY PROGRAM, IN A SANDBOX (cutbox-door.mjs). By AI agents, Wed Nov 11 2026. No macro, syntax, notation, axiom, sorry.
-/
import Derived.Test.YtmgfijllcdadgabGreatDoorRows
import Derived.LaidByTextLater
import Derived.SevenTiedAt
import Derived.LaidSub
import Derived.LaidOnce
namespace Go.Proofs.YtmgfijllcdadgabGreatDoor
open Go
set_option maxRecDepth 100000
theorem seatTie1 : Tryz.prog.laidByTextLater [("markup/refs.names", Rows.laid_markup_refs_names), ("markup/refs.named", Rows.laid_markup_refs_named), ("markup/markupkeep.tags", Rows.laid_markup_markupkeep_tags), ("markup/markupkeep.values", Rows.laid_markup_markupkeep_values), ("markup/markupkeep.comments", Rows.laid_markup_markupkeep_comments), ("markup/markupkeep.targets", Rows.laid_markup_markupkeep_targets), ("markup/markupkeep.datas", Rows.laid_markup_markupkeep_datas)] [.data, .data, .data, .data, .data, .data, .data] true :=
  Program.laidByTextLater_by_one 44 8 11 (by kernel_rfl) (by kernel_rfl) (by kernel_rfl) (by kernel_rfl) (by kernel_rfl) (by kernel_rfl) (fun _ _ => by kernel_rfl)
theorem noOwnUnsafe : Tryz.pinned.checked.prog.headLifts.contains "ownunsafe" = false := by kernel_rfl
theorem tie : Tryz.prog.laidByTextLater [("markup/refs.names", Rows.laid_markup_refs_names), ("markup/refs.named", Rows.laid_markup_refs_named)] [.data, .data] true :=
  Program.laidByTextLater.sub seatTie1 ["markup/refs.names", "markup/refs.named"] (by kernel_rfl) (by kernel_rfl)
theorem sticky_row_tie : Rows.stickyRow.laidByTextAt .later Tryz.pinned [.data, .data] true :=
  OpenClaim.laidByTextAt_later rfl rfl tie noOwnUnsafe
theorem ways_row_tie : Rows.waysRow.laidByTextAt .later Tryz.pinned [.data, .data] true :=
  OpenClaim.laidByTextAt_later rfl rfl tie noOwnUnsafe
theorem nested_row_tie : Rows.nestedRow.laidByTextAt .later Tryz.pinned [.data, .data] true :=
  OpenClaim.laidByTextAt_later rfl rfl tie noOwnUnsafe
theorem bounds_row_tie : Rows.boundsRow.laidByTextAt .later Tryz.pinned [.data, .data] true :=
  OpenClaim.laidByTextAt_later rfl rfl tie noOwnUnsafe
theorem spaces_row_tie : Rows.spacesRow.laidByTextAt .later Tryz.pinned [.data, .data] true :=
  OpenClaim.laidByTextAt_later rfl rfl tie noOwnUnsafe
theorem canon_row_tie : Rows.canonRow.laidByTextAt .later Tryz.pinned [.data, .data] true :=
  OpenClaim.laidByTextAt_later rfl rfl tie noOwnUnsafe
theorem tie2 : Tryz.prog.laidByTextLater [("markup/refs.names", Rows.laid_markup_refs_names), ("markup/refs.named", Rows.laid_markup_refs_named), ("markup/markupkeep.tags", Rows.laid_markup_markupkeep_tags), ("markup/markupkeep.values", Rows.laid_markup_markupkeep_values), ("markup/markupkeep.comments", Rows.laid_markup_markupkeep_comments), ("markup/markupkeep.targets", Rows.laid_markup_markupkeep_targets), ("markup/markupkeep.datas", Rows.laid_markup_markupkeep_datas)] [.data, .data, .data, .data, .data, .data, .data] true :=
  Program.laidByTextLater.sub seatTie1 ["markup/refs.names", "markup/refs.named", "markup/markupkeep.tags", "markup/markupkeep.values", "markup/markupkeep.comments", "markup/markupkeep.targets", "markup/markupkeep.datas"] (by kernel_rfl) (by kernel_rfl)
theorem built_row_tie : Rows.builtRow.laidByTextAt .later Tryz.pinned [.data, .data, .data, .data, .data, .data, .data] true :=
  OpenClaim.laidByTextAt_later rfl rfl tie2 noOwnUnsafe
theorem stickyUpto_row_tie : Rows.stickyUptoRow.laidByTextAt .later Tryz.pinned [.data, .data] true :=
  OpenClaim.laidByTextAt_later rfl rfl tie noOwnUnsafe
theorem waysUpto_row_tie : Rows.waysUptoRow.laidByTextAt .later Tryz.pinned [.data, .data] true :=
  OpenClaim.laidByTextAt_later rfl rfl tie noOwnUnsafe
theorem nestedUpto_row_tie : Rows.nestedUptoRow.laidByTextAt .later Tryz.pinned [.data, .data] true :=
  OpenClaim.laidByTextAt_later rfl rfl tie noOwnUnsafe
theorem boundsUpto_row_tie : Rows.boundsUptoRow.laidByTextAt .later Tryz.pinned [.data, .data] true :=
  OpenClaim.laidByTextAt_later rfl rfl tie noOwnUnsafe
theorem spacesUpto_row_tie : Rows.spacesUptoRow.laidByTextAt .later Tryz.pinned [.data, .data] true :=
  OpenClaim.laidByTextAt_later rfl rfl tie noOwnUnsafe
theorem builtUpto_row_tie : Rows.builtUptoRow.laidByTextAt .later Tryz.pinned [.data, .data, .data, .data, .data, .data, .data] true :=
  OpenClaim.laidByTextAt_later rfl rfl tie2 noOwnUnsafe
theorem canonUpto_row_tie : Rows.canonUptoRow.laidByTextAt .later Tryz.pinned [.data, .data] true :=
  OpenClaim.laidByTextAt_later rfl rfl tie noOwnUnsafe
end Go.Proofs.YtmgfijllcdadgabGreatDoor
