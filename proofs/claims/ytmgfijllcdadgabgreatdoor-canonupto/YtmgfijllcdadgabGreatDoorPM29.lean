/- Small, Told2 -/
import Derived.Test.YtmgfijllcdadgabGreatDoorPM27
import Derived.Test.YtmgfijllcdadgabGreatDoorPM28
set_option linter.unusedVariables false
set_option linter.unusedSimpArgs false
namespace Go.Proofs.YtmgfijllcdadgabGreatDoor
open Mk (St Bs Ev Att)
open Go.RowKit
theorem infoOut:(Tryz.prog.info? 38).map (·.size)=some 7:=by kernel_rfl
theorem lay_out (w:World) (v:Value) (err en at_:Int) (q:Plc) (hv:∃ a n c,v = .slice a n c) :
    (storeCells ⟨w.heap.size,0,none⟩ (outCells v err en at_ q).toList 0).run Tryz.prog (w.alloc (.cells #[.slice none 0 0,.int .i64 0,.int .i64 0,.int .i64 0,.int .i64 0,.int .i64 0,.slice none 0 0] 38)) = .ok () (w.alloc (.cells (outCells v err en at_ q) 38)):=by
  obtain ⟨a,n,c,rfl⟩:=hv
  exact run_storeCells_new (P:=Tryz.prog) w 38 _ (outCells (.slice a n c) err en at_ q) infoOut rfl (by simp [outCells,Value.oneCell'])
end Go.Proofs.YtmgfijllcdadgabGreatDoor
