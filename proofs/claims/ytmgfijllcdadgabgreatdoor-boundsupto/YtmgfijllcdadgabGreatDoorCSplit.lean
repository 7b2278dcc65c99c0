/- Split -/
import Derived.Test.YtmgfijllcdadgabGreatDoorM29
import Derived.Test.YtmgfijllcdadgabGreatDoorM30
namespace Go.Proofs.YtmgfijllcdadgabGreatDoor
set_option linter.unusedVariables false
set_option linter.unusedSimpArgs false
open Go.RowKit
open Mk (St Bs Ev Att)

theorem told_ok (d a t : Int) (n : Bool) (text : Bs) : ToldOk text.length (Mk.feedAll (Mk.make_ d a t n) text).ended (Mk.close (Mk.feedAll (Mk.make_ d a t n) text)).2 (Mk.feedAll (Mk.make_ d a t n) text).at_ := by
  have h0 : (Mk.make_ d a t n).at_ = 0 := rfl
  rcases feedAll_told text (Mk.make_ d a t n) rfl with ⟨h1, h2⟩ | ⟨h1, h2, h3⟩
  · refine .inl ⟨h1, by rw [h2, h0]; omega, ?_⟩
    unfold Mk.close
    rw [if_pos h1]
    split
    · exact .inl rfl
    · exact .inr rfl
  · refine .inr ⟨h1, by omega, by omega, ?_⟩
    unfold Mk.close
    rw [if_neg h1]

end Go.Proofs.YtmgfijllcdadgabGreatDoor
