/-
  The row's condition on the table gives the walks what they ask; the heap that the initialisers leave meets it.
-/
import Derived.Test.YthblniakghfchaaDoorTab
import Derived.Test.YthblniakghfchaaDoorRows
import Derived.Lib.LaidTab
import Derived.LaidMore
import Derived.MakeChecks
import Derived.ProofKit
import Derived.OpenShut
import Derived.Stop.Joined
namespace Go.Proofs.YthblniakghfchaaDoor
open Go.ChangeShapes Go.WideShapes Go.ChangeAt Go.RowKit
set_option linter.unusedVariables false

/-- the list of the rows of this seat -/
abbrev laidList : List (String × DataW Unit) := [("peloton/curve.powers", Rows.laid_peloton_curve_powers)]

theorem gPowers : Tryd.prog.globalNamed "peloton/curve.powers" = some 0 := by kernel_rfl
theorem tPowers : (Tryd.prog.globals[0]?).map (·.type) = some 84 := by kernel_rfl

theorem door_met (os : Os) (args : Array Value) : laidMetH Tryd.prog laidList ((World.doorLaid Tryd.prog 400 os).forCall (fun _ _ => 0) ⟨#[], args, []⟩).memory :=
  laidMetH_of_parts3 (fuel := 8) (laidMet_of_run' 8 (by kernel_rfl) (by kernel_rfl)) (by kernel_rfl) (by kernel_rfl)

theorem tab_of_laid {W : World} (h : laidMetH Tryd.prog laidList W) : Tab W := by
  rw [MakeChecks.laidMetH_plain _ _ _ (by kernel_rfl)] at h
  have h2 : laidMet Tryd.prog [("peloton/curve.powers", Lib.tabData .i64 ptab)] W := h
  have hT := Lib.tabIs_of_head gPowers tPowers Tryd.underlying84 Tryd.underlying2 (by kernel_rfl) (by kernel_rfl) h2
  intro i hi
  exact hT.cell gPowers i hi

end Go.Proofs.YthblniakghfchaaDoor
