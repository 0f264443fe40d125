/-
  The row's condition on the table of sines gives the walks what they ask; the heap that the initialisers leave meets it.
-/
import Derived.Test.YtbggklhnmkiamaaDoorSines
import Derived.Test.YtbggklhnmkiamaaDoorRows
import Derived.Lib.LaidTab
import Derived.LaidMore
import Derived.MakeChecks
import Derived.ProofKit
import Derived.OpenShut
import Derived.Stop.Joined
namespace Go.Proofs.YtbggklhnmkiamaaDoor
open Go.ChangeShapes Go.WideShapes Go.ChangeAt Go.RowKit
set_option linter.unusedVariables false

/-- the list of the rows of this seat -/
abbrev laidList6 : List (String × DataW Unit) := [("peloton/rope.sines", Rows.laid_peloton_rope_sines)]

theorem gSines : Tryd.prog.globalNamed "peloton/rope.sines" = some 0 := by kernel_rfl
theorem tSines : (Tryd.prog.globals[0]?).map (·.type) = some 51 := by kernel_rfl

theorem door_met6 (os : Os) (args : Array Value) : laidMetH Tryd.prog laidList6 ((World.doorLaid Tryd.prog 400 os).forCall (fun _ _ => 0) ⟨#[], args, []⟩).memory :=
  laidMetH_of_parts3 (fuel := 8) (laidMet_of_run' 8 (by kernel_rfl) (by kernel_rfl)) (by kernel_rfl) (by kernel_rfl)

theorem stab_of_laid {W : World} (h : laidMetH Tryd.prog laidList6 W) : STab W := by
  rw [MakeChecks.laidMetH_plain _ _ _ (by kernel_rfl)] at h
  have h2 : laidMet Tryd.prog [("peloton/rope.sines", Lib.tabData .i32 stab)] W := h
  have hT := Lib.tabIs_of_head gSines tSines Tryd.underlying51 Tryd.underlying21 (by kernel_rfl) (by kernel_rfl) h2
  intro i hi
  exact hT.cell gSines i hi

end Go.Proofs.YtbggklhnmkiamaaDoor
