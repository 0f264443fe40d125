/-
  DERIVED. GIVEN WITH THE SEED: THE CARDS: each row of YtdclfcfdadkmeaaDoorRows.lean that lists a variable, with what it lists TIED to the program's text (the seventh form; the later family's looks); each row that meets fmt, with fmt's text TOLD by the authors' own Lean function (tested against real Go, not proved from fmt's source: count such statements apart). THE CARD IS WHAT COUNTS. Prove the row's statement (the work); the ties are given (YtdclfcfdadkmeaaDoorTie.lean); close each card by the builder's one call (the guide's Derived/Test/ToyasCard.lean, 'card_holds'). Laid BY PROGRAM, IN A SANDBOX (cutbox-door.mjs). By AI agents, Wed Nov 11 2026. No macro, syntax, notation, axiom, sorry.
-/
import Derived.Test.YtdclfcfdadkmeaaDoorRows
import GoSem.ClaimSeven
namespace Go.Proofs.YtdclfcfdadkmeaaDoor
namespace Rows

/-- THE TIED CARD OF 'pelotonlaw08.ModelParts'. -/
def modelPartsCard : Claim7 := { stood := { row := modelPartsRow, standIns := [], harness := (true, "af47729238bd4eb6deba0d8dacfa67202db43c79d262ee87be7b2fd57e2adb8c"), looks := true }, kinds := [], alts := [], laidByText := true, laidKinds := [.data, .data], laidTests := true, laidLooks := .later }
def ModelPartsCardSaid : Prop := Claim7.holds Tryd.pinned (.plain (OpenSpec.ofChange modelPartsSpec)) modelPartsCard

/-- THE TIED CARD OF 'pelotonlaw09.GenChecks'. -/
def genChecksCard : Claim7 := { stood := { row := genChecksRow, standIns := [], harness := (true, "af47729238bd4eb6deba0d8dacfa67202db43c79d262ee87be7b2fd57e2adb8c"), looks := true }, kinds := [], alts := [], laidByText := true, laidKinds := [.data, .data], laidTests := true, laidLooks := .later }
def GenChecksCardSaid : Prop := Claim7.holds Tryd.pinned (.plain (OpenSpec.ofChange genChecksSpec)) genChecksCard

/-- THE TIED CARD OF 'pelotonlaw09.GenGoesOn'. -/
def genGoesOnCard : Claim7 := { stood := { row := genGoesOnRow, standIns := [], harness := (true, "af47729238bd4eb6deba0d8dacfa67202db43c79d262ee87be7b2fd57e2adb8c"), looks := true }, kinds := [], alts := [], laidByText := true, laidKinds := [.data, .data], laidTests := true, laidLooks := .later }
def GenGoesOnCardSaid : Prop := Claim7.holds Tryd.pinned (.plain (OpenSpec.ofChange genGoesOnSpec)) genGoesOnCard

/-- THE TIED CARD OF 'pelotonlaw09.GenEach'. -/
def genEachCard : Claim7 := { stood := { row := genEachRow, standIns := [], harness := (true, "af47729238bd4eb6deba0d8dacfa67202db43c79d262ee87be7b2fd57e2adb8c"), looks := true }, kinds := [], alts := [], laidByText := true, laidKinds := [.data, .data], laidTests := true, laidLooks := .later }
def GenEachCardSaid : Prop := Claim7.holds Tryd.pinned (.plain (OpenSpec.ofChange genEachSpec)) genEachCard

/-- THE SECOND FORM's CARD OF 'pelotonlaw08.ModelParts'. -/
def modelPartsUptoCard : Claim7 := { stood := { row := modelPartsUptoRow, standIns := [], harness := (true, "af47729238bd4eb6deba0d8dacfa67202db43c79d262ee87be7b2fd57e2adb8c"), looks := true }, kinds := [], alts := [], laidByText := true, laidKinds := [.data, .data], laidTests := true, laidLooks := .later }
def ModelPartsUptoCardSaid : Prop := Claim7.holds Tryd.pinned (.plain (OpenSpec.upto modelPartsSpec)) modelPartsUptoCard

/-- THE SECOND FORM's CARD OF 'pelotonlaw09.GenChecks'. -/
def genChecksUptoCard : Claim7 := { stood := { row := genChecksUptoRow, standIns := [], harness := (true, "af47729238bd4eb6deba0d8dacfa67202db43c79d262ee87be7b2fd57e2adb8c"), looks := true }, kinds := [], alts := [], laidByText := true, laidKinds := [.data, .data], laidTests := true, laidLooks := .later }
def GenChecksUptoCardSaid : Prop := Claim7.holds Tryd.pinned (.plain (OpenSpec.upto genChecksSpec)) genChecksUptoCard

/-- THE SECOND FORM's CARD OF 'pelotonlaw09.GenGoesOn'. -/
def genGoesOnUptoCard : Claim7 := { stood := { row := genGoesOnUptoRow, standIns := [], harness := (true, "af47729238bd4eb6deba0d8dacfa67202db43c79d262ee87be7b2fd57e2adb8c"), looks := true }, kinds := [], alts := [], laidByText := true, laidKinds := [.data, .data], laidTests := true, laidLooks := .later }
def GenGoesOnUptoCardSaid : Prop := Claim7.holds Tryd.pinned (.plain (OpenSpec.upto genGoesOnSpec)) genGoesOnUptoCard

/-- THE SECOND FORM's CARD OF 'pelotonlaw09.GenEach'. -/
def genEachUptoCard : Claim7 := { stood := { row := genEachUptoRow, standIns := [], harness := (true, "af47729238bd4eb6deba0d8dacfa67202db43c79d262ee87be7b2fd57e2adb8c"), looks := true }, kinds := [], alts := [], laidByText := true, laidKinds := [.data, .data], laidTests := true, laidLooks := .later }
def GenEachUptoCardSaid : Prop := Claim7.holds Tryd.pinned (.plain (OpenSpec.upto genEachSpec)) genEachUptoCard
end Rows
end Go.Proofs.YtdclfcfdadkmeaaDoor
