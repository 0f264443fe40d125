/-
  DERIVED. GIVEN WITH THE SEED: THE CARDS: each row of YtoeihigdndkjeaaGreatDoorRows.lean that lists a variable, with what it lists TIED to the program's text (the seventh form; the later family's looks); each row that meets fmt, with fmt's text TOLD by the authors' own Lean function (tested against real Go, not proved from fmt's source: count such statements apart). THE CARD IS WHAT COUNTS. Prove the row's statement (the work); the ties are given (YtoeihigdndkjeaaGreatDoorTie.lean); close each card by the builder's one call (the guide's Derived/Test/ToyasCard.lean, 'card_holds'). Laid BY PROGRAM, IN A SANDBOX (cutbox-door.mjs). By AI agents, Wed Nov 11 2026. No macro, syntax, notation, axiom, sorry.
-/
import Derived.Test.YtoeihigdndkjeaaGreatDoorRows
import GoSem.ClaimSeven
namespace Go.Proofs.YtoeihigdndkjeaaGreatDoor
namespace Rows

/-- THE TIED CARD OF 'pelotonlaw08.ModelFeeds'. -/
def modelFeedsCard : Claim7 := { stood := { row := modelFeedsRow, standIns := [], harness := (true, "9491c1b2270f2e0c101a760e0ee5449b3d1cdcca79f8ea9c1e20f63c71c59fbe"), looks := true }, kinds := [], alts := [], laidByText := true, laidKinds := [.data, .data], laidTests := true, laidLooks := .later }
def ModelFeedsCardSaid : Prop := Claim7.holds Tryz.pinned (.plain (OpenSpec.ofChange modelFeedsSpec)) modelFeedsCard

/-- THE TIED CARD OF 'pelotonlaw08.ModelRefuses'. -/
def modelRefusesCard : Claim7 := { stood := { row := modelRefusesRow, standIns := [], harness := (true, "9491c1b2270f2e0c101a760e0ee5449b3d1cdcca79f8ea9c1e20f63c71c59fbe"), looks := true }, kinds := [], alts := [], laidByText := true, laidKinds := [.data, .data], laidTests := true, laidLooks := .later }
def ModelRefusesCardSaid : Prop := Claim7.holds Tryz.pinned (.plain (OpenSpec.ofChange modelRefusesSpec)) modelRefusesCard

/-- THE TIED CARD OF 'pelotonlaw08.ModelPast'. -/
def modelPastCard : Claim7 := { stood := { row := modelPastRow, standIns := [], harness := (true, "9491c1b2270f2e0c101a760e0ee5449b3d1cdcca79f8ea9c1e20f63c71c59fbe"), looks := true }, kinds := [], alts := [], laidByText := true, laidKinds := [.data, .data], laidTests := true, laidLooks := .later }
def ModelPastCardSaid : Prop := Claim7.holds Tryz.pinned (.plain (OpenSpec.ofChange modelPastSpec)) modelPastCard

/-- THE TIED CARD OF 'pelotonlaw09.GenSays'. -/
def genSaysCard : Claim7 := { stood := { row := genSaysRow, standIns := [], harness := (true, "9491c1b2270f2e0c101a760e0ee5449b3d1cdcca79f8ea9c1e20f63c71c59fbe"), looks := true }, kinds := [], alts := [], laidByText := true, laidKinds := [.data, .data], laidTests := true, laidLooks := .later }
def GenSaysCardSaid : Prop := Claim7.holds Tryz.pinned (.plain (OpenSpec.ofChange genSaysSpec)) genSaysCard

/-- THE TIED CARD OF 'pelotonlaw09.GenTalks'. -/
def genTalksCard : Claim7 := { stood := { row := genTalksRow, standIns := [], harness := (true, "9491c1b2270f2e0c101a760e0ee5449b3d1cdcca79f8ea9c1e20f63c71c59fbe"), looks := true }, kinds := [], alts := [], laidByText := true, laidKinds := [.data, .data], laidTests := true, laidLooks := .later }
def GenTalksCardSaid : Prop := Claim7.holds Tryz.pinned (.plain (OpenSpec.ofChange genTalksSpec)) genTalksCard

/-- THE SECOND FORM's CARD OF 'pelotonlaw08.ModelFeeds'. -/
def modelFeedsUptoCard : Claim7 := { stood := { row := modelFeedsUptoRow, standIns := [], harness := (true, "9491c1b2270f2e0c101a760e0ee5449b3d1cdcca79f8ea9c1e20f63c71c59fbe"), looks := true }, kinds := [], alts := [], laidByText := true, laidKinds := [.data, .data], laidTests := true, laidLooks := .later }
def ModelFeedsUptoCardSaid : Prop := Claim7.holds Tryz.pinned (.plain (OpenSpec.upto modelFeedsSpec)) modelFeedsUptoCard

/-- THE SECOND FORM's CARD OF 'pelotonlaw08.ModelRefuses'. -/
def modelRefusesUptoCard : Claim7 := { stood := { row := modelRefusesUptoRow, standIns := [], harness := (true, "9491c1b2270f2e0c101a760e0ee5449b3d1cdcca79f8ea9c1e20f63c71c59fbe"), looks := true }, kinds := [], alts := [], laidByText := true, laidKinds := [.data, .data], laidTests := true, laidLooks := .later }
def ModelRefusesUptoCardSaid : Prop := Claim7.holds Tryz.pinned (.plain (OpenSpec.upto modelRefusesSpec)) modelRefusesUptoCard

/-- THE SECOND FORM's CARD OF 'pelotonlaw08.ModelPast'. -/
def modelPastUptoCard : Claim7 := { stood := { row := modelPastUptoRow, standIns := [], harness := (true, "9491c1b2270f2e0c101a760e0ee5449b3d1cdcca79f8ea9c1e20f63c71c59fbe"), looks := true }, kinds := [], alts := [], laidByText := true, laidKinds := [.data, .data], laidTests := true, laidLooks := .later }
def ModelPastUptoCardSaid : Prop := Claim7.holds Tryz.pinned (.plain (OpenSpec.upto modelPastSpec)) modelPastUptoCard

/-- THE SECOND FORM's CARD OF 'pelotonlaw09.GenSays'. -/
def genSaysUptoCard : Claim7 := { stood := { row := genSaysUptoRow, standIns := [], harness := (true, "9491c1b2270f2e0c101a760e0ee5449b3d1cdcca79f8ea9c1e20f63c71c59fbe"), looks := true }, kinds := [], alts := [], laidByText := true, laidKinds := [.data, .data], laidTests := true, laidLooks := .later }
def GenSaysUptoCardSaid : Prop := Claim7.holds Tryz.pinned (.plain (OpenSpec.upto genSaysSpec)) genSaysUptoCard

/-- THE SECOND FORM's CARD OF 'pelotonlaw09.GenTalks'. -/
def genTalksUptoCard : Claim7 := { stood := { row := genTalksUptoRow, standIns := [], harness := (true, "9491c1b2270f2e0c101a760e0ee5449b3d1cdcca79f8ea9c1e20f63c71c59fbe"), looks := true }, kinds := [], alts := [], laidByText := true, laidKinds := [.data, .data], laidTests := true, laidLooks := .later }
def GenTalksUptoCardSaid : Prop := Claim7.holds Tryz.pinned (.plain (OpenSpec.upto genTalksSpec)) genTalksUptoCard
end Rows
end Go.Proofs.YtoeihigdndkjeaaGreatDoor
