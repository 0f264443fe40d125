/-
  DERIVED. GIVEN WITH THE SEED: THE CARDS: each row of YthblniakghfchaaDoorRows.lean that lists a variable, with what it lists TIED to the program's text (the seventh form; the later family's looks); each row that meets fmt, with fmt's text TOLD by the authors' own Lean function (tested against real Go, not proved from fmt's source: count such statements apart). THE CARD IS WHAT COUNTS. Prove the row's statement (the work); the ties are given (YthblniakghfchaaDoorTie.lean); close each card by the builder's one call (the guide's Derived/Test/ToyasCard.lean, 'card_holds'). Laid BY PROGRAM, IN A SANDBOX (cutbox-door.mjs). By AI agents, Wed Nov 11 2026. No macro, syntax, notation, axiom, sorry.
-/
import Derived.Test.YthblniakghfchaaDoorRows
import GoSem.ClaimSeven
namespace Go.Proofs.YthblniakghfchaaDoor
namespace Rows

/-- THE TIED CARD OF 'pelotonlaw05.NormNorms'. -/
def normNormsCard : Claim7 := { stood := { row := normNormsRow, standIns := [], harness := (true, "d25234ddf6c27c6edf394e90a076e1636ca57c252689c4c3bbb1e2edf7642b21"), looks := false }, kinds := [], alts := [], laidByText := true, laidKinds := [.data], laidTests := true, laidLooks := .later }
def NormNormsCardSaid : Prop := Claim7.holds Tryd.pinned (.plain (OpenSpec.ofChange normNormsSpec)) normNormsCard

/-- THE TIED CARD OF 'pelotonlaw05.NormWeights'. -/
def normWeightsCard : Claim7 := { stood := { row := normWeightsRow, standIns := [], harness := (true, "d25234ddf6c27c6edf394e90a076e1636ca57c252689c4c3bbb1e2edf7642b21"), looks := false }, kinds := [], alts := [], laidByText := true, laidKinds := [.data], laidTests := true, laidLooks := .later }
def NormWeightsCardSaid : Prop := Claim7.holds Tryd.pinned (.plain (OpenSpec.ofChange normWeightsSpec)) normWeightsCard

/-- THE TIED CARD OF 'pelotonlaw05.NormMixes'. -/
def normMixesCard : Claim7 := { stood := { row := normMixesRow, standIns := [], harness := (true, "d25234ddf6c27c6edf394e90a076e1636ca57c252689c4c3bbb1e2edf7642b21"), looks := false }, kinds := [], alts := [], laidByText := true, laidKinds := [.data], laidTests := true, laidLooks := .later }
def NormMixesCardSaid : Prop := Claim7.holds Tryd.pinned (.plain (OpenSpec.ofChange normMixesSpec)) normMixesCard

/-- THE TIED CARD OF 'pelotonlaw05.NormOrders'. -/
def normOrdersCard : Claim7 := { stood := { row := normOrdersRow, standIns := [], harness := (true, "d25234ddf6c27c6edf394e90a076e1636ca57c252689c4c3bbb1e2edf7642b21"), looks := false }, kinds := [], alts := [], laidByText := true, laidKinds := [.data], laidTests := true, laidLooks := .later }
def NormOrdersCardSaid : Prop := Claim7.holds Tryd.pinned (.plain (OpenSpec.ofChange normOrdersSpec)) normOrdersCard

/-- THE TIED CARD OF 'pelotonlaw05.NormSame'. -/
def normSameCard : Claim7 := { stood := { row := normSameRow, standIns := [], harness := (true, "d25234ddf6c27c6edf394e90a076e1636ca57c252689c4c3bbb1e2edf7642b21"), looks := false }, kinds := [], alts := [], laidByText := true, laidKinds := [.data], laidTests := true, laidLooks := .later }
def NormSameCardSaid : Prop := Claim7.holds Tryd.pinned (.plain (OpenSpec.ofChange normSameSpec)) normSameCard

/-- THE TIED CARD OF 'pelotonlaw05.NormShifts'. -/
def normShiftsCard : Claim7 := { stood := { row := normShiftsRow, standIns := [], harness := (true, "d25234ddf6c27c6edf394e90a076e1636ca57c252689c4c3bbb1e2edf7642b21"), looks := false }, kinds := [], alts := [], laidByText := true, laidKinds := [.data], laidTests := true, laidLooks := .later }
def NormShiftsCardSaid : Prop := Claim7.holds Tryd.pinned (.plain (OpenSpec.ofChange normShiftsSpec)) normShiftsCard

/-- THE TIED CARD OF 'pelotonlaw05.NormSigns'. -/
def normSignsCard : Claim7 := { stood := { row := normSignsRow, standIns := [], harness := (true, "d25234ddf6c27c6edf394e90a076e1636ca57c252689c4c3bbb1e2edf7642b21"), looks := false }, kinds := [], alts := [], laidByText := true, laidKinds := [.data], laidTests := true, laidLooks := .later }
def NormSignsCardSaid : Prop := Claim7.holds Tryd.pinned (.plain (OpenSpec.ofChange normSignsSpec)) normSignsCard

/-- THE SECOND FORM's CARD OF 'pelotonlaw05.NormNorms'. -/
def normNormsUptoCard : Claim7 := { stood := { row := normNormsUptoRow, standIns := [], harness := (true, "d25234ddf6c27c6edf394e90a076e1636ca57c252689c4c3bbb1e2edf7642b21"), looks := false }, kinds := [], alts := [], laidByText := true, laidKinds := [.data], laidTests := true, laidLooks := .later }
def NormNormsUptoCardSaid : Prop := Claim7.holds Tryd.pinned (.plain (OpenSpec.upto normNormsSpec)) normNormsUptoCard

/-- THE SECOND FORM's CARD OF 'pelotonlaw05.NormWeights'. -/
def normWeightsUptoCard : Claim7 := { stood := { row := normWeightsUptoRow, standIns := [], harness := (true, "d25234ddf6c27c6edf394e90a076e1636ca57c252689c4c3bbb1e2edf7642b21"), looks := false }, kinds := [], alts := [], laidByText := true, laidKinds := [.data], laidTests := true, laidLooks := .later }
def NormWeightsUptoCardSaid : Prop := Claim7.holds Tryd.pinned (.plain (OpenSpec.upto normWeightsSpec)) normWeightsUptoCard

/-- THE SECOND FORM's CARD OF 'pelotonlaw05.NormMixes'. -/
def normMixesUptoCard : Claim7 := { stood := { row := normMixesUptoRow, standIns := [], harness := (true, "d25234ddf6c27c6edf394e90a076e1636ca57c252689c4c3bbb1e2edf7642b21"), looks := false }, kinds := [], alts := [], laidByText := true, laidKinds := [.data], laidTests := true, laidLooks := .later }
def NormMixesUptoCardSaid : Prop := Claim7.holds Tryd.pinned (.plain (OpenSpec.upto normMixesSpec)) normMixesUptoCard

/-- THE SECOND FORM's CARD OF 'pelotonlaw05.NormOrders'. -/
def normOrdersUptoCard : Claim7 := { stood := { row := normOrdersUptoRow, standIns := [], harness := (true, "d25234ddf6c27c6edf394e90a076e1636ca57c252689c4c3bbb1e2edf7642b21"), looks := false }, kinds := [], alts := [], laidByText := true, laidKinds := [.data], laidTests := true, laidLooks := .later }
def NormOrdersUptoCardSaid : Prop := Claim7.holds Tryd.pinned (.plain (OpenSpec.upto normOrdersSpec)) normOrdersUptoCard

/-- THE SECOND FORM's CARD OF 'pelotonlaw05.NormSame'. -/
def normSameUptoCard : Claim7 := { stood := { row := normSameUptoRow, standIns := [], harness := (true, "d25234ddf6c27c6edf394e90a076e1636ca57c252689c4c3bbb1e2edf7642b21"), looks := false }, kinds := [], alts := [], laidByText := true, laidKinds := [.data], laidTests := true, laidLooks := .later }
def NormSameUptoCardSaid : Prop := Claim7.holds Tryd.pinned (.plain (OpenSpec.upto normSameSpec)) normSameUptoCard

/-- THE SECOND FORM's CARD OF 'pelotonlaw05.NormShifts'. -/
def normShiftsUptoCard : Claim7 := { stood := { row := normShiftsUptoRow, standIns := [], harness := (true, "d25234ddf6c27c6edf394e90a076e1636ca57c252689c4c3bbb1e2edf7642b21"), looks := false }, kinds := [], alts := [], laidByText := true, laidKinds := [.data], laidTests := true, laidLooks := .later }
def NormShiftsUptoCardSaid : Prop := Claim7.holds Tryd.pinned (.plain (OpenSpec.upto normShiftsSpec)) normShiftsUptoCard

/-- THE SECOND FORM's CARD OF 'pelotonlaw05.NormSigns'. -/
def normSignsUptoCard : Claim7 := { stood := { row := normSignsUptoRow, standIns := [], harness := (true, "d25234ddf6c27c6edf394e90a076e1636ca57c252689c4c3bbb1e2edf7642b21"), looks := false }, kinds := [], alts := [], laidByText := true, laidKinds := [.data], laidTests := true, laidLooks := .later }
def NormSignsUptoCardSaid : Prop := Claim7.holds Tryd.pinned (.plain (OpenSpec.upto normSignsSpec)) normSignsUptoCard
end Rows
end Go.Proofs.YthblniakghfchaaDoor
