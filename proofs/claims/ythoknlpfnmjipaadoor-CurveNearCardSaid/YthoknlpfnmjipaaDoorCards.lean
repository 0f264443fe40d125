/-
  DERIVED. GIVEN WITH THE SEED: THE CARDS: each row of YthoknlpfnmjipaaDoorRows.lean that lists a variable, with what it lists TIED to the program's text (the seventh form; the later family's looks); each row that meets fmt, with fmt's text TOLD by the authors' own Lean function (tested against real Go, not proved from fmt's source: count such statements apart). THE CARD IS WHAT COUNTS. Prove the row's statement (the work); the ties are given (YthoknlpfnmjipaaDoorTie.lean); close each card by the builder's one call (the guide's Derived/Test/ToyasCard.lean, 'card_holds'). Laid BY PROGRAM, IN A SANDBOX (cutbox-door.mjs). By AI agents, Wed Nov 11 2026. No macro, syntax, notation, axiom, sorry.
-/
import Derived.Test.YthoknlpfnmjipaaDoorRows
import GoSem.ClaimSeven
namespace Go.Proofs.YthoknlpfnmjipaaDoor
namespace Rows

/-- THE TIED CARD OF 'pelotonlaw02.CurveExps'. -/
def curveExpsCard : Claim7 := { stood := { row := curveExpsRow, standIns := [], harness := (true, "4bf39e601c0bef885d605a565528bdf0db9fce48cf7e75ebb9db6c5d31bef3df"), looks := false }, kinds := [], alts := [], laidByText := true, laidKinds := [.data], laidTests := true, laidLooks := .later }
def CurveExpsCardSaid : Prop := Claim7.holds Tryd.pinned (.plain (OpenSpec.ofChange curveExpsSpec)) curveExpsCard

/-- THE TIED CARD OF 'pelotonlaw02.CurveRoots'. -/
def curveRootsCard : Claim7 := { stood := { row := curveRootsRow, standIns := [], harness := (true, "4bf39e601c0bef885d605a565528bdf0db9fce48cf7e75ebb9db6c5d31bef3df"), looks := false }, kinds := [], alts := [], laidByText := true, laidKinds := [.data], laidTests := true, laidLooks := .later }
def CurveRootsCardSaid : Prop := Claim7.holds Tryd.pinned (.plain (OpenSpec.ofChange curveRootsSpec)) curveRootsCard

/-- THE TIED CARD OF 'pelotonlaw02.CurveShares'. -/
def curveSharesCard : Claim7 := { stood := { row := curveSharesRow, standIns := [], harness := (true, "4bf39e601c0bef885d605a565528bdf0db9fce48cf7e75ebb9db6c5d31bef3df"), looks := false }, kinds := [], alts := [], laidByText := true, laidKinds := [.data], laidTests := true, laidLooks := .later }
def CurveSharesCardSaid : Prop := Claim7.holds Tryd.pinned (.plain (OpenSpec.ofChange curveSharesSpec)) curveSharesCard

/-- THE TIED CARD OF 'pelotonlaw02.CurveFalls'. -/
def curveFallsCard : Claim7 := { stood := { row := curveFallsRow, standIns := [], harness := (true, "4bf39e601c0bef885d605a565528bdf0db9fce48cf7e75ebb9db6c5d31bef3df"), looks := false }, kinds := [], alts := [], laidByText := true, laidKinds := [.data], laidTests := true, laidLooks := .later }
def CurveFallsCardSaid : Prop := Claim7.holds Tryd.pinned (.plain (OpenSpec.ofChange curveFallsSpec)) curveFallsCard

/-- THE TIED CARD OF 'pelotonlaw02.CurveWhole'. -/
def curveWholeCard : Claim7 := { stood := { row := curveWholeRow, standIns := [], harness := (true, "4bf39e601c0bef885d605a565528bdf0db9fce48cf7e75ebb9db6c5d31bef3df"), looks := false }, kinds := [], alts := [], laidByText := true, laidKinds := [.data], laidTests := true, laidLooks := .later }
def CurveWholeCardSaid : Prop := Claim7.holds Tryd.pinned (.plain (OpenSpec.ofChange curveWholeSpec)) curveWholeCard

/-- THE TIED CARD OF 'pelotonlaw02.CurveNear'. -/
def curveNearCard : Claim7 := { stood := { row := curveNearRow, standIns := [], harness := (true, "4bf39e601c0bef885d605a565528bdf0db9fce48cf7e75ebb9db6c5d31bef3df"), looks := false }, kinds := [], alts := [], laidByText := true, laidKinds := [.data], laidTests := true, laidLooks := .later }
def CurveNearCardSaid : Prop := Claim7.holds Tryd.pinned (.plain (OpenSpec.ofChange curveNearSpec)) curveNearCard

/-- THE TIED CARD OF 'pelotonlaw02.CurveParts'. -/
def curvePartsCard : Claim7 := { stood := { row := curvePartsRow, standIns := [], harness := (true, "4bf39e601c0bef885d605a565528bdf0db9fce48cf7e75ebb9db6c5d31bef3df"), looks := false }, kinds := [], alts := [], laidByText := true, laidKinds := [.data], laidTests := true, laidLooks := .later }
def CurvePartsCardSaid : Prop := Claim7.holds Tryd.pinned (.plain (OpenSpec.ofChange curvePartsSpec)) curvePartsCard

/-- THE SECOND FORM's CARD OF 'pelotonlaw02.CurveExps'. -/
def curveExpsUptoCard : Claim7 := { stood := { row := curveExpsUptoRow, standIns := [], harness := (true, "4bf39e601c0bef885d605a565528bdf0db9fce48cf7e75ebb9db6c5d31bef3df"), looks := false }, kinds := [], alts := [], laidByText := true, laidKinds := [.data], laidTests := true, laidLooks := .later }
def CurveExpsUptoCardSaid : Prop := Claim7.holds Tryd.pinned (.plain (OpenSpec.upto curveExpsSpec)) curveExpsUptoCard

/-- THE SECOND FORM's CARD OF 'pelotonlaw02.CurveRoots'. -/
def curveRootsUptoCard : Claim7 := { stood := { row := curveRootsUptoRow, standIns := [], harness := (true, "4bf39e601c0bef885d605a565528bdf0db9fce48cf7e75ebb9db6c5d31bef3df"), looks := false }, kinds := [], alts := [], laidByText := true, laidKinds := [.data], laidTests := true, laidLooks := .later }
def CurveRootsUptoCardSaid : Prop := Claim7.holds Tryd.pinned (.plain (OpenSpec.upto curveRootsSpec)) curveRootsUptoCard

/-- THE SECOND FORM's CARD OF 'pelotonlaw02.CurveShares'. -/
def curveSharesUptoCard : Claim7 := { stood := { row := curveSharesUptoRow, standIns := [], harness := (true, "4bf39e601c0bef885d605a565528bdf0db9fce48cf7e75ebb9db6c5d31bef3df"), looks := false }, kinds := [], alts := [], laidByText := true, laidKinds := [.data], laidTests := true, laidLooks := .later }
def CurveSharesUptoCardSaid : Prop := Claim7.holds Tryd.pinned (.plain (OpenSpec.upto curveSharesSpec)) curveSharesUptoCard

/-- THE SECOND FORM's CARD OF 'pelotonlaw02.CurveFalls'. -/
def curveFallsUptoCard : Claim7 := { stood := { row := curveFallsUptoRow, standIns := [], harness := (true, "4bf39e601c0bef885d605a565528bdf0db9fce48cf7e75ebb9db6c5d31bef3df"), looks := false }, kinds := [], alts := [], laidByText := true, laidKinds := [.data], laidTests := true, laidLooks := .later }
def CurveFallsUptoCardSaid : Prop := Claim7.holds Tryd.pinned (.plain (OpenSpec.upto curveFallsSpec)) curveFallsUptoCard

/-- THE SECOND FORM's CARD OF 'pelotonlaw02.CurveWhole'. -/
def curveWholeUptoCard : Claim7 := { stood := { row := curveWholeUptoRow, standIns := [], harness := (true, "4bf39e601c0bef885d605a565528bdf0db9fce48cf7e75ebb9db6c5d31bef3df"), looks := false }, kinds := [], alts := [], laidByText := true, laidKinds := [.data], laidTests := true, laidLooks := .later }
def CurveWholeUptoCardSaid : Prop := Claim7.holds Tryd.pinned (.plain (OpenSpec.upto curveWholeSpec)) curveWholeUptoCard

/-- THE SECOND FORM's CARD OF 'pelotonlaw02.CurveNear'. -/
def curveNearUptoCard : Claim7 := { stood := { row := curveNearUptoRow, standIns := [], harness := (true, "4bf39e601c0bef885d605a565528bdf0db9fce48cf7e75ebb9db6c5d31bef3df"), looks := false }, kinds := [], alts := [], laidByText := true, laidKinds := [.data], laidTests := true, laidLooks := .later }
def CurveNearUptoCardSaid : Prop := Claim7.holds Tryd.pinned (.plain (OpenSpec.upto curveNearSpec)) curveNearUptoCard

/-- THE SECOND FORM's CARD OF 'pelotonlaw02.CurveParts'. -/
def curvePartsUptoCard : Claim7 := { stood := { row := curvePartsUptoRow, standIns := [], harness := (true, "4bf39e601c0bef885d605a565528bdf0db9fce48cf7e75ebb9db6c5d31bef3df"), looks := false }, kinds := [], alts := [], laidByText := true, laidKinds := [.data], laidTests := true, laidLooks := .later }
def CurvePartsUptoCardSaid : Prop := Claim7.holds Tryd.pinned (.plain (OpenSpec.upto curvePartsSpec)) curvePartsUptoCard
end Rows
end Go.Proofs.YthoknlpfnmjipaaDoor
