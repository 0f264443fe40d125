/-
  DERIVED. GIVEN WITH THE SEED: THE CARDS: each row of YtbggklhnmkiamaaDoorRows.lean that lists a variable, with what it lists TIED to the program's text (the seventh form; the later family's looks); each row that meets fmt, with fmt's text TOLD by the authors' own Lean function (tested against real Go, not proved from fmt's source: count such statements apart). THE CARD IS WHAT COUNTS. Prove the row's statement (the work); the ties are given (YtbggklhnmkiamaaDoorTie.lean); close each card by the builder's one call (the guide's Derived/Test/ToyasCard.lean, 'card_holds'). Laid BY PROGRAM, IN A SANDBOX (cutbox-door.mjs). By AI agents, Wed Nov 11 2026. No macro, syntax, notation, axiom, sorry.
-/
import Derived.Test.YtbggklhnmkiamaaDoorRows
import GoSem.ClaimSeven
namespace Go.Proofs.YtbggklhnmkiamaaDoor
namespace Rows

/-- THE TIED CARD OF 'pelotonlaw06.RopeSines'. -/
def ropeSinesCard : Claim7 := { stood := { row := ropeSinesRow, standIns := [], harness := (true, "37de5bb9a3743b0e4af4fafce8e0a0ad854add1be9201d4b2f2084e34ad96049"), looks := false }, kinds := [], alts := [], laidByText := true, laidKinds := [.data], laidTests := true, laidLooks := .later }
def RopeSinesCardSaid : Prop := Claim7.holds Tryd.pinned (.plain (OpenSpec.ofChange ropeSinesSpec)) ropeSinesCard

/-- THE TIED CARD OF 'pelotonlaw06.RopeTurns'. -/
def ropeTurnsCard : Claim7 := { stood := { row := ropeTurnsRow, standIns := [], harness := (true, "37de5bb9a3743b0e4af4fafce8e0a0ad854add1be9201d4b2f2084e34ad96049"), looks := false }, kinds := [], alts := [], laidByText := true, laidKinds := [.data], laidTests := true, laidLooks := .later }
def RopeTurnsCardSaid : Prop := Claim7.holds Tryd.pinned (.plain (OpenSpec.ofChange ropeTurnsSpec)) ropeTurnsCard

/-- THE TIED CARD OF 'pelotonlaw06.RopeTables'. -/
def ropeTablesCard : Claim7 := { stood := { row := ropeTablesRow, standIns := [], harness := (true, "37de5bb9a3743b0e4af4fafce8e0a0ad854add1be9201d4b2f2084e34ad96049"), looks := false }, kinds := [], alts := [], laidByText := true, laidKinds := [.data], laidTests := true, laidLooks := .later }
def RopeTablesCardSaid : Prop := Claim7.holds Tryd.pinned (.plain (OpenSpec.ofChange ropeTablesSpec)) ropeTablesCard

/-- THE TIED CARD OF 'pelotonlaw06.RopeCircles'. -/
def ropeCirclesCard : Claim7 := { stood := { row := ropeCirclesRow, standIns := [], harness := (true, "37de5bb9a3743b0e4af4fafce8e0a0ad854add1be9201d4b2f2084e34ad96049"), looks := false }, kinds := [], alts := [], laidByText := true, laidKinds := [.data], laidTests := true, laidLooks := .later }
def RopeCirclesCardSaid : Prop := Claim7.holds Tryd.pinned (.plain (OpenSpec.ofChange ropeCirclesSpec)) ropeCirclesCard

/-- THE TIED CARD OF 'pelotonlaw06.RopeAdds'. -/
def ropeAddsCard : Claim7 := { stood := { row := ropeAddsRow, standIns := [], harness := (true, "37de5bb9a3743b0e4af4fafce8e0a0ad854add1be9201d4b2f2084e34ad96049"), looks := false }, kinds := [], alts := [], laidByText := true, laidKinds := [.data], laidTests := true, laidLooks := .later }
def RopeAddsCardSaid : Prop := Claim7.holds Tryd.pinned (.plain (OpenSpec.ofChange ropeAddsSpec)) ropeAddsCard

/-- THE SECOND FORM's CARD OF 'pelotonlaw06.RopeSines'. -/
def ropeSinesUptoCard : Claim7 := { stood := { row := ropeSinesUptoRow, standIns := [], harness := (true, "37de5bb9a3743b0e4af4fafce8e0a0ad854add1be9201d4b2f2084e34ad96049"), looks := false }, kinds := [], alts := [], laidByText := true, laidKinds := [.data], laidTests := true, laidLooks := .later }
def RopeSinesUptoCardSaid : Prop := Claim7.holds Tryd.pinned (.plain (OpenSpec.upto ropeSinesSpec)) ropeSinesUptoCard

/-- THE SECOND FORM's CARD OF 'pelotonlaw06.RopeTurns'. -/
def ropeTurnsUptoCard : Claim7 := { stood := { row := ropeTurnsUptoRow, standIns := [], harness := (true, "37de5bb9a3743b0e4af4fafce8e0a0ad854add1be9201d4b2f2084e34ad96049"), looks := false }, kinds := [], alts := [], laidByText := true, laidKinds := [.data], laidTests := true, laidLooks := .later }
def RopeTurnsUptoCardSaid : Prop := Claim7.holds Tryd.pinned (.plain (OpenSpec.upto ropeTurnsSpec)) ropeTurnsUptoCard

/-- THE SECOND FORM's CARD OF 'pelotonlaw06.RopeTables'. -/
def ropeTablesUptoCard : Claim7 := { stood := { row := ropeTablesUptoRow, standIns := [], harness := (true, "37de5bb9a3743b0e4af4fafce8e0a0ad854add1be9201d4b2f2084e34ad96049"), looks := false }, kinds := [], alts := [], laidByText := true, laidKinds := [.data], laidTests := true, laidLooks := .later }
def RopeTablesUptoCardSaid : Prop := Claim7.holds Tryd.pinned (.plain (OpenSpec.upto ropeTablesSpec)) ropeTablesUptoCard

/-- THE SECOND FORM's CARD OF 'pelotonlaw06.RopeCircles'. -/
def ropeCirclesUptoCard : Claim7 := { stood := { row := ropeCirclesUptoRow, standIns := [], harness := (true, "37de5bb9a3743b0e4af4fafce8e0a0ad854add1be9201d4b2f2084e34ad96049"), looks := false }, kinds := [], alts := [], laidByText := true, laidKinds := [.data], laidTests := true, laidLooks := .later }
def RopeCirclesUptoCardSaid : Prop := Claim7.holds Tryd.pinned (.plain (OpenSpec.upto ropeCirclesSpec)) ropeCirclesUptoCard

/-- THE SECOND FORM's CARD OF 'pelotonlaw06.RopeAdds'. -/
def ropeAddsUptoCard : Claim7 := { stood := { row := ropeAddsUptoRow, standIns := [], harness := (true, "37de5bb9a3743b0e4af4fafce8e0a0ad854add1be9201d4b2f2084e34ad96049"), looks := false }, kinds := [], alts := [], laidByText := true, laidKinds := [.data], laidTests := true, laidLooks := .later }
def RopeAddsUptoCardSaid : Prop := Claim7.holds Tryd.pinned (.plain (OpenSpec.upto ropeAddsSpec)) ropeAddsUptoCard
end Rows
end Go.Proofs.YtbggklhnmkiamaaDoor
