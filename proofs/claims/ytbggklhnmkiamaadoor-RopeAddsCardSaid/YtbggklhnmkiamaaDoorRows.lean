/-
  NARROWER THAN 'FOR EVERY INPUT', by the rows' own cells (each row's printed sentence says how): RopeSines: laid · RopeTurns: laid · RopeTables: laid · RopeCircles: laid · RopeAdds: laid.
  DERIVED. THE GIVEN ROWS OF THIS SEAT. 5 by the template 'for every input the law returns true; each argument reads behind the call as it read before'; 0 by the template 'total and deterministic' (their statements: YtbggklhnmkiamaaDoorTotals.lean).
  GIVEN WITH THE SEED: the statements are not yours to turn. If you find one false, say at which input.
  Laid BY PROGRAM, IN A SANDBOX (cutbox-rows.mjs): the forced cells as the released guide's own fill.sh prints them over the translation 13293e5192b8ba04… (all of the seat's roots in one cut). By AI agents, Wed Nov 11 2026. No macro, syntax, notation, axiom, sorry.
-/
import Derived.Test.YtbggklhnmkiamaaDoorChecked
import GoSem.Claim
import GoSem.ClaimJoined
import GoSem.ClaimMapViews
import Derived.JoinedTies
import Derived.KernelRfl
namespace Go.Proofs.YtbggklhnmkiamaaDoor
/- THE CELL 'sum', in the pinned program and in every row, IS THE sha256 OF THE DUMP (.gsa) THAT YtbggklhnmkiamaaDoorProg.lean LOADS. Nothing in Lean hashes anything: it is a label: what it is worth is what the hold of that sum in a sandbox is worth. -/
noncomputable def Tryd.pinned : Pinned := { name := "ytbggklhnmkiamaadoor", sum := "13293e5192b8ba0468b03e0100f5a713452d996a05c3579d8fa00817e98de8ba", checked := Tryd.checked }
namespace Rows
def none {H : Type} : Left H := { results := [], args := [] }

/- WHAT THE LISTED PACKAGE-LEVEL VARIABLES READ AS WHEN THE CALL BEGINS. Each datum BY PROGRAM (the guide's laid-datum.mjs) off the statement by which the dump's own 'gosem.cut.vars' lays the variable. In a bare row this is a premise. The card (YtbggklhnmkiamaaDoorCards.lean) ties it to the program's text. -/
def laid_peloton_rope_sines {H : Type} : DataW H := .agg [.lit (.int .i32 0), .lit (.int .i32 804), .lit (.int .i32 1606), .lit (.int .i32 2404), .lit (.int .i32 3196), .lit (.int .i32 3981), .lit (.int .i32 4756), .lit (.int .i32 5520), .lit (.int .i32 6270), .lit (.int .i32 7005), .lit (.int .i32 7723), .lit (.int .i32 8423), .lit (.int .i32 9102), .lit (.int .i32 9760), .lit (.int .i32 10394), .lit (.int .i32 11003), .lit (.int .i32 11585), .lit (.int .i32 12140), .lit (.int .i32 12665), .lit (.int .i32 13160), .lit (.int .i32 13623), .lit (.int .i32 14053), .lit (.int .i32 14449), .lit (.int .i32 14811), .lit (.int .i32 15137), .lit (.int .i32 15426), .lit (.int .i32 15679), .lit (.int .i32 15893), .lit (.int .i32 16069), .lit (.int .i32 16207), .lit (.int .i32 16305), .lit (.int .i32 16364), .lit (.int .i32 16384)]

/-- 'pelotonlaw06.RopeSines': WHATEVER THE INPUT: true; the input reads as it did. -/
def ropeSinesSpec : ChangeSpec := { name := "ropeSines", fn := fun _ => fun
  | [d1, d2, d3] => { results := [.lit (.bool true)], args := [d1, d2, d3] }
  | _ => none }
def ropeSinesRow : OpenClaim := { program := "ytbggklhnmkiamaadoor", sum := "13293e5192b8ba0468b03e0100f5a713452d996a05c3579d8fa00817e98de8ba", func := "peloton/pelotonlaw06.RopeSines", spec := "ropeSines", named := ["peloton/rope.sines"], plainKeys := false, apart := false, laid := [("peloton/rope.sines", laid_peloton_rope_sines)] }
def RopeSinesSaid : Prop := ropeSinesRow.holds Tryd.pinned (OpenSpec.ofChange ropeSinesSpec)

/-- ITS FALSE NEIGHBOUR: 'it returns false'. Refute it at one input. -/
def ropeSinesWrong : ChangeSpec := { name := "ropeSines", fn := fun _ => fun
  | [d1, d2, d3] => { results := [.lit (.bool false)], args := [d1, d2, d3] }
  | _ => none }
def RopeSinesWrongFalsely : Prop := ropeSinesRow.holds Tryd.pinned (OpenSpec.ofChange ropeSinesWrong)

/-- 'pelotonlaw06.RopeTurns': WHATEVER THE INPUT: true; the input reads as it did. -/
def ropeTurnsSpec : ChangeSpec := { name := "ropeTurns", fn := fun _ => fun
  | [d1, d2] => { results := [.lit (.bool true)], args := [d1, d2] }
  | _ => none }
def ropeTurnsRow : OpenClaim := { program := "ytbggklhnmkiamaadoor", sum := "13293e5192b8ba0468b03e0100f5a713452d996a05c3579d8fa00817e98de8ba", func := "peloton/pelotonlaw06.RopeTurns", spec := "ropeTurns", named := ["peloton/rope.sines"], plainKeys := false, apart := false, laid := [("peloton/rope.sines", laid_peloton_rope_sines)] }
def RopeTurnsSaid : Prop := ropeTurnsRow.holds Tryd.pinned (OpenSpec.ofChange ropeTurnsSpec)

/-- ITS FALSE NEIGHBOUR: 'it returns false'. Refute it at one input. -/
def ropeTurnsWrong : ChangeSpec := { name := "ropeTurns", fn := fun _ => fun
  | [d1, d2] => { results := [.lit (.bool false)], args := [d1, d2] }
  | _ => none }
def RopeTurnsWrongFalsely : Prop := ropeTurnsRow.holds Tryd.pinned (OpenSpec.ofChange ropeTurnsWrong)

/-- 'pelotonlaw06.RopeTables': WHATEVER THE INPUT: true; the input reads as it did. -/
def ropeTablesSpec : ChangeSpec := { name := "ropeTables", fn := fun _ => fun
  | [d1, d2] => { results := [.lit (.bool true)], args := [d1, d2] }
  | _ => none }
def ropeTablesRow : OpenClaim := { program := "ytbggklhnmkiamaadoor", sum := "13293e5192b8ba0468b03e0100f5a713452d996a05c3579d8fa00817e98de8ba", func := "peloton/pelotonlaw06.RopeTables", spec := "ropeTables", named := ["peloton/rope.sines"], plainKeys := false, apart := false, laid := [("peloton/rope.sines", laid_peloton_rope_sines)] }
def RopeTablesSaid : Prop := ropeTablesRow.holds Tryd.pinned (OpenSpec.ofChange ropeTablesSpec)

/-- ITS FALSE NEIGHBOUR: 'it returns false'. Refute it at one input. -/
def ropeTablesWrong : ChangeSpec := { name := "ropeTables", fn := fun _ => fun
  | [d1, d2] => { results := [.lit (.bool false)], args := [d1, d2] }
  | _ => none }
def RopeTablesWrongFalsely : Prop := ropeTablesRow.holds Tryd.pinned (OpenSpec.ofChange ropeTablesWrong)

/-- 'pelotonlaw06.RopeCircles': WHATEVER THE INPUT: true; the input reads as it did. -/
def ropeCirclesSpec : ChangeSpec := { name := "ropeCircles", fn := fun _ => fun
  | [d1, d2] => { results := [.lit (.bool true)], args := [d1, d2] }
  | _ => none }
def ropeCirclesRow : OpenClaim := { program := "ytbggklhnmkiamaadoor", sum := "13293e5192b8ba0468b03e0100f5a713452d996a05c3579d8fa00817e98de8ba", func := "peloton/pelotonlaw06.RopeCircles", spec := "ropeCircles", named := ["peloton/rope.sines"], plainKeys := false, apart := false, laid := [("peloton/rope.sines", laid_peloton_rope_sines)] }
def RopeCirclesSaid : Prop := ropeCirclesRow.holds Tryd.pinned (OpenSpec.ofChange ropeCirclesSpec)

/-- ITS FALSE NEIGHBOUR: 'it returns false'. Refute it at one input. -/
def ropeCirclesWrong : ChangeSpec := { name := "ropeCircles", fn := fun _ => fun
  | [d1, d2] => { results := [.lit (.bool false)], args := [d1, d2] }
  | _ => none }
def RopeCirclesWrongFalsely : Prop := ropeCirclesRow.holds Tryd.pinned (OpenSpec.ofChange ropeCirclesWrong)

/-- 'pelotonlaw06.RopeAdds': WHATEVER THE INPUT: true; the input reads as it did. -/
def ropeAddsSpec : ChangeSpec := { name := "ropeAdds", fn := fun _ => fun
  | [d1, d2, d3] => { results := [.lit (.bool true)], args := [d1, d2, d3] }
  | _ => none }
def ropeAddsRow : OpenClaim := { program := "ytbggklhnmkiamaadoor", sum := "13293e5192b8ba0468b03e0100f5a713452d996a05c3579d8fa00817e98de8ba", func := "peloton/pelotonlaw06.RopeAdds", spec := "ropeAdds", named := ["peloton/rope.sines"], plainKeys := false, apart := false, laid := [("peloton/rope.sines", laid_peloton_rope_sines)] }
def RopeAddsSaid : Prop := ropeAddsRow.holds Tryd.pinned (OpenSpec.ofChange ropeAddsSpec)

/-- ITS FALSE NEIGHBOUR: 'it returns false'. Refute it at one input. -/
def ropeAddsWrong : ChangeSpec := { name := "ropeAdds", fn := fun _ => fun
  | [d1, d2, d3] => { results := [.lit (.bool false)], args := [d1, d2, d3] }
  | _ => none }
def RopeAddsWrongFalsely : Prop := ropeAddsRow.holds Tryd.pinned (OpenSpec.ofChange ropeAddsWrong)

/- THE SECOND FORM. 'bulk': how many values and letters a reading holds, each counted each time it is reached (what is shared counts as often as it is met; a slice's spare places count too). A statement '..UptoSaid' is the law's where the arguments, and the package variables that the reading takes, are together of bulk at most 1048576: NARROWER than '..Said'. Prove '..Said' where nothing that the law and all that it calls make is longer than what came in: it says more and counts as full. Else prove '..UptoSaid'. A law counts once. -/
mutual
def uptoBulk {H : Type} : DataW H → Nat
  | .lit (.string bytes) => bytes.length + 1
  | .lit _ => 1
  | .nil => 1
  | .ptr d => uptoBulk d + 1
  | .slice elems spare => uptoBulkAll elems + uptoBulkAll spare + 1
  | .agg parts => uptoBulkAll parts + 1
  | .iface _ d => uptoBulk d + 1
  | .map entries => uptoBulkEntries entries + 1
  | .held _ => 1
def uptoBulkAll {H : Type} : List (DataW H) → Nat
  | [] => 0
  | d :: r => uptoBulk d + uptoBulkAll r
def uptoBulkEntries {H : Type} : List (Lit × DataW H) → Nat
  | [] => 0
  | x :: r => uptoBulkEntry x + uptoBulkEntries r
def uptoBulkEntry {H : Type} : Lit × DataW H → Nat
  | (.string bytes, d) => bytes.length + uptoBulk d + 1
  | (_, d) => uptoBulk d + 1
 end
def uptoSmall : (H : Type) → List (DataW H) → Bool := fun _ ds => decide (uptoBulkAll ds ≤ 1048576)
def OpenSpec.upto (s : _root_.Go.ChangeSpec) : _root_.Go.OpenSpec := { _root_.Go.OpenSpec.ofChange s with cond := some uptoSmall }

/-- 'pelotonlaw06.RopeSines', WHERE WHAT IT READS IS OF BULK AT MOST 1048576: true; the input reads as it did. -/
def ropeSinesUptoRow : OpenClaim := { program := "ytbggklhnmkiamaadoor", sum := "13293e5192b8ba0468b03e0100f5a713452d996a05c3579d8fa00817e98de8ba", func := "peloton/pelotonlaw06.RopeSines", spec := "ropeSines", named := ["peloton/rope.sines"], plainKeys := false, apart := false, laid := [("peloton/rope.sines", laid_peloton_rope_sines)], narrowed := true }
def RopeSinesUptoSaid : Prop := ropeSinesUptoRow.holds Tryd.pinned (OpenSpec.upto ropeSinesSpec)

/-- 'pelotonlaw06.RopeTurns', WHERE WHAT IT READS IS OF BULK AT MOST 1048576: true; the input reads as it did. -/
def ropeTurnsUptoRow : OpenClaim := { program := "ytbggklhnmkiamaadoor", sum := "13293e5192b8ba0468b03e0100f5a713452d996a05c3579d8fa00817e98de8ba", func := "peloton/pelotonlaw06.RopeTurns", spec := "ropeTurns", named := ["peloton/rope.sines"], plainKeys := false, apart := false, laid := [("peloton/rope.sines", laid_peloton_rope_sines)], narrowed := true }
def RopeTurnsUptoSaid : Prop := ropeTurnsUptoRow.holds Tryd.pinned (OpenSpec.upto ropeTurnsSpec)

/-- 'pelotonlaw06.RopeTables', WHERE WHAT IT READS IS OF BULK AT MOST 1048576: true; the input reads as it did. -/
def ropeTablesUptoRow : OpenClaim := { program := "ytbggklhnmkiamaadoor", sum := "13293e5192b8ba0468b03e0100f5a713452d996a05c3579d8fa00817e98de8ba", func := "peloton/pelotonlaw06.RopeTables", spec := "ropeTables", named := ["peloton/rope.sines"], plainKeys := false, apart := false, laid := [("peloton/rope.sines", laid_peloton_rope_sines)], narrowed := true }
def RopeTablesUptoSaid : Prop := ropeTablesUptoRow.holds Tryd.pinned (OpenSpec.upto ropeTablesSpec)

/-- 'pelotonlaw06.RopeCircles', WHERE WHAT IT READS IS OF BULK AT MOST 1048576: true; the input reads as it did. -/
def ropeCirclesUptoRow : OpenClaim := { program := "ytbggklhnmkiamaadoor", sum := "13293e5192b8ba0468b03e0100f5a713452d996a05c3579d8fa00817e98de8ba", func := "peloton/pelotonlaw06.RopeCircles", spec := "ropeCircles", named := ["peloton/rope.sines"], plainKeys := false, apart := false, laid := [("peloton/rope.sines", laid_peloton_rope_sines)], narrowed := true }
def RopeCirclesUptoSaid : Prop := ropeCirclesUptoRow.holds Tryd.pinned (OpenSpec.upto ropeCirclesSpec)

/-- 'pelotonlaw06.RopeAdds', WHERE WHAT IT READS IS OF BULK AT MOST 1048576: true; the input reads as it did. -/
def ropeAddsUptoRow : OpenClaim := { program := "ytbggklhnmkiamaadoor", sum := "13293e5192b8ba0468b03e0100f5a713452d996a05c3579d8fa00817e98de8ba", func := "peloton/pelotonlaw06.RopeAdds", spec := "ropeAdds", named := ["peloton/rope.sines"], plainKeys := false, apart := false, laid := [("peloton/rope.sines", laid_peloton_rope_sines)], narrowed := true }
def RopeAddsUptoSaid : Prop := ropeAddsUptoRow.holds Tryd.pinned (OpenSpec.upto ropeAddsSpec)

end Rows
end Go.Proofs.YtbggklhnmkiamaaDoor
