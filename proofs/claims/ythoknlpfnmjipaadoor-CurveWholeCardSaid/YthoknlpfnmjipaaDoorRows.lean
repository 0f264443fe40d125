/-
  NARROWER THAN 'FOR EVERY INPUT', by the rows' own cells (each row's printed sentence says how): CurveExps: laid · CurveRoots: laid · CurveShares: laid · CurveFalls: laid · CurveWhole: laid · CurveNear: laid · CurveParts: laid.
  DERIVED. THE GIVEN ROWS OF THIS SEAT. 7 by the template 'for every input the law returns true; each argument reads behind the call as it read before'; 0 by the template 'total and deterministic' (their statements: YthoknlpfnmjipaaDoorTotals.lean).
  GIVEN WITH THE SEED: the statements are not yours to turn. If you find one false, say at which input.
  Laid BY PROGRAM, IN A SANDBOX (cutbox-rows.mjs): the forced cells as the released guide's own fill.sh prints them over the translation 02246931b02311c5… (all of the seat's roots in one cut). By AI agents, Wed Nov 11 2026. No macro, syntax, notation, axiom, sorry.
-/
import Derived.Test.YthoknlpfnmjipaaDoorChecked
import GoSem.Claim
import GoSem.ClaimJoined
import GoSem.ClaimMapViews
import Derived.JoinedTies
import Derived.KernelRfl
namespace Go.Proofs.YthoknlpfnmjipaaDoor
/- THE CELL 'sum', in the pinned program and in every row, IS THE sha256 OF THE DUMP (.gsa) THAT YthoknlpfnmjipaaDoorProg.lean LOADS. Nothing in Lean hashes anything: it is a label: what it is worth is what the hold of that sum in a sandbox is worth. -/
noncomputable def Tryd.pinned : Pinned := { name := "ythoknlpfnmjipaadoor", sum := "02246931b02311c55a6b3b64525e9a85d8e03ee1a2d6bc71da3a8f5ca12e35fa", checked := Tryd.checked }
namespace Rows
def none {H : Type} : Left H := { results := [], args := [] }

/- WHAT THE LISTED PACKAGE-LEVEL VARIABLES READ AS WHEN THE CALL BEGINS. Each datum BY PROGRAM (the guide's laid-datum.mjs) off the statement by which the dump's own 'gosem.cut.vars' lays the variable. In a bare row this is a premise. The card (YthoknlpfnmjipaaDoorCards.lean) ties it to the program's text. -/
def laid_peloton_curve_powers {H : Type} : DataW H := .agg [.lit (.int .i64 65536), .lit (.int .i64 64132), .lit (.int .i64 62757), .lit (.int .i64 61413), .lit (.int .i64 60097), .lit (.int .i64 58809), .lit (.int .i64 57549), .lit (.int .i64 56316), .lit (.int .i64 55109), .lit (.int .i64 53928), .lit (.int .i64 52773), .lit (.int .i64 51642), .lit (.int .i64 50535), .lit (.int .i64 49452), .lit (.int .i64 48393), .lit (.int .i64 47356), .lit (.int .i64 46341), .lit (.int .i64 45348), .lit (.int .i64 44376), .lit (.int .i64 43425), .lit (.int .i64 42495), .lit (.int .i64 41584), .lit (.int .i64 40693), .lit (.int .i64 39821), .lit (.int .i64 38968), .lit (.int .i64 38133), .lit (.int .i64 37316), .lit (.int .i64 36516), .lit (.int .i64 35734), .lit (.int .i64 34968), .lit (.int .i64 34219), .lit (.int .i64 33486), .lit (.int .i64 32768)]

/-- 'pelotonlaw02.CurveExps': WHATEVER THE INPUT: true; the input reads as it did. -/
def curveExpsSpec : ChangeSpec := { name := "curveExps", fn := fun _ => fun
  | [d] => { results := [.lit (.bool true)], args := [d] }
  | _ => none }
def curveExpsRow : OpenClaim := { program := "ythoknlpfnmjipaadoor", sum := "02246931b02311c55a6b3b64525e9a85d8e03ee1a2d6bc71da3a8f5ca12e35fa", func := "peloton/pelotonlaw02.CurveExps", spec := "curveExps", named := ["peloton/curve.powers"], apart := false, laid := [("peloton/curve.powers", laid_peloton_curve_powers)] }
def CurveExpsSaid : Prop := curveExpsRow.holds Tryd.pinned (OpenSpec.ofChange curveExpsSpec)

/-- ITS FALSE NEIGHBOUR: 'it returns false'. Refute it at one input. -/
def curveExpsWrong : ChangeSpec := { name := "curveExps", fn := fun _ => fun
  | [d] => { results := [.lit (.bool false)], args := [d] }
  | _ => none }
def CurveExpsWrongFalsely : Prop := curveExpsRow.holds Tryd.pinned (OpenSpec.ofChange curveExpsWrong)

/-- 'pelotonlaw02.CurveRoots': WHATEVER THE INPUT: true; the input reads as it did. -/
def curveRootsSpec : ChangeSpec := { name := "curveRoots", fn := fun _ => fun
  | [d] => { results := [.lit (.bool true)], args := [d] }
  | _ => none }
def curveRootsRow : OpenClaim := { program := "ythoknlpfnmjipaadoor", sum := "02246931b02311c55a6b3b64525e9a85d8e03ee1a2d6bc71da3a8f5ca12e35fa", func := "peloton/pelotonlaw02.CurveRoots", spec := "curveRoots", named := ["peloton/curve.powers"], apart := false, laid := [("peloton/curve.powers", laid_peloton_curve_powers)] }
def CurveRootsSaid : Prop := curveRootsRow.holds Tryd.pinned (OpenSpec.ofChange curveRootsSpec)

/-- ITS FALSE NEIGHBOUR: 'it returns false'. Refute it at one input. -/
def curveRootsWrong : ChangeSpec := { name := "curveRoots", fn := fun _ => fun
  | [d] => { results := [.lit (.bool false)], args := [d] }
  | _ => none }
def CurveRootsWrongFalsely : Prop := curveRootsRow.holds Tryd.pinned (OpenSpec.ofChange curveRootsWrong)

/-- 'pelotonlaw02.CurveShares': WHATEVER THE INPUT: true; the input reads as it did. -/
def curveSharesSpec : ChangeSpec := { name := "curveShares", fn := fun _ => fun
  | [d1, d2] => { results := [.lit (.bool true)], args := [d1, d2] }
  | _ => none }
def curveSharesRow : OpenClaim := { program := "ythoknlpfnmjipaadoor", sum := "02246931b02311c55a6b3b64525e9a85d8e03ee1a2d6bc71da3a8f5ca12e35fa", func := "peloton/pelotonlaw02.CurveShares", spec := "curveShares", named := ["peloton/curve.powers"], apart := false, laid := [("peloton/curve.powers", laid_peloton_curve_powers)] }
def CurveSharesSaid : Prop := curveSharesRow.holds Tryd.pinned (OpenSpec.ofChange curveSharesSpec)

/-- ITS FALSE NEIGHBOUR: 'it returns false'. Refute it at one input. -/
def curveSharesWrong : ChangeSpec := { name := "curveShares", fn := fun _ => fun
  | [d1, d2] => { results := [.lit (.bool false)], args := [d1, d2] }
  | _ => none }
def CurveSharesWrongFalsely : Prop := curveSharesRow.holds Tryd.pinned (OpenSpec.ofChange curveSharesWrong)

/-- 'pelotonlaw02.CurveFalls': WHATEVER THE INPUT: true; the input reads as it did. -/
def curveFallsSpec : ChangeSpec := { name := "curveFalls", fn := fun _ => fun
  | [d1, d2, d3] => { results := [.lit (.bool true)], args := [d1, d2, d3] }
  | _ => none }
def curveFallsRow : OpenClaim := { program := "ythoknlpfnmjipaadoor", sum := "02246931b02311c55a6b3b64525e9a85d8e03ee1a2d6bc71da3a8f5ca12e35fa", func := "peloton/pelotonlaw02.CurveFalls", spec := "curveFalls", named := ["peloton/curve.powers"], apart := false, laid := [("peloton/curve.powers", laid_peloton_curve_powers)] }
def CurveFallsSaid : Prop := curveFallsRow.holds Tryd.pinned (OpenSpec.ofChange curveFallsSpec)

/-- ITS FALSE NEIGHBOUR: 'it returns false'. Refute it at one input. -/
def curveFallsWrong : ChangeSpec := { name := "curveFalls", fn := fun _ => fun
  | [d1, d2, d3] => { results := [.lit (.bool false)], args := [d1, d2, d3] }
  | _ => none }
def CurveFallsWrongFalsely : Prop := curveFallsRow.holds Tryd.pinned (OpenSpec.ofChange curveFallsWrong)

/-- 'pelotonlaw02.CurveWhole': WHATEVER THE INPUT: true; the input reads as it did. -/
def curveWholeSpec : ChangeSpec := { name := "curveWhole", fn := fun _ => fun
  | [d1, d2] => { results := [.lit (.bool true)], args := [d1, d2] }
  | _ => none }
def curveWholeRow : OpenClaim := { program := "ythoknlpfnmjipaadoor", sum := "02246931b02311c55a6b3b64525e9a85d8e03ee1a2d6bc71da3a8f5ca12e35fa", func := "peloton/pelotonlaw02.CurveWhole", spec := "curveWhole", named := ["peloton/curve.powers"], apart := false, laid := [("peloton/curve.powers", laid_peloton_curve_powers)] }
def CurveWholeSaid : Prop := curveWholeRow.holds Tryd.pinned (OpenSpec.ofChange curveWholeSpec)

/-- ITS FALSE NEIGHBOUR: 'it returns false'. Refute it at one input. -/
def curveWholeWrong : ChangeSpec := { name := "curveWhole", fn := fun _ => fun
  | [d1, d2] => { results := [.lit (.bool false)], args := [d1, d2] }
  | _ => none }
def CurveWholeWrongFalsely : Prop := curveWholeRow.holds Tryd.pinned (OpenSpec.ofChange curveWholeWrong)

/-- 'pelotonlaw02.CurveNear': WHATEVER THE INPUT: true; the input reads as it did. -/
def curveNearSpec : ChangeSpec := { name := "curveNear", fn := fun _ => fun
  | [d] => { results := [.lit (.bool true)], args := [d] }
  | _ => none }
def curveNearRow : OpenClaim := { program := "ythoknlpfnmjipaadoor", sum := "02246931b02311c55a6b3b64525e9a85d8e03ee1a2d6bc71da3a8f5ca12e35fa", func := "peloton/pelotonlaw02.CurveNear", spec := "curveNear", named := ["peloton/curve.powers"], apart := false, laid := [("peloton/curve.powers", laid_peloton_curve_powers)] }
def CurveNearSaid : Prop := curveNearRow.holds Tryd.pinned (OpenSpec.ofChange curveNearSpec)

/-- ITS FALSE NEIGHBOUR: 'it returns false'. Refute it at one input. -/
def curveNearWrong : ChangeSpec := { name := "curveNear", fn := fun _ => fun
  | [d] => { results := [.lit (.bool false)], args := [d] }
  | _ => none }
def CurveNearWrongFalsely : Prop := curveNearRow.holds Tryd.pinned (OpenSpec.ofChange curveNearWrong)

/-- 'pelotonlaw02.CurveParts': WHATEVER THE INPUT: true; the input reads as it did. -/
def curvePartsSpec : ChangeSpec := { name := "curveParts", fn := fun _ => fun
  | [d1, d2, d3] => { results := [.lit (.bool true)], args := [d1, d2, d3] }
  | _ => none }
def curvePartsRow : OpenClaim := { program := "ythoknlpfnmjipaadoor", sum := "02246931b02311c55a6b3b64525e9a85d8e03ee1a2d6bc71da3a8f5ca12e35fa", func := "peloton/pelotonlaw02.CurveParts", spec := "curveParts", named := ["peloton/curve.powers"], apart := false, laid := [("peloton/curve.powers", laid_peloton_curve_powers)] }
def CurvePartsSaid : Prop := curvePartsRow.holds Tryd.pinned (OpenSpec.ofChange curvePartsSpec)

/-- ITS FALSE NEIGHBOUR: 'it returns false'. Refute it at one input. -/
def curvePartsWrong : ChangeSpec := { name := "curveParts", fn := fun _ => fun
  | [d1, d2, d3] => { results := [.lit (.bool false)], args := [d1, d2, d3] }
  | _ => none }
def CurvePartsWrongFalsely : Prop := curvePartsRow.holds Tryd.pinned (OpenSpec.ofChange curvePartsWrong)

/- THE SECOND FORM. 'bulk': how many values and letters a reading holds, each counted each time it is reached (what is shared counts as often as it is met; a slice's spare places count too). A statement '..UptoSaid' is the law's where the arguments, and the package variables that the reading takes, are together of bulk at most 1048576: NARROWER than '..Said'. Prove '..Said' where nothing that the law and all that it calls make is longer than what came in: it says more and counts as full. Else prove '..UptoSaid'. A law counts once. -/
mutual
def uptoBulk {H : Type} : DataW H → Nat
  | .lit (.string bytes) => bytes.length + 1
  | .lit _ => 1
  | .nil => 1
  | .ptr d => uptoBulk d + 1
  | .slice elems spare => uptoBulkAll elems + uptoBulkAll spare + 1
  | .agg parts => uptoBulkAll parts + 1
  | .iface _ d => uptoBulk d + 1
  | .map entries => uptoBulkEntries entries + 1
  | .held _ => 1
def uptoBulkAll {H : Type} : List (DataW H) → Nat
  | [] => 0
  | d :: r => uptoBulk d + uptoBulkAll r
def uptoBulkEntries {H : Type} : List (Lit × DataW H) → Nat
  | [] => 0
  | x :: r => uptoBulkEntry x + uptoBulkEntries r
def uptoBulkEntry {H : Type} : Lit × DataW H → Nat
  | (.string bytes, d) => bytes.length + uptoBulk d + 1
  | (_, d) => uptoBulk d + 1
 end
def uptoSmall : (H : Type) → List (DataW H) → Bool := fun _ ds => decide (uptoBulkAll ds ≤ 1048576)
def OpenSpec.upto (s : _root_.Go.ChangeSpec) : _root_.Go.OpenSpec := { _root_.Go.OpenSpec.ofChange s with cond := some uptoSmall }

/-- 'pelotonlaw02.CurveExps', WHERE WHAT IT READS IS OF BULK AT MOST 1048576: true; the input reads as it did. -/
def curveExpsUptoRow : OpenClaim := { program := "ythoknlpfnmjipaadoor", sum := "02246931b02311c55a6b3b64525e9a85d8e03ee1a2d6bc71da3a8f5ca12e35fa", func := "peloton/pelotonlaw02.CurveExps", spec := "curveExps", named := ["peloton/curve.powers"], apart := false, laid := [("peloton/curve.powers", laid_peloton_curve_powers)], narrowed := true }
def CurveExpsUptoSaid : Prop := curveExpsUptoRow.holds Tryd.pinned (OpenSpec.upto curveExpsSpec)

/-- 'pelotonlaw02.CurveRoots', WHERE WHAT IT READS IS OF BULK AT MOST 1048576: true; the input reads as it did. -/
def curveRootsUptoRow : OpenClaim := { program := "ythoknlpfnmjipaadoor", sum := "02246931b02311c55a6b3b64525e9a85d8e03ee1a2d6bc71da3a8f5ca12e35fa", func := "peloton/pelotonlaw02.CurveRoots", spec := "curveRoots", named := ["peloton/curve.powers"], apart := false, laid := [("peloton/curve.powers", laid_peloton_curve_powers)], narrowed := true }
def CurveRootsUptoSaid : Prop := curveRootsUptoRow.holds Tryd.pinned (OpenSpec.upto curveRootsSpec)

/-- 'pelotonlaw02.CurveShares', WHERE WHAT IT READS IS OF BULK AT MOST 1048576: true; the input reads as it did. -/
def curveSharesUptoRow : OpenClaim := { program := "ythoknlpfnmjipaadoor", sum := "02246931b02311c55a6b3b64525e9a85d8e03ee1a2d6bc71da3a8f5ca12e35fa", func := "peloton/pelotonlaw02.CurveShares", spec := "curveShares", named := ["peloton/curve.powers"], apart := false, laid := [("peloton/curve.powers", laid_peloton_curve_powers)], narrowed := true }
def CurveSharesUptoSaid : Prop := curveSharesUptoRow.holds Tryd.pinned (OpenSpec.upto curveSharesSpec)

/-- 'pelotonlaw02.CurveFalls', WHERE WHAT IT READS IS OF BULK AT MOST 1048576: true; the input reads as it did. -/
def curveFallsUptoRow : OpenClaim := { program := "ythoknlpfnmjipaadoor", sum := "02246931b02311c55a6b3b64525e9a85d8e03ee1a2d6bc71da3a8f5ca12e35fa", func := "peloton/pelotonlaw02.CurveFalls", spec := "curveFalls", named := ["peloton/curve.powers"], apart := false, laid := [("peloton/curve.powers", laid_peloton_curve_powers)], narrowed := true }
def CurveFallsUptoSaid : Prop := curveFallsUptoRow.holds Tryd.pinned (OpenSpec.upto curveFallsSpec)

/-- 'pelotonlaw02.CurveWhole', WHERE WHAT IT READS IS OF BULK AT MOST 1048576: true; the input reads as it did. -/
def curveWholeUptoRow : OpenClaim := { program := "ythoknlpfnmjipaadoor", sum := "02246931b02311c55a6b3b64525e9a85d8e03ee1a2d6bc71da3a8f5ca12e35fa", func := "peloton/pelotonlaw02.CurveWhole", spec := "curveWhole", named := ["peloton/curve.powers"], apart := false, laid := [("peloton/curve.powers", laid_peloton_curve_powers)], narrowed := true }
def CurveWholeUptoSaid : Prop := curveWholeUptoRow.holds Tryd.pinned (OpenSpec.upto curveWholeSpec)

/-- 'pelotonlaw02.CurveNear', WHERE WHAT IT READS IS OF BULK AT MOST 1048576: true; the input reads as it did. -/
def curveNearUptoRow : OpenClaim := { program := "ythoknlpfnmjipaadoor", sum := "02246931b02311c55a6b3b64525e9a85d8e03ee1a2d6bc71da3a8f5ca12e35fa", func := "peloton/pelotonlaw02.CurveNear", spec := "curveNear", named := ["peloton/curve.powers"], apart := false, laid := [("peloton/curve.powers", laid_peloton_curve_powers)], narrowed := true }
def CurveNearUptoSaid : Prop := curveNearUptoRow.holds Tryd.pinned (OpenSpec.upto curveNearSpec)

/-- 'pelotonlaw02.CurveParts', WHERE WHAT IT READS IS OF BULK AT MOST 1048576: true; the input reads as it did. -/
def curvePartsUptoRow : OpenClaim := { program := "ythoknlpfnmjipaadoor", sum := "02246931b02311c55a6b3b64525e9a85d8e03ee1a2d6bc71da3a8f5ca12e35fa", func := "peloton/pelotonlaw02.CurveParts", spec := "curveParts", named := ["peloton/curve.powers"], apart := false, laid := [("peloton/curve.powers", laid_peloton_curve_powers)], narrowed := true }
def CurvePartsUptoSaid : Prop := curvePartsUptoRow.holds Tryd.pinned (OpenSpec.upto curvePartsSpec)

end Rows
end Go.Proofs.YthoknlpfnmjipaaDoor
