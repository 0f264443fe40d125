/-
  NARROWER THAN 'FOR EVERY INPUT', by the rows' own cells (each row's printed sentence says how): NormNorms: laid · NormWeights: laid · NormMixes: laid · NormOrders: laid · NormSame: laid · NormShifts: laid · NormSigns: laid.
  DERIVED. THE GIVEN ROWS OF THIS SEAT. 7 by the template 'for every input the law returns true; each argument reads behind the call as it read before'; 0 by the template 'total and deterministic' (their statements: YthblniakghfchaaDoorTotals.lean).
  GIVEN WITH THE SEED: the statements are not yours to turn. If you find one false, say at which input.
  Laid BY PROGRAM, IN A SANDBOX (cutbox-rows.mjs): the forced cells as the released guide's own fill.sh prints them over the translation 1623427e85a53dd3… (all of the seat's roots in one cut). By AI agents, Wed Nov 11 2026. No macro, syntax, notation, axiom, sorry.
-/
import Derived.Test.YthblniakghfchaaDoorChecked
import GoSem.Claim
import GoSem.ClaimJoined
import GoSem.ClaimMapViews
import Derived.JoinedTies
import Derived.KernelRfl
namespace Go.Proofs.YthblniakghfchaaDoor
/- THE CELL 'sum', in the pinned program and in every row, IS THE sha256 OF THE DUMP (.gsa) THAT YthblniakghfchaaDoorProg.lean LOADS. Nothing in Lean hashes anything: it is a label: what it is worth is what the hold of that sum in a sandbox is worth. -/
noncomputable def Tryd.pinned : Pinned := { name := "ythblniakghfchaadoor", sum := "1623427e85a53dd309286724b0a1a113e9265f1f483366f7be3d5c9477bf6c4f", checked := Tryd.checked }
namespace Rows
def none {H : Type} : Left H := { results := [], args := [] }

/- WHAT THE LISTED PACKAGE-LEVEL VARIABLES READ AS WHEN THE CALL BEGINS. Each datum BY PROGRAM (the guide's laid-datum.mjs) off the statement by which the dump's own 'gosem.cut.vars' lays the variable. In a bare row this is a premise. The card (YthblniakghfchaaDoorCards.lean) ties it to the program's text. -/
def laid_peloton_curve_powers {H : Type} : DataW H := .agg [.lit (.int .i64 65536), .lit (.int .i64 64132), .lit (.int .i64 62757), .lit (.int .i64 61413), .lit (.int .i64 60097), .lit (.int .i64 58809), .lit (.int .i64 57549), .lit (.int .i64 56316), .lit (.int .i64 55109), .lit (.int .i64 53928), .lit (.int .i64 52773), .lit (.int .i64 51642), .lit (.int .i64 50535), .lit (.int .i64 49452), .lit (.int .i64 48393), .lit (.int .i64 47356), .lit (.int .i64 46341), .lit (.int .i64 45348), .lit (.int .i64 44376), .lit (.int .i64 43425), .lit (.int .i64 42495), .lit (.int .i64 41584), .lit (.int .i64 40693), .lit (.int .i64 39821), .lit (.int .i64 38968), .lit (.int .i64 38133), .lit (.int .i64 37316), .lit (.int .i64 36516), .lit (.int .i64 35734), .lit (.int .i64 34968), .lit (.int .i64 34219), .lit (.int .i64 33486), .lit (.int .i64 32768)]

/-- 'pelotonlaw05.NormNorms': WHATEVER THE INPUT: true; the input reads as it did. -/
def normNormsSpec : ChangeSpec := { name := "normNorms", fn := fun _ => fun
  | [d1, d2] => { results := [.lit (.bool true)], args := [d1, d2] }
  | _ => none }
def normNormsRow : OpenClaim := { program := "ythblniakghfchaadoor", sum := "1623427e85a53dd309286724b0a1a113e9265f1f483366f7be3d5c9477bf6c4f", func := "peloton/pelotonlaw05.NormNorms", spec := "normNorms", named := ["peloton/curve.powers"], apart := false, laid := [("peloton/curve.powers", laid_peloton_curve_powers)] }
def NormNormsSaid : Prop := normNormsRow.holds Tryd.pinned (OpenSpec.ofChange normNormsSpec)

/-- ITS FALSE NEIGHBOUR: 'it returns false'. Refute it at one input. -/
def normNormsWrong : ChangeSpec := { name := "normNorms", fn := fun _ => fun
  | [d1, d2] => { results := [.lit (.bool false)], args := [d1, d2] }
  | _ => none }
def NormNormsWrongFalsely : Prop := normNormsRow.holds Tryd.pinned (OpenSpec.ofChange normNormsWrong)

/-- 'pelotonlaw05.NormWeights': WHATEVER THE INPUT: true; the input reads as it did. -/
def normWeightsSpec : ChangeSpec := { name := "normWeights", fn := fun _ => fun
  | [d1, d2, d3] => { results := [.lit (.bool true)], args := [d1, d2, d3] }
  | _ => none }
def normWeightsRow : OpenClaim := { program := "ythblniakghfchaadoor", sum := "1623427e85a53dd309286724b0a1a113e9265f1f483366f7be3d5c9477bf6c4f", func := "peloton/pelotonlaw05.NormWeights", spec := "normWeights", named := ["peloton/curve.powers"], apart := false, laid := [("peloton/curve.powers", laid_peloton_curve_powers)] }
def NormWeightsSaid : Prop := normWeightsRow.holds Tryd.pinned (OpenSpec.ofChange normWeightsSpec)

/-- ITS FALSE NEIGHBOUR: 'it returns false'. Refute it at one input. -/
def normWeightsWrong : ChangeSpec := { name := "normWeights", fn := fun _ => fun
  | [d1, d2, d3] => { results := [.lit (.bool false)], args := [d1, d2, d3] }
  | _ => none }
def NormWeightsWrongFalsely : Prop := normWeightsRow.holds Tryd.pinned (OpenSpec.ofChange normWeightsWrong)

/-- 'pelotonlaw05.NormMixes': WHATEVER THE INPUT: true; the input reads as it did. -/
def normMixesSpec : ChangeSpec := { name := "normMixes", fn := fun _ => fun
  | [d1, d2, d3] => { results := [.lit (.bool true)], args := [d1, d2, d3] }
  | _ => none }
def normMixesRow : OpenClaim := { program := "ythblniakghfchaadoor", sum := "1623427e85a53dd309286724b0a1a113e9265f1f483366f7be3d5c9477bf6c4f", func := "peloton/pelotonlaw05.NormMixes", spec := "normMixes", named := ["peloton/curve.powers"], apart := false, laid := [("peloton/curve.powers", laid_peloton_curve_powers)] }
def NormMixesSaid : Prop := normMixesRow.holds Tryd.pinned (OpenSpec.ofChange normMixesSpec)

/-- ITS FALSE NEIGHBOUR: 'it returns false'. Refute it at one input. -/
def normMixesWrong : ChangeSpec := { name := "normMixes", fn := fun _ => fun
  | [d1, d2, d3] => { results := [.lit (.bool false)], args := [d1, d2, d3] }
  | _ => none }
def NormMixesWrongFalsely : Prop := normMixesRow.holds Tryd.pinned (OpenSpec.ofChange normMixesWrong)

/-- 'pelotonlaw05.NormOrders': WHATEVER THE INPUT: true; the input reads as it did. -/
def normOrdersSpec : ChangeSpec := { name := "normOrders", fn := fun _ => fun
  | [d1, d2, d3] => { results := [.lit (.bool true)], args := [d1, d2, d3] }
  | _ => none }
def normOrdersRow : OpenClaim := { program := "ythblniakghfchaadoor", sum := "1623427e85a53dd309286724b0a1a113e9265f1f483366f7be3d5c9477bf6c4f", func := "peloton/pelotonlaw05.NormOrders", spec := "normOrders", named := ["peloton/curve.powers"], apart := false, laid := [("peloton/curve.powers", laid_peloton_curve_powers)] }
def NormOrdersSaid : Prop := normOrdersRow.holds Tryd.pinned (OpenSpec.ofChange normOrdersSpec)

/-- ITS FALSE NEIGHBOUR: 'it returns false'. Refute it at one input. -/
def normOrdersWrong : ChangeSpec := { name := "normOrders", fn := fun _ => fun
  | [d1, d2, d3] => { results := [.lit (.bool false)], args := [d1, d2, d3] }
  | _ => none }
def NormOrdersWrongFalsely : Prop := normOrdersRow.holds Tryd.pinned (OpenSpec.ofChange normOrdersWrong)

/-- 'pelotonlaw05.NormSame': WHATEVER THE INPUT: true; the input reads as it did. -/
def normSameSpec : ChangeSpec := { name := "normSame", fn := fun _ => fun
  | [d1, d2, d3] => { results := [.lit (.bool true)], args := [d1, d2, d3] }
  | _ => none }
def normSameRow : OpenClaim := { program := "ythblniakghfchaadoor", sum := "1623427e85a53dd309286724b0a1a113e9265f1f483366f7be3d5c9477bf6c4f", func := "peloton/pelotonlaw05.NormSame", spec := "normSame", named := ["peloton/curve.powers"], apart := false, laid := [("peloton/curve.powers", laid_peloton_curve_powers)] }
def NormSameSaid : Prop := normSameRow.holds Tryd.pinned (OpenSpec.ofChange normSameSpec)

/-- ITS FALSE NEIGHBOUR: 'it returns false'. Refute it at one input. -/
def normSameWrong : ChangeSpec := { name := "normSame", fn := fun _ => fun
  | [d1, d2, d3] => { results := [.lit (.bool false)], args := [d1, d2, d3] }
  | _ => none }
def NormSameWrongFalsely : Prop := normSameRow.holds Tryd.pinned (OpenSpec.ofChange normSameWrong)

/-- 'pelotonlaw05.NormShifts': WHATEVER THE INPUT: true; the input reads as it did. -/
def normShiftsSpec : ChangeSpec := { name := "normShifts", fn := fun _ => fun
  | [d1, d2, d3] => { results := [.lit (.bool true)], args := [d1, d2, d3] }
  | _ => none }
def normShiftsRow : OpenClaim := { program := "ythblniakghfchaadoor", sum := "1623427e85a53dd309286724b0a1a113e9265f1f483366f7be3d5c9477bf6c4f", func := "peloton/pelotonlaw05.NormShifts", spec := "normShifts", named := ["peloton/curve.powers"], apart := false, laid := [("peloton/curve.powers", laid_peloton_curve_powers)] }
def NormShiftsSaid : Prop := normShiftsRow.holds Tryd.pinned (OpenSpec.ofChange normShiftsSpec)

/-- ITS FALSE NEIGHBOUR: 'it returns false'. Refute it at one input. -/
def normShiftsWrong : ChangeSpec := { name := "normShifts", fn := fun _ => fun
  | [d1, d2, d3] => { results := [.lit (.bool false)], args := [d1, d2, d3] }
  | _ => none }
def NormShiftsWrongFalsely : Prop := normShiftsRow.holds Tryd.pinned (OpenSpec.ofChange normShiftsWrong)

/-- 'pelotonlaw05.NormSigns': WHATEVER THE INPUT: true; the input reads as it did. -/
def normSignsSpec : ChangeSpec := { name := "normSigns", fn := fun _ => fun
  | [d1, d2] => { results := [.lit (.bool true)], args := [d1, d2] }
  | _ => none }
def normSignsRow : OpenClaim := { program := "ythblniakghfchaadoor", sum := "1623427e85a53dd309286724b0a1a113e9265f1f483366f7be3d5c9477bf6c4f", func := "peloton/pelotonlaw05.NormSigns", spec := "normSigns", named := ["peloton/curve.powers"], apart := false, laid := [("peloton/curve.powers", laid_peloton_curve_powers)] }
def NormSignsSaid : Prop := normSignsRow.holds Tryd.pinned (OpenSpec.ofChange normSignsSpec)

/-- ITS FALSE NEIGHBOUR: 'it returns false'. Refute it at one input. -/
def normSignsWrong : ChangeSpec := { name := "normSigns", fn := fun _ => fun
  | [d1, d2] => { results := [.lit (.bool false)], args := [d1, d2] }
  | _ => none }
def NormSignsWrongFalsely : Prop := normSignsRow.holds Tryd.pinned (OpenSpec.ofChange normSignsWrong)

/- THE SECOND FORM. 'bulk': how many values and letters a reading holds, each counted each time it is reached (what is shared counts as often as it is met; a slice's spare places count too). A statement '..UptoSaid' is the law's where the arguments, and the package variables that the reading takes, are together of bulk at most 1048576: NARROWER than '..Said'. Prove '..Said' where nothing that the law and all that it calls make is longer than what came in: it says more and counts as full. Else prove '..UptoSaid'. A law counts once. -/
mutual
def uptoBulk {H : Type} : DataW H → Nat
  | .lit (.string bytes) => bytes.length + 1
  | .lit _ => 1
  | .nil => 1
  | .ptr d => uptoBulk d + 1
  | .slice elems spare => uptoBulkAll elems + uptoBulkAll spare + 1
  | .agg parts => uptoBulkAll parts + 1
  | .iface _ d => uptoBulk d + 1
  | .map entries => uptoBulkEntries entries + 1
  | .held _ => 1
def uptoBulkAll {H : Type} : List (DataW H) → Nat
  | [] => 0
  | d :: r => uptoBulk d + uptoBulkAll r
def uptoBulkEntries {H : Type} : List (Lit × DataW H) → Nat
  | [] => 0
  | x :: r => uptoBulkEntry x + uptoBulkEntries r
def uptoBulkEntry {H : Type} : Lit × DataW H → Nat
  | (.string bytes, d) => bytes.length + uptoBulk d + 1
  | (_, d) => uptoBulk d + 1
 end
def uptoSmall : (H : Type) → List (DataW H) → Bool := fun _ ds => decide (uptoBulkAll ds ≤ 1048576)
def OpenSpec.upto (s : _root_.Go.ChangeSpec) : _root_.Go.OpenSpec := { _root_.Go.OpenSpec.ofChange s with cond := some uptoSmall }

/-- 'pelotonlaw05.NormNorms', WHERE WHAT IT READS IS OF BULK AT MOST 1048576: true; the input reads as it did. -/
def normNormsUptoRow : OpenClaim := { program := "ythblniakghfchaadoor", sum := "1623427e85a53dd309286724b0a1a113e9265f1f483366f7be3d5c9477bf6c4f", func := "peloton/pelotonlaw05.NormNorms", spec := "normNorms", named := ["peloton/curve.powers"], apart := false, laid := [("peloton/curve.powers", laid_peloton_curve_powers)], narrowed := true }
def NormNormsUptoSaid : Prop := normNormsUptoRow.holds Tryd.pinned (OpenSpec.upto normNormsSpec)

/-- 'pelotonlaw05.NormWeights', WHERE WHAT IT READS IS OF BULK AT MOST 1048576: true; the input reads as it did. -/
def normWeightsUptoRow : OpenClaim := { program := "ythblniakghfchaadoor", sum := "1623427e85a53dd309286724b0a1a113e9265f1f483366f7be3d5c9477bf6c4f", func := "peloton/pelotonlaw05.NormWeights", spec := "normWeights", named := ["peloton/curve.powers"], apart := false, laid := [("peloton/curve.powers", laid_peloton_curve_powers)], narrowed := true }
def NormWeightsUptoSaid : Prop := normWeightsUptoRow.holds Tryd.pinned (OpenSpec.upto normWeightsSpec)

/-- 'pelotonlaw05.NormMixes', WHERE WHAT IT READS IS OF BULK AT MOST 1048576: true; the input reads as it did. -/
def normMixesUptoRow : OpenClaim := { program := "ythblniakghfchaadoor", sum := "1623427e85a53dd309286724b0a1a113e9265f1f483366f7be3d5c9477bf6c4f", func := "peloton/pelotonlaw05.NormMixes", spec := "normMixes", named := ["peloton/curve.powers"], apart := false, laid := [("peloton/curve.powers", laid_peloton_curve_powers)], narrowed := true }
def NormMixesUptoSaid : Prop := normMixesUptoRow.holds Tryd.pinned (OpenSpec.upto normMixesSpec)

/-- 'pelotonlaw05.NormOrders', WHERE WHAT IT READS IS OF BULK AT MOST 1048576: true; the input reads as it did. -/
def normOrdersUptoRow : OpenClaim := { program := "ythblniakghfchaadoor", sum := "1623427e85a53dd309286724b0a1a113e9265f1f483366f7be3d5c9477bf6c4f", func := "peloton/pelotonlaw05.NormOrders", spec := "normOrders", named := ["peloton/curve.powers"], apart := false, laid := [("peloton/curve.powers", laid_peloton_curve_powers)], narrowed := true }
def NormOrdersUptoSaid : Prop := normOrdersUptoRow.holds Tryd.pinned (OpenSpec.upto normOrdersSpec)

/-- 'pelotonlaw05.NormSame', WHERE WHAT IT READS IS OF BULK AT MOST 1048576: true; the input reads as it did. -/
def normSameUptoRow : OpenClaim := { program := "ythblniakghfchaadoor", sum := "1623427e85a53dd309286724b0a1a113e9265f1f483366f7be3d5c9477bf6c4f", func := "peloton/pelotonlaw05.NormSame", spec := "normSame", named := ["peloton/curve.powers"], apart := false, laid := [("peloton/curve.powers", laid_peloton_curve_powers)], narrowed := true }
def NormSameUptoSaid : Prop := normSameUptoRow.holds Tryd.pinned (OpenSpec.upto normSameSpec)

/-- 'pelotonlaw05.NormShifts', WHERE WHAT IT READS IS OF BULK AT MOST 1048576: true; the input reads as it did. -/
def normShiftsUptoRow : OpenClaim := { program := "ythblniakghfchaadoor", sum := "1623427e85a53dd309286724b0a1a113e9265f1f483366f7be3d5c9477bf6c4f", func := "peloton/pelotonlaw05.NormShifts", spec := "normShifts", named := ["peloton/curve.powers"], apart := false, laid := [("peloton/curve.powers", laid_peloton_curve_powers)], narrowed := true }
def NormShiftsUptoSaid : Prop := normShiftsUptoRow.holds Tryd.pinned (OpenSpec.upto normShiftsSpec)

/-- 'pelotonlaw05.NormSigns', WHERE WHAT IT READS IS OF BULK AT MOST 1048576: true; the input reads as it did. -/
def normSignsUptoRow : OpenClaim := { program := "ythblniakghfchaadoor", sum := "1623427e85a53dd309286724b0a1a113e9265f1f483366f7be3d5c9477bf6c4f", func := "peloton/pelotonlaw05.NormSigns", spec := "normSigns", named := ["peloton/curve.powers"], apart := false, laid := [("peloton/curve.powers", laid_peloton_curve_powers)], narrowed := true }
def NormSignsUptoSaid : Prop := normSignsUptoRow.holds Tryd.pinned (OpenSpec.upto normSignsSpec)

end Rows
end Go.Proofs.YthblniakghfchaaDoor
