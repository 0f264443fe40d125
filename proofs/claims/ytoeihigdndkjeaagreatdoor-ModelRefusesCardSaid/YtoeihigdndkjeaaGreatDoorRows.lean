/-
  NARROWER THAN 'FOR EVERY INPUT', by the rows' own cells (each row's printed sentence says how): ModelFeeds: laid · ModelRefuses: laid · ModelPast: laid · GenSays: laid · GenTalks: laid.
  DERIVED. THE GIVEN ROWS OF THIS SEAT. 5 by the template 'for every input the law returns true; each argument reads behind the call as it read before'; 0 by the template 'total and deterministic' (their statements: YtoeihigdndkjeaaGreatDoorTotals.lean).
  GIVEN WITH THE SEED: the statements are not yours to turn. If you find one false, say at which input.
  Laid BY PROGRAM, IN A SANDBOX (cutbox-rows.mjs): the forced cells as the released guide's own fill.sh prints them over the translation 717d434a944d3134… (all of the seat's roots in one cut). By AI agents, Wed Nov 11 2026. No macro, syntax, notation, axiom, sorry.
-/
import Derived.Test.YtoeihigdndkjeaaGreatDoorChecked
import GoSem.Claim
import GoSem.ClaimJoined
import GoSem.ClaimMapViews
import Derived.JoinedTies
import Derived.KernelRfl
namespace Go.Proofs.YtoeihigdndkjeaaGreatDoor
/- THE CELL 'sum', in the pinned program and in every row, IS THE sha256 OF THE DUMP (.gsa) THAT YtoeihigdndkjeaaGreatDoorProg.lean LOADS. Nothing in Lean hashes anything: it is a label: what it is worth is what the hold of that sum in a sandbox is worth. -/
noncomputable def Tryz.pinned : Pinned := { name := "ytoeihigdndkjeaagreatdoor", sum := "717d434a944d313400ac078e433993d4cfb69c651ae55361e03b72266edcfa15", checked := Tryz.checked }
namespace Rows
def none {H : Type} : Left H := { results := [], args := [] }

/- WHAT THE LISTED PACKAGE-LEVEL VARIABLES READ AS WHEN THE CALL BEGINS. Each datum BY PROGRAM (the guide's laid-datum.mjs) off the statement by which the dump's own 'gosem.cut.vars' lays the variable. In a bare row this is a premise. The card (YtoeihigdndkjeaaGreatDoorCards.lean) ties it to the program's text. -/
def laid_peloton_curve_powers {H : Type} : DataW H := .agg [.lit (.int .i64 65536), .lit (.int .i64 64132), .lit (.int .i64 62757), .lit (.int .i64 61413), .lit (.int .i64 60097), .lit (.int .i64 58809), .lit (.int .i64 57549), .lit (.int .i64 56316), .lit (.int .i64 55109), .lit (.int .i64 53928), .lit (.int .i64 52773), .lit (.int .i64 51642), .lit (.int .i64 50535), .lit (.int .i64 49452), .lit (.int .i64 48393), .lit (.int .i64 47356), .lit (.int .i64 46341), .lit (.int .i64 45348), .lit (.int .i64 44376), .lit (.int .i64 43425), .lit (.int .i64 42495), .lit (.int .i64 41584), .lit (.int .i64 40693), .lit (.int .i64 39821), .lit (.int .i64 38968), .lit (.int .i64 38133), .lit (.int .i64 37316), .lit (.int .i64 36516), .lit (.int .i64 35734), .lit (.int .i64 34968), .lit (.int .i64 34219), .lit (.int .i64 33486), .lit (.int .i64 32768)]
def laid_peloton_rope_sines {H : Type} : DataW H := .agg [.lit (.int .i32 0), .lit (.int .i32 804), .lit (.int .i32 1606), .lit (.int .i32 2404), .lit (.int .i32 3196), .lit (.int .i32 3981), .lit (.int .i32 4756), .lit (.int .i32 5520), .lit (.int .i32 6270), .lit (.int .i32 7005), .lit (.int .i32 7723), .lit (.int .i32 8423), .lit (.int .i32 9102), .lit (.int .i32 9760), .lit (.int .i32 10394), .lit (.int .i32 11003), .lit (.int .i32 11585), .lit (.int .i32 12140), .lit (.int .i32 12665), .lit (.int .i32 13160), .lit (.int .i32 13623), .lit (.int .i32 14053), .lit (.int .i32 14449), .lit (.int .i32 14811), .lit (.int .i32 15137), .lit (.int .i32 15426), .lit (.int .i32 15679), .lit (.int .i32 15893), .lit (.int .i32 16069), .lit (.int .i32 16207), .lit (.int .i32 16305), .lit (.int .i32 16364), .lit (.int .i32 16384)]

/-- 'pelotonlaw08.ModelFeeds': WHATEVER THE INPUT: true; the input reads as it did. -/
def modelFeedsSpec : ChangeSpec := { name := "modelFeeds", fn := fun _ => fun
  | [d1, d2] => { results := [.lit (.bool true)], args := [d1, d2] }
  | _ => none }
def modelFeedsRow : OpenClaim := { program := "ytoeihigdndkjeaagreatdoor", sum := "717d434a944d313400ac078e433993d4cfb69c651ae55361e03b72266edcfa15", func := "peloton/pelotonlaw08.ModelFeeds", spec := "modelFeeds", unfollowed := true, recurses := true, named := ["peloton/rope.sines", "peloton/curve.powers"], plainKeys := false, apart := false, laid := [("peloton/curve.powers", laid_peloton_curve_powers), ("peloton/rope.sines", laid_peloton_rope_sines)] }
def ModelFeedsSaid : Prop := modelFeedsRow.holds Tryz.pinned (OpenSpec.ofChange modelFeedsSpec)

/-- ITS FALSE NEIGHBOUR: 'it returns false'. Refute it at one input. -/
def modelFeedsWrong : ChangeSpec := { name := "modelFeeds", fn := fun _ => fun
  | [d1, d2] => { results := [.lit (.bool false)], args := [d1, d2] }
  | _ => none }
def ModelFeedsWrongFalsely : Prop := modelFeedsRow.holds Tryz.pinned (OpenSpec.ofChange modelFeedsWrong)

/-- 'pelotonlaw08.ModelRefuses': WHATEVER THE INPUT: true; the input reads as it did. -/
def modelRefusesSpec : ChangeSpec := { name := "modelRefuses", fn := fun _ => fun
  | [d1, d2, d3] => { results := [.lit (.bool true)], args := [d1, d2, d3] }
  | _ => none }
def modelRefusesRow : OpenClaim := { program := "ytoeihigdndkjeaagreatdoor", sum := "717d434a944d313400ac078e433993d4cfb69c651ae55361e03b72266edcfa15", func := "peloton/pelotonlaw08.ModelRefuses", spec := "modelRefuses", unfollowed := true, recurses := true, named := ["peloton/rope.sines", "peloton/curve.powers"], plainKeys := false, apart := false, laid := [("peloton/curve.powers", laid_peloton_curve_powers), ("peloton/rope.sines", laid_peloton_rope_sines)] }
def ModelRefusesSaid : Prop := modelRefusesRow.holds Tryz.pinned (OpenSpec.ofChange modelRefusesSpec)

/-- ITS FALSE NEIGHBOUR: 'it returns false'. Refute it at one input. -/
def modelRefusesWrong : ChangeSpec := { name := "modelRefuses", fn := fun _ => fun
  | [d1, d2, d3] => { results := [.lit (.bool false)], args := [d1, d2, d3] }
  | _ => none }
def ModelRefusesWrongFalsely : Prop := modelRefusesRow.holds Tryz.pinned (OpenSpec.ofChange modelRefusesWrong)

/-- 'pelotonlaw08.ModelPast': WHATEVER THE INPUT: true; the input reads as it did. -/
def modelPastSpec : ChangeSpec := { name := "modelPast", fn := fun _ => fun
  | [d1, d2, d3] => { results := [.lit (.bool true)], args := [d1, d2, d3] }
  | _ => none }
def modelPastRow : OpenClaim := { program := "ytoeihigdndkjeaagreatdoor", sum := "717d434a944d313400ac078e433993d4cfb69c651ae55361e03b72266edcfa15", func := "peloton/pelotonlaw08.ModelPast", spec := "modelPast", inPlace := ["maps.clone"], unfollowed := true, recurses := true, named := ["peloton/rope.sines", "peloton/curve.powers"], plainKeys := false, apart := false, laid := [("peloton/curve.powers", laid_peloton_curve_powers), ("peloton/rope.sines", laid_peloton_rope_sines)] }
def ModelPastSaid : Prop := modelPastRow.holds Tryz.pinned (OpenSpec.ofChange modelPastSpec)

/-- ITS FALSE NEIGHBOUR: 'it returns false'. Refute it at one input. -/
def modelPastWrong : ChangeSpec := { name := "modelPast", fn := fun _ => fun
  | [d1, d2, d3] => { results := [.lit (.bool false)], args := [d1, d2, d3] }
  | _ => none }
def ModelPastWrongFalsely : Prop := modelPastRow.holds Tryz.pinned (OpenSpec.ofChange modelPastWrong)

/-- 'pelotonlaw09.GenSays': WHATEVER THE INPUT: true; the input reads as it did. -/
def genSaysSpec : ChangeSpec := { name := "genSays", fn := fun _ => fun
  | [d1, d2, d3] => { results := [.lit (.bool true)], args := [d1, d2, d3] }
  | _ => none }
def genSaysRow : OpenClaim := { program := "ytoeihigdndkjeaagreatdoor", sum := "717d434a944d313400ac078e433993d4cfb69c651ae55361e03b72266edcfa15", func := "peloton/pelotonlaw09.GenSays", spec := "genSays", unfollowed := true, recurses := true, named := ["peloton/rope.sines", "peloton/curve.powers"], plainKeys := false, apart := false, laid := [("peloton/curve.powers", laid_peloton_curve_powers), ("peloton/rope.sines", laid_peloton_rope_sines)] }
def GenSaysSaid : Prop := genSaysRow.holds Tryz.pinned (OpenSpec.ofChange genSaysSpec)

/-- ITS FALSE NEIGHBOUR: 'it returns false'. Refute it at one input. -/
def genSaysWrong : ChangeSpec := { name := "genSays", fn := fun _ => fun
  | [d1, d2, d3] => { results := [.lit (.bool false)], args := [d1, d2, d3] }
  | _ => none }
def GenSaysWrongFalsely : Prop := genSaysRow.holds Tryz.pinned (OpenSpec.ofChange genSaysWrong)

/-- 'pelotonlaw09.GenTalks': WHATEVER THE INPUT: true; the input reads as it did. -/
def genTalksSpec : ChangeSpec := { name := "genTalks", fn := fun _ => fun
  | [d1, d2, d3] => { results := [.lit (.bool true)], args := [d1, d2, d3] }
  | _ => none }
def genTalksRow : OpenClaim := { program := "ytoeihigdndkjeaagreatdoor", sum := "717d434a944d313400ac078e433993d4cfb69c651ae55361e03b72266edcfa15", func := "peloton/pelotonlaw09.GenTalks", spec := "genTalks", unfollowed := true, recurses := true, named := ["peloton/rope.sines", "peloton/curve.powers"], plainKeys := false, apart := false, laid := [("peloton/curve.powers", laid_peloton_curve_powers), ("peloton/rope.sines", laid_peloton_rope_sines)] }
def GenTalksSaid : Prop := genTalksRow.holds Tryz.pinned (OpenSpec.ofChange genTalksSpec)

/-- ITS FALSE NEIGHBOUR: 'it returns false'. Refute it at one input. -/
def genTalksWrong : ChangeSpec := { name := "genTalks", fn := fun _ => fun
  | [d1, d2, d3] => { results := [.lit (.bool false)], args := [d1, d2, d3] }
  | _ => none }
def GenTalksWrongFalsely : Prop := genTalksRow.holds Tryz.pinned (OpenSpec.ofChange genTalksWrong)

/- THE SECOND FORM. 'bulk': how many values and letters a reading holds, each counted each time it is reached (what is shared counts as often as it is met; a slice's spare places count too). A statement '..UptoSaid' is the law's where the arguments, and the package variables that the reading takes, are together of bulk at most 1048576: NARROWER than '..Said'. Prove '..Said' where nothing that the law and all that it calls make is longer than what came in: it says more and counts as full. Else prove '..UptoSaid'. A law counts once. -/
mutual
def uptoBulk {H : Type} : DataW H → Nat
  | .lit (.string bytes) => bytes.length + 1
  | .lit _ => 1
  | .nil => 1
  | .ptr d => uptoBulk d + 1
  | .slice elems spare => uptoBulkAll elems + uptoBulkAll spare + 1
  | .agg parts => uptoBulkAll parts + 1
  | .iface _ d => uptoBulk d + 1
  | .map entries => uptoBulkEntries entries + 1
  | .held _ => 1
def uptoBulkAll {H : Type} : List (DataW H) → Nat
  | [] => 0
  | d :: r => uptoBulk d + uptoBulkAll r
def uptoBulkEntries {H : Type} : List (Lit × DataW H) → Nat
  | [] => 0
  | x :: r => uptoBulkEntry x + uptoBulkEntries r
def uptoBulkEntry {H : Type} : Lit × DataW H → Nat
  | (.string bytes, d) => bytes.length + uptoBulk d + 1
  | (_, d) => uptoBulk d + 1
 end
def uptoSmall : (H : Type) → List (DataW H) → Bool := fun _ ds => decide (uptoBulkAll ds ≤ 1048576)
def OpenSpec.upto (s : _root_.Go.ChangeSpec) : _root_.Go.OpenSpec := { _root_.Go.OpenSpec.ofChange s with cond := some uptoSmall }

/-- 'pelotonlaw08.ModelFeeds', WHERE WHAT IT READS IS OF BULK AT MOST 1048576: true; the input reads as it did. -/
def modelFeedsUptoRow : OpenClaim := { program := "ytoeihigdndkjeaagreatdoor", sum := "717d434a944d313400ac078e433993d4cfb69c651ae55361e03b72266edcfa15", func := "peloton/pelotonlaw08.ModelFeeds", spec := "modelFeeds", unfollowed := true, recurses := true, named := ["peloton/rope.sines", "peloton/curve.powers"], plainKeys := false, apart := false, laid := [("peloton/curve.powers", laid_peloton_curve_powers), ("peloton/rope.sines", laid_peloton_rope_sines)], narrowed := true }
def ModelFeedsUptoSaid : Prop := modelFeedsUptoRow.holds Tryz.pinned (OpenSpec.upto modelFeedsSpec)

/-- 'pelotonlaw08.ModelRefuses', WHERE WHAT IT READS IS OF BULK AT MOST 1048576: true; the input reads as it did. -/
def modelRefusesUptoRow : OpenClaim := { program := "ytoeihigdndkjeaagreatdoor", sum := "717d434a944d313400ac078e433993d4cfb69c651ae55361e03b72266edcfa15", func := "peloton/pelotonlaw08.ModelRefuses", spec := "modelRefuses", unfollowed := true, recurses := true, named := ["peloton/rope.sines", "peloton/curve.powers"], plainKeys := false, apart := false, laid := [("peloton/curve.powers", laid_peloton_curve_powers), ("peloton/rope.sines", laid_peloton_rope_sines)], narrowed := true }
def ModelRefusesUptoSaid : Prop := modelRefusesUptoRow.holds Tryz.pinned (OpenSpec.upto modelRefusesSpec)

/-- 'pelotonlaw08.ModelPast', WHERE WHAT IT READS IS OF BULK AT MOST 1048576: true; the input reads as it did. -/
def modelPastUptoRow : OpenClaim := { program := "ytoeihigdndkjeaagreatdoor", sum := "717d434a944d313400ac078e433993d4cfb69c651ae55361e03b72266edcfa15", func := "peloton/pelotonlaw08.ModelPast", spec := "modelPast", inPlace := ["maps.clone"], unfollowed := true, recurses := true, named := ["peloton/rope.sines", "peloton/curve.powers"], plainKeys := false, apart := false, laid := [("peloton/curve.powers", laid_peloton_curve_powers), ("peloton/rope.sines", laid_peloton_rope_sines)], narrowed := true }
def ModelPastUptoSaid : Prop := modelPastUptoRow.holds Tryz.pinned (OpenSpec.upto modelPastSpec)

/-- 'pelotonlaw09.GenSays', WHERE WHAT IT READS IS OF BULK AT MOST 1048576: true; the input reads as it did. -/
def genSaysUptoRow : OpenClaim := { program := "ytoeihigdndkjeaagreatdoor", sum := "717d434a944d313400ac078e433993d4cfb69c651ae55361e03b72266edcfa15", func := "peloton/pelotonlaw09.GenSays", spec := "genSays", unfollowed := true, recurses := true, named := ["peloton/rope.sines", "peloton/curve.powers"], plainKeys := false, apart := false, laid := [("peloton/curve.powers", laid_peloton_curve_powers), ("peloton/rope.sines", laid_peloton_rope_sines)], narrowed := true }
def GenSaysUptoSaid : Prop := genSaysUptoRow.holds Tryz.pinned (OpenSpec.upto genSaysSpec)

/-- 'pelotonlaw09.GenTalks', WHERE WHAT IT READS IS OF BULK AT MOST 1048576: true; the input reads as it did. -/
def genTalksUptoRow : OpenClaim := { program := "ytoeihigdndkjeaagreatdoor", sum := "717d434a944d313400ac078e433993d4cfb69c651ae55361e03b72266edcfa15", func := "peloton/pelotonlaw09.GenTalks", spec := "genTalks", unfollowed := true, recurses := true, named := ["peloton/rope.sines", "peloton/curve.powers"], plainKeys := false, apart := false, laid := [("peloton/curve.powers", laid_peloton_curve_powers), ("peloton/rope.sines", laid_peloton_rope_sines)], narrowed := true }
def GenTalksUptoSaid : Prop := genTalksUptoRow.holds Tryz.pinned (OpenSpec.upto genTalksSpec)

end Rows
end Go.Proofs.YtoeihigdndkjeaaGreatDoor
