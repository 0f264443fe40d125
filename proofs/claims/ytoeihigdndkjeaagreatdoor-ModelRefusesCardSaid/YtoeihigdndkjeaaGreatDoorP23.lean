import Derived.Test.YtoeihigdndkjeaaGreatDoorJ17
import Derived.BigQuiet
/-
  May so much be generated: the code's answer and the document's.
-/
namespace Go.Proofs.YtoeihigdndkjeaaGreatDoor
open Go.RowKit Go.Shelf
set_option linter.unusedVariables false

/-- is a token odd; what may be generated -/
def odd9 (v t : Int) : Bool := decide (t < 0) || decide (v ≤ t)
def check9 (v p : Int) (ts : List Int) (most : Int) : Int := if ts.length = 0 then 90 else if ts.any (odd9 v) then 2 else if most < 1 then 2 else if p < ts.length then 80 else if p - ts.length + 1 < most then 80 else 0
/-- a shape of whatever numbers, in a block -/
abbrev sh9 (l w h i v p : Int) : Array Value := #[.int .i64 l, .int .i64 w, .int .i64 h, .int .i64 i, .int .i64 v, .int .i64 p]

end Go.Proofs.YtoeihigdndkjeaaGreatDoor
