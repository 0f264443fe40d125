/-
  The functions that fill the rows of what Turn and Times answer: each is what filled asks.
-/
import Derived.Test.YtkiedganojaniaaFilled
namespace Go.Proofs.Ytkiedganojaniaa
open Go.RowKit
set_option linter.unusedVariables false


/-- the sum of the first k products of row i of xs (of K columns) with column j of ys (of C columns) -/
def psum (xs ys : List Int) (K C i j k : Nat) : Int := ((List.range k).map fun t => xs.getD (i * K + t) 0 * ys.getD (t * C + j) 0).sum
theorem psum_succ (xs ys : List Int) (K C i j k : Nat) : psum xs ys K C i j (k + 1) = psum xs ys K C i j k + xs.getD (i * K + k) 0 * ys.getD (k * C + j) 0 := by
  unfold psum; rw [List.range_succ, List.map_append, List.sum_append]; simp
/-- a number of the product -/
def prod (xs ys : List Int) (K C i j : Nat) : Int := wrap32 (psum xs ys K C i j K)


end Go.Proofs.Ytkiedganojaniaa
