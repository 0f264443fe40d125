/-
  Contracts of line (a row of a right grid, where it lies), inside, and the document's Cell.
-/
import Derived.Test.YtgbbfmpofmeadaaGrids
namespace Go.Proofs.Ytgbbfmpofmeadaa
open Go.RowKit
set_option linter.unusedVariables false

/-- where row i of a grid of C columns at a lies -/
theorem rowOf_elems {w : World} {b off R C i : Nat} {xs : List Int} (h : Elems .i32 w (some ⟨b, off, none⟩) (R * C) xs) (hi : i < R) : Elems .i32 w (some ⟨b, off + i * C, none⟩) C (rowOf xs C i) := by
  have hl := row_le (C := C) hi
  have := (h.drop (i * C) (by omega)).take C (by omega)
  exact this






end Go.Proofs.Ytgbbfmpofmeadaa
