/-
  Are two rows of bytes alike: the library's answer, the document's.
-/
import Derived.Test.YtobogkilkmnpmaaSame1
import Derived.BigQuiet
namespace Go.Proofs.Ytobogkilkmnpmaa
open Go.RowKit
set_option linter.unusedVariables false

theorem take_next1 {xs ys : List Int} {k : Nat} (h1 : k < xs.length) (h2 : k < ys.length) (h : xs.take k = ys.take k) (he : xs.getD k 0 = ys.getD k 0) : xs.take (k + 1) = ys.take (k + 1) := by
  rw [List.getD_eq_getElem?_getD, List.getElem?_eq_getElem h1, List.getD_eq_getElem?_getD, List.getElem?_eq_getElem h2] at he
  rw [List.take_add_one (l := xs), List.take_add_one (l := ys), h, List.getElem?_eq_getElem h1, List.getElem?_eq_getElem h2]
  simp at he
  simp [he]



end Go.Proofs.Ytobogkilkmnpmaa
