/-
  Contracts of New (refused; of noughts) and of filled, whatever function fills the rows.
-/
import Derived.Test.YtkiedganojaniaaMine
import Derived.Test.YtkiedganojaniaaRight
import Derived.Test.YtkiedganojaniaaLine
import Derived.Shelf.Abstract
namespace Go.Proofs.Ytkiedganojaniaa
open Go.RowKit
set_option linter.unusedVariables false

/-- what New asks -/
def newB (r c : Int) : Bool := sideB r && (sideB c && decide (r * c ≤ 1048576))
theorem newB_yes {r c : Int} (h : newB r c = true) : ∃ R C : Nat, r = R ∧ c = C ∧ R ≤ 4096 ∧ C ≤ 4096 ∧ R * C ≤ 1048576 := by
  unfold newB at h
  simp only [Bool.and_eq_true, decide_eq_true_eq] at h
  obtain ⟨h1, h2, h3⟩ := h
  have h1 := sideB_yes h1
  have h2 := sideB_yes h2
  refine ⟨r.toNat, c.toNat, by omega, by omega, by omega, by omega, ?_⟩
  have e1 : r = (r.toNat : Int) := by omega
  have e2 : c = (c.toNat : Int) := by omega
  rw [e1, e2] at h3
  have : ((r.toNat * c.toNat : Nat) : Int) ≤ 1048576 := by rw [Int.natCast_mul]; exact h3
  omega





end Go.Proofs.Ytkiedganojaniaa
