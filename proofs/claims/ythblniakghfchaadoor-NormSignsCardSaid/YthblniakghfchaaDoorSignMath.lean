/-
  Plain mathematics of a row whose signs are turned: its mean square is the same, and each number comes out with its sign turned, where it meets no end of its range.
-/
import Derived.Test.YthblniakghfchaaDoorNorms
import Derived.Test.YthblniakghfchaaDoorShrMath
namespace Go.Proofs.YthblniakghfchaaDoor
open Go.RowKit
set_option linter.unusedVariables false

theorem nr_neg (x : Int) (h1 : -32768 ≤ x) (h2 : x ≤ 32767) : nr (-x) = -nr x := by unfold nr near; (repeat' split) <;> omega
theorem msq_neg (xs : List Int) (h : ∀ x ∈ xs, -32768 ≤ x ∧ x ≤ 32767) : msq (xs.map (-·)) = msq xs := by
  have e : sqs (xs.map (-·)) = sqs xs := by
    unfold sqs
    rw [List.map_map]
    congr 1
    apply List.map_congr_left
    intro x hx
    have hb := h x hx
    show nr (-x) * nr (-x) = _
    rw [nr_neg x hb.1 hb.2, Int.neg_mul_neg]
  unfold msq
  rw [e, List.length_map]
theorem norm1_neg (I g x : Int) (h1 : -32768 ≤ x) (h2 : x ≤ 32767) (n1 : -127 < norm1 I g x) (n2 : norm1 I g x < 127) : norm1 I g (-x) = -norm1 I g x := by
  have e : shr (nr (-x) * I * g) 23 = -shr (nr x * I * g) 23 := by
    rw [nr_neg x h1 h2, Int.neg_mul, Int.neg_mul, shr_neg _ 23 (by decide) (by decide)]
  unfold norm1 at *
  rw [e]
  generalize shr (nr x * I * g) 23 = s at *
  unfold near at *
  split at n1 <;> (try split at n1) <;> (repeat' split) <;> omega
theorem norms_at (I : Int) (gs xs : List Int) (n : Nat) {i : Nat} (hi : i < n) : (norms I gs xs n).getD i 0 = norm1 I (gs.getD i 0) (xs.getD i 0) := by
  simp [norms, List.getD, hi]
theorem neg_at (xs : List Int) {i : Nat} (hi : i < xs.length) : (xs.map (-·)).getD i 0 = -xs.getD i 0 := by
  simp [List.getD, List.getElem?_map, List.getElem?_eq_getElem hi]

end Go.Proofs.YthblniakghfchaaDoor
