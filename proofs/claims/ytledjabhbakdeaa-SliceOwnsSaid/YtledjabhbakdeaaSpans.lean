/-
  Contract of layer 4's Spans: even parts of a number, in new memory, or a refusal.
-/
import Derived.Test.YtledjabhbakdeaaMineK
namespace Go.Proofs.Ytledjabhbakdeaa
open Go.RowKit
set_option linter.unusedVariables false

/-- what Spans asks -/
def spansB (n p : Int) : Bool := decide (0 ≤ n ∧ n ≤ 1099511627776 ∧ 1 ≤ p ∧ p ≤ 4096)
theorem spansB_yes {n p : Int} (h : spansB n p = true) : ∃ N P : Nat, n = N ∧ p = P ∧ N ≤ 1099511627776 ∧ 1 ≤ P ∧ P ≤ 4096 := by
  unfold spansB at h
  have h := of_decide_eq_true h
  exact ⟨n.toNat, p.toNat, by omega, by omega, by omega, by omega, by omega⟩
/-- where part i begins -/
def spanAt (N P i : Nat) : Nat := i * N / P
def spanL (N P : Nat) : List Int := (List.range (P + 1)).map fun i => ((spanAt N P i : Nat) : Int)
theorem spanL_length (N P : Nat) : (spanL N P).length = P + 1 := by simp [spanL]
theorem spanL_at (N P i : Nat) (h : i ≤ P) : (spanL N P).getD i 0 = (spanAt N P i : Nat) := by simp [spanL, List.getD, show i < P + 1 by omega]
theorem span_le (N P i : Nat) (h : i ≤ P) : spanAt N P i ≤ N := by
  unfold spanAt
  rcases Nat.eq_zero_or_pos P with e | e
  · subst e; simp
  · exact Nat.div_le_of_le_mul (Nat.mul_le_mul_right N h)
theorem span_mono (N P i j : Nat) (h : i ≤ j) : spanAt N P i ≤ spanAt N P j := Nat.div_le_div_right (Nat.mul_le_mul_right N h)
theorem span_zero (N P : Nat) : spanAt N P 0 = 0 := by unfold spanAt; simp
theorem span_end (N P : Nat) (h : 1 ≤ P) : spanAt N P P = N := by unfold spanAt; exact Nat.mul_div_cancel_left N (by omega)
theorem spanL_wf (N P : Nat) (h : N ≤ 1099511627776) : ∀ x ∈ spanL N P, (Lit.int .i64 x).wf = true := by
  intro x hx
  obtain ⟨i, hi, rfl⟩ := List.mem_map.1 hx
  have := span_le N P i (by have := List.mem_range.1 hi; omega)
  exact WalkArith.wf_i64 (by omega)


end Go.Proofs.Ytledjabhbakdeaa
