/-
  Plain mathematics of shifting down to the nearest: never farther than half a step, exact at a multiple, odd, and it keeps orders.
-/
import Derived.Test.YthblniakghfchaaDoorKit
namespace Go.Proofs.YthblniakghfchaaDoor
open Go.RowKit
set_option linter.unusedVariables false

theorem half_dist (x D : Int) (hD : 1 ≤ D) : -D ≤ 2 * (half x D * D - x) ∧ 2 * (half x D * D - x) ≤ D := by
  have h := Int.emod_add_mul_ediv x D
  have h0 := Int.emod_nonneg x (b := D) (by omega)
  have h1 := Int.emod_lt_of_pos x (b := D) (by omega)
  unfold half
  split
  · rw [Int.add_mul, Int.mul_comm (x / D) D]; omega
  · rw [Int.mul_comm (x / D) D]; omega

theorem half_mul (x D : Int) (hD : 1 ≤ D) : half (x * D) D = x := by
  unfold half
  rw [Int.mul_emod_left, Int.mul_ediv_cancel _ (by omega), if_neg (by omega)]

theorem neg_divmod (x D : Int) (hD : 1 ≤ D) :
    (x % D = 0 → (-x) / D = -(x / D) ∧ (-x) % D = 0) ∧ (x % D ≠ 0 → (-x) / D = -(x / D) - 1 ∧ (-x) % D = D - x % D) := by
  have h := Int.emod_add_mul_ediv x D
  have h0 := Int.emod_nonneg x (b := D) (by omega)
  have h1 := Int.emod_lt_of_pos x (b := D) (by omega)
  constructor
  · intro hr
    refine (Int.ediv_emod_unique (by omega)).mpr ⟨?_, by omega, by omega⟩
    rw [Int.mul_neg]; omega
  · intro hr
    refine (Int.ediv_emod_unique (by omega)).mpr ⟨?_, by omega, by omega⟩
    rw [Int.mul_sub, Int.mul_neg]; omega

theorem half_neg (x D : Int) (hD : 1 ≤ D) : half (-x) D = -half x D := by
  have h0 := Int.emod_nonneg x (b := D) (by omega)
  have h1 := Int.emod_lt_of_pos x (b := D) (by omega)
  obtain ⟨n1, n2⟩ := neg_divmod x D hD
  unfold half
  by_cases hr : x % D = 0
  · obtain ⟨e1, e2⟩ := n1 hr
    rw [e1, e2, hr, if_neg (by omega), if_neg (by omega)]
  · obtain ⟨e1, e2⟩ := n2 hr
    rw [e1, e2]
    by_cases c1 : D - x % D < x % D
    · rw [if_neg (by omega), if_pos (by omega)]; omega
    · by_cases c2 : x % D = D - x % D
      · by_cases c3 : x / D % 2 = 1
        · rw [if_neg (by omega), if_pos (by omega)]; omega
        · rw [if_pos (by omega), if_neg (by omega)]; omega
      · rw [if_pos (by omega), if_neg (by omega)]; omega

theorem half_mono (x y D : Int) (hD : 1 ≤ D) (h : x ≤ y) : half x D ≤ half y D := by
  have hx := Int.emod_add_mul_ediv x D
  have hy := Int.emod_add_mul_ediv y D
  have hq : x / D ≤ y / D := Int.ediv_le_ediv (by omega) h
  unfold half
  rcases Int.lt_or_eq_of_le hq with hlt | heq
  · split <;> split <;> omega
  · rw [heq] at hx
    rw [heq]
    have hr : x % D ≤ y % D := by omega
    split <;> split <;> omega

theorem half_bounds (x D B : Int) (hD : 1 ≤ D) (hB : 0 ≤ B) (h1 : -B ≤ x) (h2 : x ≤ B) : -B ≤ half x D ∧ half x D ≤ B := by
  have e1 : half B D ≤ B := by
    have hd := half_dist B D hD
    by_cases hc : half B D ≤ B
    · exact hc
    · have g1 : (B + 1) * D ≤ half B D * D := Int.mul_le_mul_of_nonneg_right (by omega) (by omega)
      have g2 : (2 * B + 1) * 1 ≤ (2 * B + 1) * D := Int.mul_le_mul_of_nonneg_left hD (by omega)
      rw [Int.add_mul] at g1
      rw [Int.add_mul (2 * B) 1 D, Int.mul_assoc 2 B D] at g2
      omega
  have m1 := half_mono x B D hD h2
  have m2 := half_mono (-B) x D hD h1
  rw [half_neg B D hD] at m2
  omega

/-! ### of n, brought to 0 .. 62 -/
theorem near_62 (n : Int) : 0 ≤ near n 0 62 ∧ near n 0 62 ≤ 62 := near_in n 0 62 (by decide)

theorem shr_mono (x y n : Int) (h : x ≤ y) : shr x n ≤ shr y n := by
  unfold shr
  split
  · exact h
  · exact half_mono x y _ (pow_bounds _ (near_62 n).1 (near_62 n).2).1 h

theorem near_mono (x y lo hi : Int) (h : x ≤ y) (hl : lo ≤ hi) : near x lo hi ≤ near y lo hi := by
  unfold near; split <;> split <;> (try split) <;> (try split) <;> omega

theorem near_same (x lo hi : Int) (h1 : lo ≤ x) (h2 : x ≤ hi) : near x lo hi = x := by
  unfold near; rw [if_neg (by omega), if_neg (by omega)]

/-- at k from 0 to 30, a step being 2^k -/
theorem shr_at (x k : Int) (h0 : 0 ≤ k) (h1 : k ≤ 62) : shr x k = if k = 0 then x else half x (2 ^ k.toNat) := by
  unfold shr; rw [near_same k 0 62 h0 h1]

theorem shr_dist (x k : Int) (h0 : 0 ≤ k) (h1 : k ≤ 62) : -(2 ^ k.toNat) ≤ 2 * (shr x k * 2 ^ k.toNat - x) ∧ 2 * (shr x k * 2 ^ k.toNat - x) ≤ 2 ^ k.toNat := by
  rw [shr_at x k h0 h1]
  split
  · rename_i hk; subst hk; simp
  · exact half_dist x _ (pow_bounds k h0 h1).1

theorem shr_mul (x k : Int) (h0 : 0 ≤ k) (h1 : k ≤ 62) : shr (x * 2 ^ k.toNat) k = x := by
  rw [shr_at _ k h0 h1]
  split
  · rename_i hk; subst hk; simp
  · exact half_mul x _ (pow_bounds k h0 h1).1

theorem shr_neg (x k : Int) (h0 : 0 ≤ k) (h1 : k ≤ 62) : shr (-x) k = -shr x k := by
  rw [shr_at _ k h0 h1, shr_at _ k h0 h1]
  split
  · rfl
  · exact half_neg x _ (pow_bounds k h0 h1).1

theorem shr_bounds (x k B : Int) (h0 : 0 ≤ k) (h1 : k ≤ 62) (hB : 0 ≤ B) (b1 : -B ≤ x) (b2 : x ≤ B) : -B ≤ shr x k ∧ shr x k ≤ B := by
  rw [shr_at _ k h0 h1]
  split
  · exact ⟨b1, b2⟩
  · exact half_bounds x _ B (pow_bounds k h0 h1).1 hB b1 b2

theorem pow30 (k : Int) (h0 : 0 ≤ k) (h : k ≤ 30) : (1 : Int) ≤ 2 ^ k.toNat ∧ (2 : Int) ^ k.toNat ≤ 1073741824 := by
  refine ⟨(pow_bounds k h0 (by omega)).1, ?_⟩
  have hk : k.toNat ≤ 30 := by omega
  generalize k.toNat = j at hk
  have h1 : (2 : Nat) ^ j ≤ 2 ^ 30 := Nat.pow_le_pow_right (by decide) hk
  have h2 : ((2 : Int) ^ j) = ((2 ^ j : Nat) : Int) := by simp
  have h3 : (2 : Nat) ^ 30 = 1073741824 := by decide
  rw [h2]; omega

/-- a rest by 31, brought above 0, as Go reckons it -/
theorem rest31 (n : Int) : -30 ≤ n.tmod 31 ∧ n.tmod 31 ≤ 30 := by
  rcases Int.le_total 0 n with h | h
  · have := Int.tmod_eq_emod_of_nonneg (b := 31) h; omega
  · have h1 := Int.neg_tmod n 31
    have h2 := Int.tmod_eq_emod_of_nonneg (a := -n) (b := 31) (by omega)
    omega

end Go.Proofs.YthblniakghfchaaDoor
