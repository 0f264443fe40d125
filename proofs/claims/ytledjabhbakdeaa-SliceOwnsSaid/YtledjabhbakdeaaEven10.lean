/-
  Even parts: how much each has.
-/
import Derived.Test.YtledjabhbakdeaaHas10
import Derived.Test.YtledjabhbakdeaaMkCut10
namespace Go.Proofs.Ytledjabhbakdeaa
open Go.RowKit
set_option linter.unusedVariables false

/-- parts differ by one at most -/
theorem spn_even (n m j : Nat) (hm : 1 ≤ m) : spanAt n m (j + 1) = spanAt n m j + n / m ∨ spanAt n m (j + 1) = spanAt n m j + n / m + 1 := by
  unfold spanAt
  rw [Nat.add_mul, Nat.one_mul]
  have h1 := Nat.div_add_mod (j * n) m
  have h2 := Nat.div_add_mod n m
  have l1 := Nat.mod_lt (j * n) (show 0 < m by omega)
  have l2 := Nat.mod_lt n (show 0 < m by omega)
  have e : j * n + n = m * (j * n / m + n / m) + (j * n % m + n % m) := by rw [Nat.mul_add]; omega
  rw [e, Nat.mul_add_div (by omega)]
  rcases Nat.lt_or_ge (j * n % m + n % m) m with h | h
  · left; rw [Nat.div_eq_of_lt h]; rfl
  · right
    have : (j * n % m + n % m) / m = 1 := by
      rw [Nat.div_eq_sub_div (by omega) h, Nat.div_eq_of_lt (by omega)]
    rw [this]
theorem spn_dvd (n m j : Nat) (hm : 1 ≤ m) (h : n % m = 0) : spanAt n m j = j * (n / m) := by
  unfold spanAt
  have h2 := Nat.div_add_mod n m
  rw [h, Nat.add_zero] at h2
  conv => lhs; rw [← h2]
  rw [← Nat.mul_assoc, Nat.mul_comm j m, Nat.mul_assoc, Nat.mul_div_cancel_left _ (by omega)]
theorem spn_same (n m j : Nat) (hm : 1 ≤ m) (h : n % m = 0) : spanAt n m (j + 1) = spanAt n m j + n / m := by
  rw [spn_dvd n m _ hm h, spn_dvd n m _ hm h, Nat.add_mul, Nat.one_mul]

end Go.Proofs.Ytledjabhbakdeaa
