/-
  Contracts of the document's above, greatest, Root and Inverse: each root is the greatest r with r times r not above its number; memory stays as it was.
-/
import Derived.Test.YthblniakghfchaaDoorRoots
namespace Go.Proofs.YthblniakghfchaaDoor
open Go.RowKit
set_option linter.unusedVariables false

theorem above_iff (a q : Int) (ha : 1 ≤ a) : q / a < a ↔ q < a * a := by
  constructor
  · intro h; exact Int.lt_mul_of_ediv_lt (by omega) h
  · intro h; exact Int.ediv_lt_of_lt_mul (by omega) h

theorem ref_above (a n m : Int) (a0 : 0 ≤ a) (a1 : a ≤ 18446744073709551615) (n0 : 1 ≤ n) (n1 : n ≤ 18446744073709551615) (m0 : 0 ≤ m) (m1 : m ≤ 18446744073709551615) (w : World) :
    Calls Tryd.prog 51 #[.int .u64 a, .int .u64 n, .int .u64 m] w fun e w' => e = .returned (.bool (decide (m / n < a * a))) ∧ w = w' := by
  have q0 : 0 ≤ m / n := Int.ediv_nonneg m0 (by omega)
  have q1 : m / n ≤ m := Int.ediv_le_self _ m0
  by_cases c : a = 0
  · subst c
    have e : decide (m / n < 0 * 0) = false := by simp; omega
    rw [e]
    go_enter Tryd.func51, Tryd.ntmps51
    go_wp2
    go_ret
    exact ⟨rfl, rfl⟩
  · have e : decide (m / n < a * a) = decide (m / n / a < a) := by rw [decide_eq_decide]; exact (above_iff a (m / n) (by omega)).symm
    rw [e]
    have p0 : 0 ≤ m / n / a := Int.ediv_nonneg q0 (by omega)
    have p1 : m / n / a ≤ m / n := Int.ediv_le_self _ q0
    have ca : (a == 0) = false := by simpa using c
    have cn : (n == 0) = false := by simp; omega
    clear e
    go_enter Tryd.func51, Tryd.ntmps51
    go_wp2
    go_ret
    exact ⟨rfl, rfl⟩

theorem ref_greatest (n m : Int) (n0 : 1 ≤ n) (n1 : n ≤ 18446744073709551615) (m0 : 0 ≤ m) (m1 : m ≤ 18446744073709551615) (w : World) :
    Calls Tryd.prog 45 #[.int .u64 n, .int .u64 m] w fun e w' => (∃ r, e = .returned (.int .u64 r) ∧ IsRoot (m / n) r ∧ r ≤ 4294967295) ∧ w = w' := by
  have q0 : 0 ≤ m / n := Int.ediv_nonneg m0 (by omega)
  have q1 : m / n ≤ m := Int.ediv_le_self _ m0
  have hab : ∀ a, 0 ≤ a → a ≤ 18446744073709551615 → ∀ w, Calls Tryd.prog 51 #[.int .u64 a, .int .u64 n, .int .u64 m] w fun e w' => e = .returned (.bool (decide (m / n < a * a))) ∧ w = w' := fun a h0 h1 w => ref_above a n m h0 h1 n0 n1 m0 m1 w
  go_enter Tryd.func45, Tryd.ntmps45
  go_wp2
  go_loop [5, 6] (fun l u => ∃ (lo hi : Int), l = .int .u64 lo ∧ u = .int .u64 hi ∧ 0 ≤ lo ∧ lo < hi ∧ hi ≤ 4294967296 ∧ Hid (lo * lo ≤ m / n ∧ m / n < hi * hi)) (fun l u => (intOf u - intOf l).toNat)
  case atStart => exact ⟨0, 4294967296, rfl, rfl, by omega, by omega, by omega, Lib.hid ⟨by omega, by omega⟩⟩
  case round =>
    obtain ⟨lo, hi, rfl, rfl, l0, l1, u1, H⟩ := hrel
    by_cases hd : 1 < hi - lo
    · obtain ⟨x, hx⟩ : ∃ x, (lo + hi) / 2 = x := ⟨_, rfl⟩
      have x0 : lo < x ∧ x < hi := by omega
      by_cases hc : m / n < x * x
      · have e := decide_eq_true hc
        have h := hab x (by omega) (by omega)
        rw [e] at h
        have HC := Lib.hid hc
        clear hc e hab
        go_wp2_with (go_at_call 51; (with_reducible refine (h _).mono ?_); rintro e w' ⟨rfl, rfl⟩)
        go_round
        case rel => exact ⟨lo, x, rfl, rfl, l0, by omega, by omega, Lib.hid ⟨H.out.1, HC.out⟩⟩
        case measure => simp [intOf]; omega
      · have e := decide_eq_false hc
        have h := hab x (by omega) (by omega)
        rw [e] at h
        have HC := Lib.hid hc
        clear hc e hab
        go_wp2_with (go_at_call 51; (with_reducible refine (h _).mono ?_); rintro e w' ⟨rfl, rfl⟩)
        go_round
        case rel => exact ⟨x, hi, rfl, rfl, by omega, by omega, by omega, Lib.hid ⟨by have := HC.out; omega, H.out.2⟩⟩
        case measure => simp [intOf]; omega
    · have hh : hi = lo + 1 := by omega
      have hR : IsRoot (m / n) lo := ⟨l0, H.out.1, by have := H.out.2; rwa [hh] at this⟩
      have HR := Lib.hid hR
      clear hab hR H hh
      go_wp2
      go_ret
      exact ⟨⟨_, rfl, HR.out, by omega⟩, rfl⟩


theorem ref_inverse (n : Int) (h0 : 0 ≤ n) (h1 : n ≤ 18446744073709551615) (w : World) :
    Calls Tryd.prog 28 #[.int .u64 n] w fun e w' => (∃ r, e = .returned (.int .u64 r) ∧ IsRoot (281474976710656 / one_of n) r ∧ r ≤ 4294967295) ∧ w = w' := by
  by_cases c : n = 0
  · subst c
    have e : (281474976710656 : Int) / one_of 0 = 281474976710656 := by decide
    rw [e]
    have hR : IsRoot 281474976710656 16777216 := by unfold IsRoot; decide
    have HR := Lib.hid hR
    clear hR e
    go_enter Tryd.func28, Tryd.ntmps28
    go_wp2
    go_ret
    exact ⟨⟨_, rfl, HR.out, by decide⟩, rfl⟩
  · have e : one_of n = n := by unfold one_of; rw [if_neg c]
    rw [e]
    have hr := ref_greatest n 281474976710656 (by omega) h1 (by decide) (by decide) w
    have cn : (n == 0) = false := by simpa using c
    go_enter Tryd.func28, Tryd.ntmps28
    go_wp2_with fail
    refine hr.mono ?_
    rintro e w' ⟨⟨r, rfl, hR⟩, rfl⟩
    have HR := Lib.hid hR
    clear hR
    go_wp2
    go_ret
    exact ⟨⟨_, rfl, HR.out⟩, rfl⟩

end Go.Proofs.YthblniakghfchaaDoor
