/-
  Plain mathematics of layer 2: E never falls as x rises; the whole roots of a square and of the number below it.
-/
import Derived.Test.YthblniakghfchaaDoorExp
import Derived.Test.YthblniakghfchaaDoorRoots
import Derived.Test.YthblniakghfchaaDoorShrMath
namespace Go.Proofs.YthblniakghfchaaDoor
open Go.RowKit
set_option linter.unusedVariables false

theorem btw_falls (f g : Int) (h0 : 0 ≤ f) (h : f ≤ g) (h1 : g < 65536) : btw g ≤ btw f := by
  have bf := btw_bd f h0 (by omega)
  have bg := btw_bd g (by omega) h1
  rcases Int.lt_or_eq_of_le (show f / 2048 ≤ g / 2048 by omega) with hlt | heq
  · have := tab_mono (g / 2048).toNat (by omega) ((f / 2048).toNat + 1) (by omega)
    omega
  · have hD := tab_falls (f / 2048).toNat (by omega)
    have hr : f % 2048 ≤ g % 2048 := by omega
    have hm : (ptab.getD (f / 2048).toNat 0 - ptab.getD ((f / 2048).toNat + 1) 0) * (f % 2048) ≤ (ptab.getD (f / 2048).toNat 0 - ptab.getD ((f / 2048).toNat + 1) 0) * (g % 2048) :=
      Int.mul_le_mul_of_nonneg_left hr (by omega)
    have := half_mono _ _ 2048 (by decide) hm
    unfold btw
    rw [← heq]
    omega

theorem shr_steps : ∀ q, q < 32 → shr 65536 (((q + 1 : Nat)) : Int) = shr 32768 ((q : Nat) : Int) := by decide +kernel
theorem shr_falls : ∀ b, b < 33 → ∀ a, a ≤ b → shr 65536 ((b : Nat) : Int) ≤ shr 65536 ((a : Nat) : Int) := by decide +kernel

theorem E_mono (x y : Int) (h : x ≤ y) : E x ≤ E y := by
  have bx := E_bd x
  have by_ := E_bd y
  by_cases c0 : 0 < y
  · have : E y = 65536 := by unfold E; rw [if_pos c0]
    omega
  · by_cases c1 : x ≤ -1453643
    · have : E x = 0 := by unfold E; rw [if_neg (by omega), if_pos c1]
      omega
    · have ex : E x = shr (btw (-x * 94548 / 65536 % 65536)) (-x * 94548 / 65536 / 65536) := by unfold E; rw [if_neg (by omega), if_neg c1]
      have ey : E y = shr (btw (-y * 94548 / 65536 % 65536)) (-y * 94548 / 65536 / 65536) := by unfold E; rw [if_neg c0, if_neg (by omega)]
      rw [ex, ey]
      clear ex ey bx by_
      have hst : -y * 94548 / 65536 ≤ -x * 94548 / 65536 := by omega
      have hs0 : 0 ≤ -y * 94548 / 65536 := by omega
      have ht1 : -x * 94548 / 65536 < 2097152 := by omega
      generalize -x * 94548 / 65536 = t at *
      generalize -y * 94548 / 65536 = s at *
      have bt := btw_bd (t % 65536) (by omega) (by omega)
      have bs := btw_bd (s % 65536) (by omega) (by omega)
      rcases Int.lt_or_eq_of_le (show s / 65536 ≤ t / 65536 by omega) with hlt | heq
      · obtain ⟨a, ha⟩ : ∃ a : Nat, s / 65536 = (a : Int) := ⟨(s / 65536).toNat, by omega⟩
        obtain ⟨b, hb⟩ : ∃ b : Nat, t / 65536 = (b : Int) := ⟨(t / 65536).toNat, by omega⟩
        rw [ha, hb]
        rw [ha, hb] at hlt
        have h1 : shr (btw (t % 65536)) b ≤ shr 65536 b := shr_mono _ _ _ (by omega)
        have h2 : shr 65536 (b : Int) ≤ shr 65536 ((a + 1 : Nat) : Int) := shr_falls b (by omega) (a + 1) (by omega)
        have h3 := shr_steps a (by omega)
        have h4 : shr 32768 (a : Int) ≤ shr (btw (s % 65536)) a := shr_mono _ _ _ (by omega)
        omega
      · rw [heq]
        exact shr_mono _ _ _ (btw_falls _ _ (by omega) (by omega) (by omega))

theorem root_square (m : Int) (h : 0 ≤ m) : IsRoot (m * m) m := ⟨h, Int.le_refl _, by rw [Int.add_mul, Int.mul_add]; omega⟩
theorem root_below (m : Int) (h : 1 ≤ m) : IsRoot (m * m - 1) (m - 1) := by
  refine ⟨by omega, ?_, ?_⟩
  · rw [Int.sub_mul, Int.mul_sub]; omega
  · rw [Int.sub_add_cancel]; omega

end Go.Proofs.YthblniakghfchaaDoor
