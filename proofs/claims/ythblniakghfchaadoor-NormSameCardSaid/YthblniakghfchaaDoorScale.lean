/-
  Contracts of products that are shifted down and brought to a range: Scale, Quant and the document's Scale return the product, shifted, brought to its range; memory stays as it was.
-/
import Derived.Test.YthblniakghfchaaDoorRefShift
namespace Go.Proofs.YthblniakghfchaaDoor
open Go.RowKit
set_option linter.unusedVariables false

/-! ### products, shifted and brought to a range -/
theorem prod_bounds (x y : Int) (hx1 : -2147483648 ≤ x) (hx2 : x ≤ 2147483647) (hy1 : -2147483648 ≤ y) (hy2 : y ≤ 2147483647) : -4611686018427387904 ≤ x * y ∧ x * y ≤ 4611686018427387904 := by
  have ha : (x * y).natAbs ≤ 2147483648 * 2147483648 := by
    rw [Int.natAbs_mul]
    exact Nat.mul_le_mul (by omega) (by omega)
  omega

theorem product (x y n : Int) (hx1 : -2147483648 ≤ x) (hx2 : x ≤ 2147483647) (hy1 : -2147483648 ≤ y) (hy2 : y ≤ 2147483647) (w : World) :
    Calls Tryd.prog 49 #[.int .i32 x, .int .i32 y, .int .i64 n] w fun e w' => e = .returned (.int .i64 (shr (x * y) n)) ∧ w = w' := by
  obtain ⟨b1, b2⟩ := prod_bounds x y hx1 hx2 hy1 hy2
  go_enter Tryd.func49, Tryd.ntmps49
  go_wp2_with (go_at_call 25; refine (shift _ _ (by omega) (by omega) _).mono ?_; rintro e w' ⟨rfl, rfl⟩)
  go_ret
  exact ⟨rfl, rfl⟩

theorem scale (x y n : Int) (hx1 : -2147483648 ≤ x) (hx2 : x ≤ 2147483647) (hy1 : -2147483648 ≤ y) (hy2 : y ≤ 2147483647) (w : World) :
    Calls Tryd.prog 39 #[.int .i32 x, .int .i32 y, .int .i64 n] w fun e w' => e = .returned (.int .i32 (near (shr (x * y) n) (-2147483648) 2147483647)) ∧ w = w' := by
  go_enter Tryd.func39, Tryd.ntmps39
  go_wp2_with (first | (go_at_call 49; refine (product _ _ _ hx1 hx2 hy1 hy2 _).mono ?_; rintro e w' ⟨rfl, rfl⟩) | (go_at_call 48; refine (sat32 _ _).mono ?_; rintro e w' ⟨rfl, rfl⟩))
  go_ret
  exact ⟨rfl, rfl⟩


theorem ref_scale (x y n lo hi : Int) (hx1 : -2147483648 ≤ x) (hx2 : x ≤ 2147483647) (hy1 : -2147483648 ≤ y) (hy2 : y ≤ 2147483647) (w : World) :
    Calls Tryd.prog 41 #[.int .i32 x, .int .i32 y, .int .i64 n, .int .i64 lo, .int .i64 hi] w fun e w' => e = .returned (.int .i64 (near (shr (x * y) n) lo hi)) ∧ w = w' := by
  obtain ⟨b1, b2⟩ := prod_bounds x y hx1 hx2 hy1 hy2
  go_enter Tryd.func41, Tryd.ntmps41
  go_wp2_with (first | (go_at_call 29; refine (ref_shift _ _ (by omega) (by omega) _).mono ?_; rintro e w' ⟨rfl, rfl⟩) | (go_at_call 27; refine (ref_near _ _ _ _).mono ?_; rintro e w' ⟨rfl, rfl⟩))
  go_ret
  exact ⟨rfl, rfl⟩

end Go.Proofs.YthblniakghfchaaDoor
