/-
  Contracts of row, down and turned: the cosine and the sine of a pair's angle; a pair of numbers, turned by a row; what was in memory stays.
-/
import Derived.Test.YtbggklhnmkiamaaDoorSines
import Derived.Test.YtbggklhnmkiamaaDoorRw
import Derived.Deep.QuietTactic
import Derived.BigQuiet
namespace Go.Proofs.YtbggklhnmkiamaaDoor
open Go.RowKit
set_option linter.unusedVariables false

theorem row_any (place pair : Int) (h1 : -9223372036854775808 ≤ pair) (h2 : pair ≤ 9223372036854775807) (w : World) (hT : STab w) :
    Calls Tryd.prog 24 #[.int .i64 place, .int .i64 pair] w fun e w' => e = .returned (.agg #[.int .i32 (cosi (ang place pair)), .int .i32 (sine (ang place pair))]) ∧ Below w.heap.size w w' := by
  have ha := angle_any place pair h1 h2
  have hb := ang_bd place pair
  generalize ang place pair = x at ha hb ⊢
  have hc := cos_any x
  have hs := sin_any x (by omega) (by omega)
  have c0 := cosi_bd x
  have s0 := sine_bd x
  generalize cosi x = c at hc c0 ⊢
  generalize sine x = s at hs s0 ⊢
  have hT1 := hT.below ((Below.refl _ _).alloc (Nat.le_refl _) (.cells #[.int .i32 0, .int .i32 0] 36))
  have B0 := (Below.refl w.heap.size w).alloc (Nat.le_refl _) (.cells #[.int .i32 0, .int .i32 0] 36)
  clear hT
  go_enter Tryd.func24, Tryd.ntmps24
  go_wp2_with fail
  refine (ha _).mono ?_
  rintro e w' ⟨rfl, rfl⟩
  go_wp2_with fail
  refine (hc _ hT1).mono ?_
  rintro e w' ⟨rfl, d, rfl⟩
  go_wp2_with fail
  refine (hs _ (hT1.drewN d)).mono ?_
  rintro e w' ⟨rfl, d2, rfl⟩
  go_wp2
  exact bodyPost_ret (v := .agg #[.int .i32 c, .int .i32 s]) (by simp [results, Tryd.results24, go_sem]) rfl ⟨rfl, ((below_drewN B0 _).setCell (p := ⟨w.heap.size, 0, none⟩) (Nat.le_refl _) _).setCell (p := ⟨w.heap.size, 1, none⟩) (Nat.le_refl _) _⟩

theorem down_any (x : Int) (h1 : -2147483648 ≤ x) (h2 : x ≤ 2147483647) (w : World) :
    Calls Tryd.prog 28 #[.int .i32 x] w fun e w' => e = .returned (.int .i8 (near (shr x 14) (-128) 127)) ∧ w = w' := by
  have hs := shift x 14 (by omega) (by omega)
  have h8 := sat8 (shr x 14)
  generalize shr x 14 = y at hs h8 ⊢
  go_enter Tryd.func28, Tryd.ntmps28
  go_wp2_with fail
  refine (hs _).mono ?_
  rintro e w' ⟨rfl, rfl⟩
  go_wp2_with fail
  refine (h8 _).mono ?_
  rintro e w' ⟨rfl, rfl⟩
  go_wp2
  go_ret
  exact ⟨rfl, rfl⟩

/-- the first and the second number of a pair, turned -/
def tx (c s x y : Int) : Int := near (shr (x * c - y * s) 14) (-128) 127
def ty (c s x y : Int) : Int := near (shr (x * s + y * c) 14) (-128) 127
theorem tx_wf (c s x y : Int) : (Lit.int .i8 (tx c s x y)).wf = true := WalkArith.wf_i8 (near_in _ _ _ (by decide))
theorem ty_wf (c s x y : Int) : (Lit.int .i8 (ty c s x y)).wf = true := WalkArith.wf_i8 (near_in _ _ _ (by decide))
theorem mul_bd6 (x c : Int) (x1 : -128 ≤ x) (x2 : x ≤ 127) (c1 : -16384 ≤ c) (c2 : c ≤ 16384) : -2097152 ≤ x * c ∧ x * c ≤ 2097152 := by
  have h : (x * c).natAbs ≤ 128 * 16384 := by rw [Int.natAbs_mul]; exact Nat.mul_le_mul (by omega) (by omega)
  omega

theorem turned_any (c s x y : Int) (c1 : -16384 ≤ c) (c2 : c ≤ 16384) (s1 : -16384 ≤ s) (s2 : s ≤ 16384) (x1 : -128 ≤ x) (x2 : x ≤ 127) (y1 : -128 ≤ y) (y2 : y ≤ 127) (w : World) :
    Calls Tryd.prog 23 #[.agg #[.int .i32 c, .int .i32 s], .int .i8 x, .int .i8 y] w fun e w' => e = .returned (.tuple #[.int .i8 (tx c s x y), .int .i8 (ty c s x y)]) ∧ Below w.heap.size w w' := by
  have B0 := (Below.refl w.heap.size w).alloc (Nat.le_refl _) (.cells #[.int .i32 c, .int .i32 s] 36)
  have m1 := mul_bd6 x c x1 x2 c1 c2
  have m2 := mul_bd6 y s y1 y2 s1 s2
  have m3 := mul_bd6 x s x1 x2 s1 s2
  have m4 := mul_bd6 y c y1 y2 c1 c2
  have d1 := down_any (x * c - y * s) (by omega) (by omega)
  have d2 := down_any (x * s + y * c) (by omega) (by omega)
  have e1 : tx c s x y = near (shr (x * c - y * s) 14) (-128) 127 := rfl
  have e2 : ty c s x y = near (shr (x * s + y * c) 14) (-128) 127 := rfl
  rw [← e1] at d1
  rw [← e2] at d2
  generalize tx c s x y = u at d1 ⊢
  generalize ty c s x y = v at d2 ⊢
  clear e1 e2
  go_enter Tryd.func23, Tryd.ntmps23
  go_wp2
  go_quiet (fail)
  go_wp2_with fail
  refine (d1 _).mono ?_
  rintro e w' ⟨rfl, rfl⟩
  go_wp2_with fail
  refine (d2 _).mono ?_
  rintro e w' ⟨rfl, rfl⟩
  go_wp2
  go_ret2
  exact ⟨rfl, below_drewN B0 _⟩

end Go.Proofs.YtbggklhnmkiamaaDoor
