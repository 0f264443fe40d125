/-
  Contracts of the functions that bring a number to a range: for every argument of its type each returns the nearest number of the range and leaves memory as it was.
-/
import Derived.Test.YthblniakghfchaaDoorKit
namespace Go.Proofs.YthblniakghfchaaDoor
open Go.RowKit
set_option linter.unusedVariables false

theorem bring8 (x lo hi : Int) (h1 : -128 ≤ lo) (h2 : lo ≤ hi) (h3 : hi ≤ 127) (w : World) :
    Calls Tryd.prog 43 #[.int .i64 x, .int .i8 lo, .int .i8 hi] w fun e w' => e = .returned (.int .i8 (near x lo hi)) ∧ w = w' := by
  by_cases c1 : x < lo
  · go_enter Tryd.func43, Tryd.ntmps43
    go_wp2
    go_ret
    exact ⟨ret_int (by unfold near; omega), rfl⟩
  · by_cases c2 : hi < x
    · go_enter Tryd.func43, Tryd.ntmps43
      go_wp2
      go_ret
      exact ⟨ret_int (by unfold near; omega), rfl⟩
    · go_enter Tryd.func43, Tryd.ntmps43
      go_wp2
      go_ret
      exact ⟨ret_int (by unfold near; omega), rfl⟩

theorem bring32 (x lo hi : Int) (h1 : -2147483648 ≤ lo) (h2 : lo ≤ hi) (h3 : hi ≤ 2147483647) (w : World) :
    Calls Tryd.prog 53 #[.int .i64 x, .int .i32 lo, .int .i32 hi] w fun e w' => e = .returned (.int .i32 (near x lo hi)) ∧ w = w' := by
  by_cases c1 : x < lo
  · go_enter Tryd.func53, Tryd.ntmps53
    go_wp2
    go_ret
    exact ⟨ret_int (by unfold near; omega), rfl⟩
  · by_cases c2 : hi < x
    · go_enter Tryd.func53, Tryd.ntmps53
      go_wp2
      go_ret
      exact ⟨ret_int (by unfold near; omega), rfl⟩
    · go_enter Tryd.func53, Tryd.ntmps53
      go_wp2
      go_ret
      exact ⟨ret_int (by unfold near; omega), rfl⟩

theorem bring64 (x lo hi : Int) (h2 : lo ≤ hi) (w : World) :
    Calls Tryd.prog 44 #[.int .i64 x, .int .i64 lo, .int .i64 hi] w fun e w' => e = .returned (.int .i64 (near x lo hi)) ∧ w = w' := by
  by_cases c1 : x < lo
  · go_enter Tryd.func44, Tryd.ntmps44
    go_wp2
    go_ret
    exact ⟨ret_int (by unfold near; omega), rfl⟩
  · by_cases c2 : hi < x
    · go_enter Tryd.func44, Tryd.ntmps44
      go_wp2
      go_ret
      exact ⟨ret_int (by unfold near; omega), rfl⟩
    · go_enter Tryd.func44, Tryd.ntmps44
      go_wp2
      go_ret
      exact ⟨ret_int (by unfold near; omega), rfl⟩

theorem sat8 (x : Int) (w : World) :
    Calls Tryd.prog 24 #[.int .i64 x] w fun e w' => e = .returned (.int .i8 (near x (-128) 127)) ∧ w = w' := by
  go_enter Tryd.func24, Tryd.ntmps24
  go_wp2_with (go_at_call 43; refine (bring8 _ _ _ (by decide) (by decide) (by decide) _).mono ?_; rintro e w' ⟨rfl, rfl⟩)
  go_ret
  exact ⟨rfl, rfl⟩

theorem sat32 (x : Int) (w : World) :
    Calls Tryd.prog 48 #[.int .i64 x] w fun e w' => e = .returned (.int .i32 (near x (-2147483648) 2147483647)) ∧ w = w' := by
  go_enter Tryd.func48, Tryd.ntmps48
  go_wp2_with (go_at_call 53; refine (bring32 _ _ _ (by decide) (by decide) (by decide) _).mono ?_; rintro e w' ⟨rfl, rfl⟩)
  go_ret
  exact ⟨rfl, rfl⟩

theorem ref_near (x lo hi : Int) (w : World) :
    Calls Tryd.prog 27 #[.int .i64 x, .int .i64 lo, .int .i64 hi] w fun e w' => e = .returned (.int .i64 (near x lo hi)) ∧ w = w' := by
  by_cases c1 : x < lo
  · go_enter Tryd.func27, Tryd.ntmps27
    go_wp2
    go_ret
    exact ⟨ret_int (by unfold near; omega), rfl⟩
  · by_cases c2 : hi < x
    · go_enter Tryd.func27, Tryd.ntmps27
      go_wp2
      go_ret
      exact ⟨ret_int (by unfold near; omega), rfl⟩
    · go_enter Tryd.func27, Tryd.ntmps27
      go_wp2
      go_ret
      exact ⟨ret_int (by unfold near; omega), rfl⟩
end Go.Proofs.YthblniakghfchaaDoor
