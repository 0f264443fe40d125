/-
  Contracts of the functions that bring a number to a range: for every argument of its type each returns the nearest number of the range and leaves memory as it was.
-/
import Derived.Test.YtbggklhnmkiamaaDoorKit
namespace Go.Proofs.YtbggklhnmkiamaaDoor
open Go.RowKit
set_option linter.unusedVariables false

theorem bring8 (x lo hi : Int) (h1 : -128 ≤ lo) (h2 : lo ≤ hi) (h3 : hi ≤ 127) (w : World) :
    Calls Tryd.prog 31 #[.int .i64 x, .int .i8 lo, .int .i8 hi] w fun e w' => e = .returned (.int .i8 (near x lo hi)) ∧ w = w' := by
  by_cases c1 : x < lo
  · go_enter Tryd.func31, Tryd.ntmps31
    go_wp2
    go_ret
    exact ⟨ret_int (by unfold near; omega), rfl⟩
  · by_cases c2 : hi < x
    · go_enter Tryd.func31, Tryd.ntmps31
      go_wp2
      go_ret
      exact ⟨ret_int (by unfold near; omega), rfl⟩
    · go_enter Tryd.func31, Tryd.ntmps31
      go_wp2
      go_ret
      exact ⟨ret_int (by unfold near; omega), rfl⟩


theorem bring64 (x lo hi : Int) (h2 : lo ≤ hi) (w : World) :
    Calls Tryd.prog 29 #[.int .i64 x, .int .i64 lo, .int .i64 hi] w fun e w' => e = .returned (.int .i64 (near x lo hi)) ∧ w = w' := by
  by_cases c1 : x < lo
  · go_enter Tryd.func29, Tryd.ntmps29
    go_wp2
    go_ret
    exact ⟨ret_int (by unfold near; omega), rfl⟩
  · by_cases c2 : hi < x
    · go_enter Tryd.func29, Tryd.ntmps29
      go_wp2
      go_ret
      exact ⟨ret_int (by unfold near; omega), rfl⟩
    · go_enter Tryd.func29, Tryd.ntmps29
      go_wp2
      go_ret
      exact ⟨ret_int (by unfold near; omega), rfl⟩

theorem sat8 (x : Int) (w : World) :
    Calls Tryd.prog 30 #[.int .i64 x] w fun e w' => e = .returned (.int .i8 (near x (-128) 127)) ∧ w = w' := by
  go_enter Tryd.func30, Tryd.ntmps30
  go_wp2_with (go_at_call 31; refine (bring8 _ _ _ (by decide) (by decide) (by decide) _).mono ?_; rintro e w' ⟨rfl, rfl⟩)
  go_ret
  exact ⟨rfl, rfl⟩


theorem ref_near (x lo hi : Int) (w : World) :
    Calls Tryd.prog 25 #[.int .i64 x, .int .i64 lo, .int .i64 hi] w fun e w' => e = .returned (.int .i64 (near x lo hi)) ∧ w = w' := by
  by_cases c1 : x < lo
  · go_enter Tryd.func25, Tryd.ntmps25
    go_wp2
    go_ret
    exact ⟨ret_int (by unfold near; omega), rfl⟩
  · by_cases c2 : hi < x
    · go_enter Tryd.func25, Tryd.ntmps25
      go_wp2
      go_ret
      exact ⟨ret_int (by unfold near; omega), rfl⟩
    · go_enter Tryd.func25, Tryd.ntmps25
      go_wp2
      go_ret
      exact ⟨ret_int (by unfold near; omega), rfl⟩
end Go.Proofs.YtbggklhnmkiamaaDoor
