/-
  Contracts of the functions that bring a number to a range: for every argument of its type each returns the nearest number of the range and leaves memory as it was.
-/
import Derived.Test.YthkehkjoaelmaaaProg
import Derived.WalkKit
import Derived.WalkLawsBesides
import Derived.WalkSpells
import Derived.BigQuiet
import Derived.Deep.QuietTactic
import Derived.Outline
import Derived.Lib.Hide
namespace Go.Proofs.Ythkehkjoaelmaaa
open Go.RowKit
set_option linter.unusedVariables false

/-- the number of [lo, hi] nearest to x -/
def near (x lo hi : Int) : Int := if x < lo then lo else if hi < x then hi else x

theorem ret_int {k : IntKind} {a b : Int} (h : a = b) : Ending.returned (.int k a) = .returned (.int k b) := by rw [h]

theorem near_in (x lo hi : Int) (h : lo ≤ hi) : lo ≤ near x lo hi ∧ near x lo hi ≤ hi := by unfold near; split <;> (try split) <;> omega

theorem bring8 (x lo hi : Int) (h1 : -128 ≤ lo) (h2 : lo ≤ hi) (h3 : hi ≤ 127) (w : World) :
    Calls Try.prog 30 #[.int .i64 x, .int .i8 lo, .int .i8 hi] w fun e w' => e = .returned (.int .i8 (near x lo hi)) ∧ w = w' := by
  by_cases c1 : x < lo
  · go_enter Try.func30, Try.ntmps30
    go_wp2
    go_ret
    exact ⟨ret_int (by unfold near; omega), rfl⟩
  · by_cases c2 : hi < x
    · go_enter Try.func30, Try.ntmps30
      go_wp2
      go_ret
      exact ⟨ret_int (by unfold near; omega), rfl⟩
    · go_enter Try.func30, Try.ntmps30
      go_wp2
      go_ret
      exact ⟨ret_int (by unfold near; omega), rfl⟩

theorem bring32 (x lo hi : Int) (h1 : -2147483648 ≤ lo) (h2 : lo ≤ hi) (h3 : hi ≤ 2147483647) (w : World) :
    Calls Try.prog 31 #[.int .i64 x, .int .i32 lo, .int .i32 hi] w fun e w' => e = .returned (.int .i32 (near x lo hi)) ∧ w = w' := by
  by_cases c1 : x < lo
  · go_enter Try.func31, Try.ntmps31
    go_wp2
    go_ret
    exact ⟨ret_int (by unfold near; omega), rfl⟩
  · by_cases c2 : hi < x
    · go_enter Try.func31, Try.ntmps31
      go_wp2
      go_ret
      exact ⟨ret_int (by unfold near; omega), rfl⟩
    · go_enter Try.func31, Try.ntmps31
      go_wp2
      go_ret
      exact ⟨ret_int (by unfold near; omega), rfl⟩

theorem bring64 (x lo hi : Int) (h2 : lo ≤ hi) (w : World) :
    Calls Try.prog 32 #[.int .i64 x, .int .i64 lo, .int .i64 hi] w fun e w' => e = .returned (.int .i64 (near x lo hi)) ∧ w = w' := by
  by_cases c1 : x < lo
  · go_enter Try.func32, Try.ntmps32
    go_wp2
    go_ret
    exact ⟨ret_int (by unfold near; omega), rfl⟩
  · by_cases c2 : hi < x
    · go_enter Try.func32, Try.ntmps32
      go_wp2
      go_ret
      exact ⟨ret_int (by unfold near; omega), rfl⟩
    · go_enter Try.func32, Try.ntmps32
      go_wp2
      go_ret
      exact ⟨ret_int (by unfold near; omega), rfl⟩

theorem sat8 (x : Int) (w : World) :
    Calls Try.prog 16 #[.int .i64 x] w fun e w' => e = .returned (.int .i8 (near x (-128) 127)) ∧ w = w' := by
  go_enter Try.func16, Try.ntmps16
  go_wp2_with (go_at_call 30; refine (bring8 _ _ _ (by decide) (by decide) (by decide) _).mono ?_; rintro e w' ⟨rfl, rfl⟩)
  go_ret
  exact ⟨rfl, rfl⟩

theorem sat32 (x : Int) (w : World) :
    Calls Try.prog 18 #[.int .i64 x] w fun e w' => e = .returned (.int .i32 (near x (-2147483648) 2147483647)) ∧ w = w' := by
  go_enter Try.func18, Try.ntmps18
  go_wp2_with (go_at_call 31; refine (bring32 _ _ _ (by decide) (by decide) (by decide) _).mono ?_; rintro e w' ⟨rfl, rfl⟩)
  go_ret
  exact ⟨rfl, rfl⟩

theorem ref_near (x lo hi : Int) (w : World) :
    Calls Try.prog 17 #[.int .i64 x, .int .i64 lo, .int .i64 hi] w fun e w' => e = .returned (.int .i64 (near x lo hi)) ∧ w = w' := by
  by_cases c1 : x < lo
  · go_enter Try.func17, Try.ntmps17
    go_wp2
    go_ret
    exact ⟨ret_int (by unfold near; omega), rfl⟩
  · by_cases c2 : hi < x
    · go_enter Try.func17, Try.ntmps17
      go_wp2
      go_ret
      exact ⟨ret_int (by unfold near; omega), rfl⟩
    · go_enter Try.func17, Try.ntmps17
      go_wp2
      go_ret
      exact ⟨ret_int (by unfold near; omega), rfl⟩

end Go.Proofs.Ythkehkjoaelmaaa
