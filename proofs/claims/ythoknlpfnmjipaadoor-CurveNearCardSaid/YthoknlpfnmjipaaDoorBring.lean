/-
  Contracts of the functions that bring a number to a range: for every argument of its type each returns the nearest number of the range and leaves memory as it was.
-/
import Derived.Test.YthoknlpfnmjipaaDoorKit
namespace Go.Proofs.YthoknlpfnmjipaaDoor
open Go.RowKit
set_option linter.unusedVariables false



theorem bring64 (x lo hi : Int) (h2 : lo ≤ hi) (w : World) :
    Calls Tryd.prog 26 #[.int .i64 x, .int .i64 lo, .int .i64 hi] w fun e w' => e = .returned (.int .i64 (near x lo hi)) ∧ w = w' := by
  by_cases c1 : x < lo
  · go_enter Tryd.func26, Tryd.ntmps26
    go_wp2
    go_ret
    exact ⟨ret_int (by unfold near; omega), rfl⟩
  · by_cases c2 : hi < x
    · go_enter Tryd.func26, Tryd.ntmps26
      go_wp2
      go_ret
      exact ⟨ret_int (by unfold near; omega), rfl⟩
    · go_enter Tryd.func26, Tryd.ntmps26
      go_wp2
      go_ret
      exact ⟨ret_int (by unfold near; omega), rfl⟩



end Go.Proofs.YthoknlpfnmjipaaDoor
