/-
  The numbers that grow out of a seed are of 8 bits.
-/
import Derived.Test.YtlgnpicnpnibfaaSeed
import Derived.Test.YtlgnpicnpnibfaaWt7
namespace Go.Proofs.Ytlgnpicnpnibfaa
open Go.RowKit
set_option linter.unusedVariables false

theorem grownL_len (s : Sz) (x : Nat) : (grownL s x).length = cnt s := by unfold grownL; simp
theorem grownL_wf (s : Sz) (x : Nat) (hx : x < 18446744073709551616) : ∀ y ∈ grownL s x, (Lit.int .i8 y).wf = true := by
  intro y hy
  obtain ⟨k, _, rfl⟩ := List.mem_map.1 hy
  exact numK_wf _ _ (seedK_lt x hx _)
theorem wt_one7 (W : Wt7) : W.cells.all (·.oneCell') = true := by simp [Wt7.cells, Value.oneCell']

end Go.Proofs.Ytlgnpicnpnibfaa
