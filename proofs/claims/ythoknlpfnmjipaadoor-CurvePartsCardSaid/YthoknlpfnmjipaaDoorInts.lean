/-
  Contract of the law's ints: two slices that hold the same numbers: it returns true; nothing is written.
-/
import Derived.Test.YthoknlpfnmjipaaDoorKit
import Derived.Deep.QuietTactic
import Derived.BigQuiet
namespace Go.Proofs.YthoknlpfnmjipaaDoor
open Go.RowKit
set_option linter.unusedVariables false

set_option maxHeartbeats 400000 in
theorem ints_same (a : Option Addr) (n cap : Nat) (xs : List Int) (b : Option Addr) (cap' : Nat) (w : World) (hX : Elems .i32 w a n xs) (hY : Elems .i32 w b n xs) :
    Calls Tryd.prog 18 #[.slice a n cap, .slice b n cap'] w fun e w' => e = .returned (.bool true) ∧ ∃ d, w' = w.drewN d := by
  have hn := hX.2.1
  go_enter Tryd.func18, Tryd.ntmps18
  go_wp2
  go_loopw [5] (fun i wr => ∃ (k d : Nat), k ≤ n ∧ i = .int .i64 k ∧ wr = w.drewN d) (fun i _ => n - (intOf i).toNat)
  case atStart => exact ⟨0, 0, by omega, rfl, rfl⟩
  case round =>
    obtain ⟨k, d, hk, rfl, rfl⟩ := hrel
    by_cases hlt : k < n
    · obtain ⟨p, o, v, rfl, hc, hv, wv⟩ := hX.at_ hlt
      obtain ⟨p', o', u, rfl, hc', hu, wu⟩ := hY.at_ hlt
      obtain rfl : v = u := by rw [← hv.out, ← hu.out]
      clear hv hu wv wu hX hY
      go_wp2
      go_quiet (fail)
      go_wp2
      go_roundw
      case rel => exact ⟨k + 1, _, by omega, by go_num, rfl⟩
      case measure => simp [intOf]; omega
    · obtain rfl : k = n := by omega
      clear hX hY
      go_wp2
      go_ret
      exact ⟨rfl, _, rfl⟩

end Go.Proofs.YthoknlpfnmjipaaDoor
