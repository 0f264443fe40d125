/-
  Contracts of Wrap, Sum and of the document's Mod and Wrap: for every list of numbers each returns their sum, wrapped to 32 bits, and leaves memory as it was.
-/
import Derived.Test.YthblniakghfchaaDoorElems
import Derived.Test.YthblniakghfchaaDoorRefMod
namespace Go.Proofs.YthblniakghfchaaDoor
open Go.RowKit
set_option linter.unusedVariables false

theorem sum32 (a : Option Addr) (n cap : Nat) (xs : List Int) (w : World) (h : Elems .i32 w a n xs) :
    Calls Tryd.prog 38 #[.slice a n cap] w fun e w' => e = .returned (.int .i32 (wsum xs)) ∧ w = w' := by
  have hn := h.2.1
  go_enter Tryd.func38, Tryd.ntmps38
  go_wp2
  go_loop [3, 8] (fun s i => ∃ (k : Nat) (t : Int), k ≤ n ∧ i = .int .i64 k ∧ s = .int .i32 t ∧ Hid (t = wrap32 (xs.take k).sum)) (fun _ i => n - (intOf i).toNat)
  case atStart => exact ⟨0, 0, by omega, rfl, rfl, Lib.hid (by simp [wrap32])⟩
  case round =>
    obtain ⟨k, t, hk, rfl, rfl, ht⟩ := hrel
    by_cases hlt : k < n
    · obtain ⟨b, off, v, rfl, hc, hv, wv⟩ := h.at_ hlt
      have T : Hid (wrap32 (t + v) = wrap32 (xs.take (k + 1)).sum) := Lib.hid (by rw [sum_step xs k (by rw [h.1]; exact hlt), hv.out, ht.out, wrap32_add])
      clear ht hv wv h
      go_wp2
      go_round
      case rel => exact ⟨k + 1, wrap32 (t + v), by omega, by go_num, rfl, T⟩
      case measure => simp [intOf]; omega
    · have hl := h.1
      clear h
      go_wp2
      go_ret
      exact ⟨ret_int (by rw [ht.out, sum_all xs k (by omega)]; rfl), rfl⟩


end Go.Proofs.YthblniakghfchaaDoor
