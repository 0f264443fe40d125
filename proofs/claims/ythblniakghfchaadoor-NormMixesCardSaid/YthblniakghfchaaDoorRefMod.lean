/-
  Contracts of the document's Mod and Wrap: each returns its numbers' sum, wrapped to 32 bits, and leaves memory as it was.
-/
import Derived.Test.YthblniakghfchaaDoorKit
namespace Go.Proofs.YthblniakghfchaaDoor
open Go.RowKit
set_option linter.unusedVariables false

theorem tmod_wrap (x : Int) : (x.tmod 4294967296 = x % 4294967296 ∨ x.tmod 4294967296 = x % 4294967296 - 4294967296) ∧ (0 ≤ x → x.tmod 4294967296 = x % 4294967296) ∧ (x.tmod 4294967296 = x % 4294967296 - 4294967296 → x.tmod 4294967296 < 0) ∧ (x.tmod 4294967296 = x % 4294967296 → 0 ≤ x.tmod 4294967296) := by
  rcases Int.le_total 0 x with h | h
  · have := Int.tmod_eq_emod_of_nonneg (b := 4294967296) h; omega
  · have h1 := Int.neg_tmod x 4294967296
    have h2 := Int.tmod_eq_emod_of_nonneg (a := -x) (b := 4294967296) (by omega)
    omega

theorem ref_mod (x : Int) (w : World) :
    Calls Tryd.prog 50 #[.int .i64 x] w fun e w' => e = .returned (.int .i32 (wrap32 x)) ∧ w = w' := by
  have F := Lib.hid (tmod_wrap x)
  obtain ⟨r, hr⟩ : ∃ r, x.tmod 4294967296 = r := ⟨_, rfl⟩
  rw [hr] at F
  have b : -4294967296 ≤ r ∧ r < 4294967296 := by have := F.out; omega
  by_cases c1 : r < 0
  · by_cases c2 : 2147483648 ≤ r + 4294967296
    · go_enter Tryd.func50, Tryd.ntmps50
      go_wp2
      go_ret
      exact ⟨ret_int (by have := F.out; unfold wrap32; omega), rfl⟩
    · go_enter Tryd.func50, Tryd.ntmps50
      go_wp2
      go_ret
      exact ⟨ret_int (by have := F.out; unfold wrap32; omega), rfl⟩
  · by_cases c2 : 2147483648 ≤ r
    · go_enter Tryd.func50, Tryd.ntmps50
      go_wp2
      go_ret
      exact ⟨ret_int (by have := F.out; unfold wrap32; omega), rfl⟩
    · go_enter Tryd.func50, Tryd.ntmps50
      go_wp2
      go_ret
      exact ⟨ret_int (by have := F.out; unfold wrap32; omega), rfl⟩

theorem ref_wrap (a : Option Addr) (n cap : Nat) (xs : List Int) (w : World) (h : Elems .i64 w a n xs) :
    Calls Tryd.prog 40 #[.slice a n cap] w fun e w' => e = .returned (.int .i32 (wsum xs)) ∧ w = w' := by
  have hn := h.2.1
  go_enter Tryd.func40, Tryd.ntmps40
  go_wp2
  go_loop [3, 4] (fun s i => ∃ (k : Nat) (t : Int), k ≤ n ∧ i = .int .i64 k ∧ s = .int .i64 t ∧ Hid (t = wrap32 (xs.take k).sum) ∧ -2147483648 ≤ t ∧ t ≤ 2147483647) (fun _ i => n - (intOf i).toNat)
  case atStart => exact ⟨0, 0, by omega, rfl, rfl, Lib.hid (by simp [wrap32]), by omega, by omega⟩
  case round =>
    obtain ⟨k, t, hk, rfl, rfl, ht, t1, t2⟩ := hrel
    by_cases hlt : k < n
    · obtain ⟨b, off, v, rfl, hc, hv, wv⟩ := h.at_ hlt
      have T : Hid (wrap32 (t + wrap32 v) = wrap32 (xs.take (k + 1)).sum) := Lib.hid (by rw [sum_step xs k (by rw [h.1]; exact hlt), hv.out, ht.out, wrap32_add2])
      obtain ⟨v1, v2⟩ := wrap32_bd v
      obtain ⟨T1, T2⟩ := wrap32_bd (t + wrap32 v)
      clear ht hv wv h
      go_wp2_with (go_at_call 50; refine (ref_mod _ _).mono ?_; rintro e w' ⟨rfl, rfl⟩)
      go_round
      case rel => exact ⟨k + 1, wrap32 (t + wrap32 v), by omega, by go_num, rfl, T, by omega, by omega⟩
      case measure => simp [intOf]; omega
    · have hl := h.1
      clear h
      go_wp2
      go_ret
      exact ⟨ret_int (by rw [ht.out, sum_all xs k (by omega)]; rfl), rfl⟩

end Go.Proofs.YthblniakghfchaaDoor
