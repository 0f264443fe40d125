/-
  Contracts of Shift, product, Scale and Quant and of the document's Shift and Scale: for every argument of its type each returns 'shr' (the nearest whole number, of two the even one), brought to its range where it is to be, and leaves memory as it was.
-/
import Derived.Test.YthkehkjoaelmaaaBring
namespace Go.Proofs.Ythkehkjoaelmaaa
open Go.RowKit
set_option linter.unusedVariables false

/-! ### plain mathematics -/

/-- x divided by P to the nearest, of two the even one -/
def half (x P : Int) : Int := if P - x % P < x % P ∨ (x % P = P - x % P ∧ x / P % 2 = 1) then x / P + 1 else x / P
/-- x shifted down by n -/
def shr (x n : Int) : Int := if near n 0 62 = 0 then x else half x (2 ^ (near n 0 62).toNat)

theorem pow_bounds (m : Int) (h0 : 0 ≤ m) (h : m ≤ 62) : (1 : Int) ≤ 2 ^ m.toNat ∧ (2 : Int) ^ m.toNat ≤ 4611686018427387904 := by
  have hk : m.toNat ≤ 62 := by omega
  generalize m.toNat = k at hk
  constructor
  · exact Int.pow_pos (by decide)
  · have : (2 : Nat) ^ k ≤ 2 ^ 62 := Nat.pow_le_pow_right (by decide) hk
    have h2 : ((2 : Int) ^ k) = ((2 ^ k : Nat) : Int) := by simp
    rw [h2]; have : (2 : Nat) ^ 62 = 4611686018427387904 := by decide
    omega

theorem pow_half (m : Int) (h0 : 1 ≤ m) : (2 : Int) ^ m.toNat = 2 * 2 ^ (m.toNat - 1) := by
  obtain ⟨k, hk⟩ : ∃ k, m.toNat = k + 1 := ⟨m.toNat - 1, by omega⟩
  rw [hk, Int.pow_succ, Nat.add_sub_cancel]; omega

theorem and_mask (x : Int) (k : Nat) (hk : k ≤ 62) : bits .and .i64 x (2 ^ k - 1) = x % 2 ^ k := by
  have hp : (2 : Nat) ^ k ≤ 2 ^ 62 := Nat.pow_le_pow_right (by decide) hk
  have hp' : (2 : Nat) ^ 62 = 4611686018427387904 := by decide
  have h1 : 1 ≤ (2 : Nat) ^ k := Nat.two_pow_pos k
  have e2 : (2 : Int) ^ k = ((2 ^ k : Nat) : Int) := by simp
  have ea : (BitVec.ofInt 64 x).toNat = (x % 18446744073709551616).toNat := by simp [BitVec.toNat_ofInt]
  have eb : (BitVec.ofInt 64 (2 ^ k - 1)).toNat = 2 ^ k - 1 := by
    rw [BitVec.toNat_ofInt, e2]
    have : ((2 ^ k : Nat) : Int) - 1 = ((2 ^ k - 1 : Nat) : Int) := by omega
    rw [this]
    have h3 : (((2 ^ k - 1 : Nat) : Int) % ((2 ^ 64 : Nat) : Int)) = ((2 ^ k - 1 : Nat) : Int) := by
      apply Int.emod_eq_of_lt (by omega)
      have : (2 : Nat) ^ 64 = 18446744073709551616 := by decide
      omega
    rw [h3, Int.toNat_natCast]
  have hb : bits .and .i64 x (2 ^ k - 1) = IntKind.i64.wrap (((BitVec.ofInt 64 x) &&& (BitVec.ofInt 64 (2 ^ k - 1))).toNat : Nat) := rfl
  rw [hb, BitVec.toNat_and, ea, eb, Nat.and_two_pow_sub_one_eq_mod]
  have hd : ((2 ^ k : Nat) : Int) ∣ 18446744073709551616 := by
    have : (2 : Nat) ^ k ∣ 2 ^ 64 := Nat.pow_dvd_pow 2 (by omega)
    exact Int.natCast_dvd_natCast.mpr this
  have hm : (((x % 18446744073709551616).toNat % 2 ^ k : Nat) : Int) = x % 2 ^ k := by
    rw [e2, Int.natCast_emod, Int.toNat_of_nonneg (Int.emod_nonneg _ (by decide)), Int.emod_emod_of_dvd _ hd]
  rw [hm, e2]
  have hl := Int.emod_nonneg x (b := ((2 ^ k : Nat) : Int)) (by omega)
  have hu := Int.emod_lt_of_pos x (b := ((2 ^ k : Nat) : Int)) (by omega)
  exact IntWalk.i64_in _ ⟨by omega, by omega⟩

theorem and_one (x : Int) : bits .and .i64 x 1 = x % 2 := by
  have := and_mask x 1 (by decide)
  simpa using this

theorem quo_bounds (x P : Int) (h1 : -9223372036854775808 ≤ x) (h2 : x ≤ 9223372036854775807) (hP : 2 ≤ P) : -4611686018427387904 ≤ x / P ∧ x / P ≤ 4611686018427387903 := by
  constructor
  · exact Int.le_ediv_of_mul_le (by omega) (by have := Int.mul_le_mul_of_nonpos_left (a := -4611686018427387904) (by decide) hP; omega)
  · have : x / P < 4611686018427387904 := Int.ediv_lt_of_lt_mul (by omega) (by have := Int.mul_le_mul_of_nonneg_left hP (show (0 : Int) ≤ 4611686018427387904 by decide); omega)
    omega

set_option maxHeartbeats 400000 in
theorem shift (x n : Int) (h1 : -9223372036854775808 ≤ x) (h2 : x ≤ 9223372036854775807) (w : World) :
    Calls Try.prog 19 #[.int .i64 x, .int .i64 n] w fun e w' => e = .returned (.int .i64 (shr x n)) ∧ w = w' := by
  obtain ⟨m, hm⟩ : ∃ m, near n 0 62 = m := ⟨_, rfl⟩
  have hb : ∀ w, Calls Try.prog 32 #[.int .i64 n, .int .i64 0, .int .i64 62] w fun e w' => e = .returned (.int .i64 m) ∧ w = w' := by
    intro w; rw [← hm]; exact bring64 n 0 62 (by decide) w
  have hm2 := near_in n 0 62 (by decide)
  rw [hm] at hm2
  obtain ⟨m1, m2⟩ := hm2
  have hs : shr x n = if m = 0 then x else half x (2 ^ m.toNat) := by unfold shr; rw [hm]
  rw [hs]
  clear hm hs
  by_cases c0 : m = 0
  · subst c0
    go_enter Try.func19, Try.ntmps19
    go_wp2_with (go_at_call 32; refine (hb _).mono ?_; rintro e w' ⟨rfl, rfl⟩)
    go_ret
    exact ⟨rfl, rfl⟩
  · rw [if_neg c0]
    have p1 := pow_bounds m (by omega) m2
    have p2 : (1 : Int) ≤ 2 ^ (m.toNat - 1) ∧ (2 : Int) ^ (m.toNat - 1) ≤ 4611686018427387904 := by have h := pow_bounds (m - 1) (by omega) (by omega); rwa [show (m - 1).toNat = m.toNat - 1 by omega] at h
    have p3 := pow_half m (by omega)
    have p4 := and_mask x m.toNat (by omega)
    have p5 := and_one (x / 2 ^ m.toNat)
    have p6 := quo_bounds x (2 ^ m.toNat) h1 h2 (by omega)
    have r1 := Int.emod_nonneg x (b := 2 ^ m.toNat) (by omega)
    have r2 := Int.emod_lt_of_pos x (b := 2 ^ m.toNat) (by omega)
    have P3 := Lib.hid p3
    clear p3
    by_cases c1 : 2 ^ (m.toNat - 1) < x % 2 ^ m.toNat
    · go_enter Try.func19, Try.ntmps19
      go_wp2_with (go_at_call 32; refine (hb _).mono ?_; rintro e w' ⟨rfl, rfl⟩)
      go_ret
      exact ⟨ret_int (by have := P3.out; unfold half; rw [if_pos (by omega)]), rfl⟩
    · by_cases c2 : x % 2 ^ m.toNat = 2 ^ (m.toNat - 1)
      · have C2 := Lib.hid c2
        have c2' : (x % 2 ^ m.toNat == 2 ^ (m.toNat - 1)) = true := by simpa using c2
        clear c2
        by_cases c3 : x / 2 ^ m.toNat % 2 = 1
        · have c3' : (x / 2 ^ m.toNat % 2 == 1) = true := by simpa using c3
          have C3 := Lib.hid c3
          clear c3
          go_enter Try.func19, Try.ntmps19
          go_wp2_with (go_at_call 32; refine (hb _).mono ?_; rintro e w' ⟨rfl, rfl⟩)
          go_ret
          exact ⟨ret_int (by have := P3.out; have := C2.out; have := C3.out; unfold half; rw [if_pos (by omega)]), rfl⟩
        · have c3' : (x / 2 ^ m.toNat % 2 == 1) = false := by simpa using c3
          have C3 := Lib.hid c3
          clear c3
          go_enter Try.func19, Try.ntmps19
          go_wp2_with (go_at_call 32; refine (hb _).mono ?_; rintro e w' ⟨rfl, rfl⟩)
          go_ret
          exact ⟨ret_int (by have := P3.out; have := C2.out; have := C3.out; unfold half; rw [if_neg (by omega)]), rfl⟩
      · have c2' : (x % 2 ^ m.toNat == 2 ^ (m.toNat - 1)) = false := by simpa using c2
        have C2 := Lib.hid c2
        clear c2
        go_enter Try.func19, Try.ntmps19
        go_wp2_with (go_at_call 32; refine (hb _).mono ?_; rintro e w' ⟨rfl, rfl⟩)
        go_ret
        exact ⟨ret_int (by have := P3.out; have := C2.out; unfold half; rw [if_neg (by omega)]), rfl⟩

end Go.Proofs.Ythkehkjoaelmaaa
