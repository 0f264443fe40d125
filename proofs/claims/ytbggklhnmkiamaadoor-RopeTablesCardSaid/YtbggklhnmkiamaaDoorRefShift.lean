/-
  Contracts of the document's Shift and of products that are shifted: for every argument of its type the document's Shift returns 'shr', as the program's does; Scale, Quant and the document's Scale return the product, shifted, brought to its range; memory stays as it was.
-/
import Derived.Test.YtbggklhnmkiamaaDoorShift
namespace Go.Proofs.YtbggklhnmkiamaaDoor
open Go.RowKit
set_option linter.unusedVariables false

/-! ### the document's Shift: its loop makes 2^n; behind it each sign of x has its own walk -/
theorem ref_neg (x n : Int) (hn : 1 ≤ n) (hn2 : n ≤ 62) (h1 : -9223372036854775808 ≤ x) (h2 : x ≤ 9223372036854775807) (hx : x < 0) (w : World) :
    Calls Tryd.prog 22 #[.int .i64 x, .int .i64 n] w fun e w' => e = .returned (.int .i64 (half x (2 ^ n.toNat))) ∧ w = w' := by
  go_enter Tryd.func22, Tryd.ntmps22
  go_wp2
  go_loop [5, 6] (fun d i => ∃ (k : Nat) (p : Int), k ≤ n.toNat ∧ i = .int .i64 k ∧ d = .int .i64 p ∧ Hid (p = 2 ^ k) ∧ 1 ≤ p ∧ p ≤ 4611686018427387904) (fun _ i => n.toNat - (intOf i).toNat)
  case atStart => exact ⟨0, 1, by omega, rfl, rfl, Lib.hid rfl, by omega, by omega⟩
  case round =>
    obtain ⟨k, p, hk, rfl, rfl, hp, p1, p2⟩ := hrel
    by_cases hlt : k < n.toNat
    · have hlt' : (k : Int) < n := by omega
      have P : Hid (p * 2 = 2 ^ (k + 1)) := Lib.hid (by rw [Int.pow_succ, hp.out])
      have p3 : p * 2 ≤ 4611686018427387904 := by
        have h := P.out
        have := pow_bounds (((k + 1 : Nat) : Int)) (by omega) (by omega)
        rw [Int.toNat_natCast] at this
        omega
      clear hp
      go_wp2
      go_round
      case rel => exact ⟨k + 1, p * 2, by omega, by go_num, rfl, P, by omega, by omega⟩
      case measure => simp [intOf]; omega
    · have hge : ¬ ((k : Int) < n) := by omega
      obtain rfl : k = n.toNat := by omega
      have hp2 : 2 ≤ p := by
        have h := hp.out
        have := pow_half n hn
        have := pow_bounds n (by omega) hn2
        have := pow_bounds (n - 1) (by omega) (by omega)
        rw [show (n - 1).toNat = n.toNat - 1 by omega] at this
        omega
      have hq := quo_bounds x p h1 h2 hp2
      have r1 := Int.emod_nonneg x (b := p) (by omega)
      have r2 := Int.emod_lt_of_pos x (b := p) (by omega)
      have HP := Lib.hid hp.out.symm
      clear hp
      by_cases hr0 : x % p = 0
      · obtain ⟨e1, e2⟩ := tdiv_neg_eq x p hr0
        have R := Lib.hid hr0
        clear hr0 r1 r2
        have hz : ((0 : Int) == p) = false := by simp; omega
        go_wp2
        go_ret
        exact ⟨ret_int (by rw [HP.out]; have := R.out; unfold half; rw [if_neg (by omega)]), rfl⟩
      · obtain ⟨e1, e2⟩ := tdiv_neg_ne x p hx (by omega) hr0
        have r3 : 0 < x % p := by omega
        clear hr0 r1
        by_cases c1 : p - x % p < x % p
        · go_wp2
          go_ret
          exact ⟨ret_int (by rw [HP.out]; unfold half; rw [if_pos (by omega)]), rfl⟩
        · by_cases c2 : x % p = p - x % p
          · have C2 := Lib.hid c2
            have c2' : (x % p == p - x % p) = true := by simpa using c2
            clear c2
            by_cases c3 : x / p % 2 = 1
            · have C3 := Lib.hid c3
              have c3' : ((x / p).tmod 2 != 0) = true := by rw [tmod_two]; simpa using c3
              clear c3
              go_wp2
              go_ret
              exact ⟨ret_int (by rw [HP.out]; have := C2.out; have := C3.out; unfold half; rw [if_pos (by omega)]), rfl⟩
            · have C3 := Lib.hid c3
              have c3' : ((x / p).tmod 2 != 0) = false := by rw [tmod_two]; simpa using c3
              clear c3
              go_wp2
              go_ret
              exact ⟨ret_int (by rw [HP.out]; have := C2.out; have := C3.out; unfold half; rw [if_neg (by omega)]), rfl⟩
          · have C2 := Lib.hid c2
            have c2' : (x % p == p - x % p) = false := by simpa using c2
            clear c2
            go_wp2
            go_ret
            exact ⟨ret_int (by rw [HP.out]; have := C2.out; unfold half; rw [if_neg (by omega)]), rfl⟩

theorem ref_pos (x n : Int) (hn : 1 ≤ n) (hn2 : n ≤ 62) (h1 : -9223372036854775808 ≤ x) (h2 : x ≤ 9223372036854775807) (hx : 0 ≤ x) (w : World) :
    Calls Tryd.prog 22 #[.int .i64 x, .int .i64 n] w fun e w' => e = .returned (.int .i64 (half x (2 ^ n.toNat))) ∧ w = w' := by
  go_enter Tryd.func22, Tryd.ntmps22
  go_wp2
  go_loop [5, 6] (fun d i => ∃ (k : Nat) (p : Int), k ≤ n.toNat ∧ i = .int .i64 k ∧ d = .int .i64 p ∧ Hid (p = 2 ^ k) ∧ 1 ≤ p ∧ p ≤ 4611686018427387904) (fun _ i => n.toNat - (intOf i).toNat)
  case atStart => exact ⟨0, 1, by omega, rfl, rfl, Lib.hid rfl, by omega, by omega⟩
  case round =>
    obtain ⟨k, p, hk, rfl, rfl, hp, p1, p2⟩ := hrel
    by_cases hlt : k < n.toNat
    · have hlt' : (k : Int) < n := by omega
      have P : Hid (p * 2 = 2 ^ (k + 1)) := Lib.hid (by rw [Int.pow_succ, hp.out])
      have p3 : p * 2 ≤ 4611686018427387904 := by
        have h := P.out
        have := pow_bounds (((k + 1 : Nat) : Int)) (by omega) (by omega)
        rw [Int.toNat_natCast] at this
        omega
      clear hp
      go_wp2
      go_round
      case rel => exact ⟨k + 1, p * 2, by omega, by go_num, rfl, P, by omega, by omega⟩
      case measure => simp [intOf]; omega
    · have hge : ¬ ((k : Int) < n) := by omega
      obtain rfl : k = n.toNat := by omega
      have hp2 : 2 ≤ p := by
        have h := hp.out
        have := pow_half n hn
        have := pow_bounds n (by omega) hn2
        have := pow_bounds (n - 1) (by omega) (by omega)
        rw [show (n - 1).toNat = n.toNat - 1 by omega] at this
        omega
      have hq := quo_bounds x p h1 h2 hp2
      have r1 := Int.emod_nonneg x (b := p) (by omega)
      have r2 := Int.emod_lt_of_pos x (b := p) (by omega)
      have HP := Lib.hid hp.out.symm
      clear hp
      have q0 : 0 ≤ x / p := Int.ediv_nonneg hx (by omega)
      by_cases c1 : p - x % p < x % p
      · go_wp2
        go_ret
        exact ⟨ret_int (by rw [HP.out]; unfold half; rw [if_pos (by omega)]), rfl⟩
      · by_cases c2 : x % p = p - x % p
        · have C2 := Lib.hid c2
          have c2' : (x % p == p - x % p) = true := by simpa using c2
          clear c2
          by_cases c3 : x / p % 2 = 1
          · have C3 := Lib.hid c3
            have c3' : (x / p % 2 != 0) = true := by simp only [bne_iff_ne]; omega
            clear c3
            go_wp2
            go_ret
            exact ⟨ret_int (by rw [HP.out]; have := C2.out; have := C3.out; unfold half; rw [if_pos (by omega)]), rfl⟩
          · have C3 := Lib.hid c3
            have c3' : (x / p % 2 != 0) = false := by simp only [bne_eq_false_iff_eq]; omega
            clear c3
            go_wp2
            go_ret
            exact ⟨ret_int (by rw [HP.out]; have := C2.out; have := C3.out; unfold half; rw [if_neg (by omega)]), rfl⟩
        · have C2 := Lib.hid c2
          have c2' : (x % p == p - x % p) = false := by simpa using c2
          clear c2
          go_wp2
          go_ret
          exact ⟨ret_int (by rw [HP.out]; have := C2.out; unfold half; rw [if_neg (by omega)]), rfl⟩

theorem ref_neg62 (x n : Int) (hn : 62 < n) (h1 : -9223372036854775808 ≤ x) (h2 : x ≤ 9223372036854775807) (hx : x < 0) (w : World) :
    Calls Tryd.prog 22 #[.int .i64 x, .int .i64 n] w fun e w' => e = .returned (.int .i64 (half x 4611686018427387904)) ∧ w = w' := by
  go_enter Tryd.func22, Tryd.ntmps22
  go_wp2
  go_loop [5, 6] (fun d i => ∃ (k : Nat) (p : Int), k ≤ 62 ∧ i = .int .i64 k ∧ d = .int .i64 p ∧ Hid (p = 2 ^ k) ∧ 1 ≤ p ∧ p ≤ 4611686018427387904) (fun _ i => 62 - (intOf i).toNat)
  case atStart => exact ⟨0, 1, by omega, rfl, rfl, Lib.hid rfl, by omega, by omega⟩
  case round =>
    obtain ⟨k, p, hk, rfl, rfl, hp, p1, p2⟩ := hrel
    by_cases hlt : k < 62
    · have hlt' : (k : Int) < 62 := by omega
      have P : Hid (p * 2 = 2 ^ (k + 1)) := Lib.hid (by rw [Int.pow_succ, hp.out])
      have p3 : p * 2 ≤ 4611686018427387904 := by
        have h := P.out
        have := pow_bounds (((k + 1 : Nat) : Int)) (by omega) (by omega)
        rw [Int.toNat_natCast] at this
        omega
      clear hp
      go_wp2
      go_round
      case rel => exact ⟨k + 1, p * 2, by omega, by go_num, rfl, P, by omega, by omega⟩
      case measure => simp [intOf]; omega
    · have hge : ¬ ((k : Int) < 62) := by omega
      obtain rfl : k = 62 := by omega
      have hp2 : 2 ≤ p := by
        have h := hp.out
        have : (2 : Int) ^ 62 = 4611686018427387904 := by decide
        omega
      have hq := quo_bounds x p h1 h2 hp2
      have r1 := Int.emod_nonneg x (b := p) (by omega)
      have r2 := Int.emod_lt_of_pos x (b := p) (by omega)
      have HP := hid62 hp.out
      clear hp
      by_cases hr0 : x % p = 0
      · obtain ⟨e1, e2⟩ := tdiv_neg_eq x p hr0
        have R := Lib.hid hr0
        clear hr0 r1 r2
        have hz : ((0 : Int) == p) = false := by simp; omega
        go_wp2
        go_ret
        exact ⟨ret_int (by rw [HP.out]; have := R.out; unfold half; rw [if_neg (by omega)]), rfl⟩
      · obtain ⟨e1, e2⟩ := tdiv_neg_ne x p hx (by omega) hr0
        have r3 : 0 < x % p := by omega
        clear hr0 r1
        by_cases c1 : p - x % p < x % p
        · go_wp2
          go_ret
          exact ⟨ret_int (by rw [HP.out]; unfold half; rw [if_pos (by omega)]), rfl⟩
        · by_cases c2 : x % p = p - x % p
          · have C2 := Lib.hid c2
            have c2' : (x % p == p - x % p) = true := by simpa using c2
            clear c2
            by_cases c3 : x / p % 2 = 1
            · have C3 := Lib.hid c3
              have c3' : ((x / p).tmod 2 != 0) = true := by rw [tmod_two]; simpa using c3
              clear c3
              go_wp2
              go_ret
              exact ⟨ret_int (by rw [HP.out]; have := C2.out; have := C3.out; unfold half; rw [if_pos (by omega)]), rfl⟩
            · have C3 := Lib.hid c3
              have c3' : ((x / p).tmod 2 != 0) = false := by rw [tmod_two]; simpa using c3
              clear c3
              go_wp2
              go_ret
              exact ⟨ret_int (by rw [HP.out]; have := C2.out; have := C3.out; unfold half; rw [if_neg (by omega)]), rfl⟩
          · have C2 := Lib.hid c2
            have c2' : (x % p == p - x % p) = false := by simpa using c2
            clear c2
            go_wp2
            go_ret
            exact ⟨ret_int (by rw [HP.out]; have := C2.out; unfold half; rw [if_neg (by omega)]), rfl⟩

theorem ref_pos62 (x n : Int) (hn : 62 < n) (h1 : -9223372036854775808 ≤ x) (h2 : x ≤ 9223372036854775807) (hx : 0 ≤ x) (w : World) :
    Calls Tryd.prog 22 #[.int .i64 x, .int .i64 n] w fun e w' => e = .returned (.int .i64 (half x 4611686018427387904)) ∧ w = w' := by
  go_enter Tryd.func22, Tryd.ntmps22
  go_wp2
  go_loop [5, 6] (fun d i => ∃ (k : Nat) (p : Int), k ≤ 62 ∧ i = .int .i64 k ∧ d = .int .i64 p ∧ Hid (p = 2 ^ k) ∧ 1 ≤ p ∧ p ≤ 4611686018427387904) (fun _ i => 62 - (intOf i).toNat)
  case atStart => exact ⟨0, 1, by omega, rfl, rfl, Lib.hid rfl, by omega, by omega⟩
  case round =>
    obtain ⟨k, p, hk, rfl, rfl, hp, p1, p2⟩ := hrel
    by_cases hlt : k < 62
    · have hlt' : (k : Int) < 62 := by omega
      have P : Hid (p * 2 = 2 ^ (k + 1)) := Lib.hid (by rw [Int.pow_succ, hp.out])
      have p3 : p * 2 ≤ 4611686018427387904 := by
        have h := P.out
        have := pow_bounds (((k + 1 : Nat) : Int)) (by omega) (by omega)
        rw [Int.toNat_natCast] at this
        omega
      clear hp
      go_wp2
      go_round
      case rel => exact ⟨k + 1, p * 2, by omega, by go_num, rfl, P, by omega, by omega⟩
      case measure => simp [intOf]; omega
    · have hge : ¬ ((k : Int) < 62) := by omega
      obtain rfl : k = 62 := by omega
      have hp2 : 2 ≤ p := by
        have h := hp.out
        have : (2 : Int) ^ 62 = 4611686018427387904 := by decide
        omega
      have hq := quo_bounds x p h1 h2 hp2
      have r1 := Int.emod_nonneg x (b := p) (by omega)
      have r2 := Int.emod_lt_of_pos x (b := p) (by omega)
      have HP := hid62 hp.out
      clear hp
      have q0 : 0 ≤ x / p := Int.ediv_nonneg hx (by omega)
      by_cases c1 : p - x % p < x % p
      · go_wp2
        go_ret
        exact ⟨ret_int (by rw [HP.out]; unfold half; rw [if_pos (by omega)]), rfl⟩
      · by_cases c2 : x % p = p - x % p
        · have C2 := Lib.hid c2
          have c2' : (x % p == p - x % p) = true := by simpa using c2
          clear c2
          by_cases c3 : x / p % 2 = 1
          · have C3 := Lib.hid c3
            have c3' : (x / p % 2 != 0) = true := by simp only [bne_iff_ne]; omega
            clear c3
            go_wp2
            go_ret
            exact ⟨ret_int (by rw [HP.out]; have := C2.out; have := C3.out; unfold half; rw [if_pos (by omega)]), rfl⟩
          · have C3 := Lib.hid c3
            have c3' : (x / p % 2 != 0) = false := by simp only [bne_eq_false_iff_eq]; omega
            clear c3
            go_wp2
            go_ret
            exact ⟨ret_int (by rw [HP.out]; have := C2.out; have := C3.out; unfold half; rw [if_neg (by omega)]), rfl⟩
        · have C2 := Lib.hid c2
          have c2' : (x % p == p - x % p) = false := by simpa using c2
          clear c2
          go_wp2
          go_ret
          exact ⟨ret_int (by rw [HP.out]; have := C2.out; unfold half; rw [if_neg (by omega)]), rfl⟩

theorem ref_shift (x n : Int) (h1 : -9223372036854775808 ≤ x) (h2 : x ≤ 9223372036854775807) (w : World) :
    Calls Tryd.prog 22 #[.int .i64 x, .int .i64 n] w fun e w' => e = .returned (.int .i64 (shr x n)) ∧ w = w' := by
  by_cases c0 : n ≤ 0
  · have hs : shr x n = x := by unfold shr near; rw [if_pos (by split <;> omega)]
    rw [hs]
    go_enter Tryd.func22, Tryd.ntmps22
    go_wp2
    go_ret
    exact ⟨rfl, rfl⟩
  · by_cases c1 : 62 < n
    · have hn : near n 0 62 = 62 := by unfold near; rw [if_neg (by omega), if_pos c1]
      have hs : shr x n = half x 4611686018427387904 := by unfold shr; rw [hn, if_neg (by decide)]; rfl
      rw [hs]
      by_cases hx : x < 0
      · exact ref_neg62 x n c1 h1 h2 hx w
      · exact ref_pos62 x n c1 h1 h2 (by omega) w
    · have hn : near n 0 62 = n := by unfold near; rw [if_neg (by omega), if_neg c1]
      have hs : shr x n = half x (2 ^ n.toNat) := by unfold shr; rw [hn, if_neg (by omega)]
      rw [hs]
      by_cases hx : x < 0
      · exact ref_neg x n (by omega) (by omega) h1 h2 hx w
      · exact ref_pos x n (by omega) (by omega) h1 h2 (by omega) w

end Go.Proofs.YtbggklhnmkiamaaDoor
