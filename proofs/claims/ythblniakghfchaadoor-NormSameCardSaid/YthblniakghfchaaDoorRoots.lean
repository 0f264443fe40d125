/-
  Contracts of Root and Inverse and of the document's: each returns the greatest r with r times r not above its number; memory stays as it was.
-/
import Derived.Test.YthblniakghfchaaDoorKit
namespace Go.Proofs.YthblniakghfchaaDoor
open Go.RowKit
set_option linter.unusedVariables false

/-- r is the whole root of n -/
def IsRoot (n r : Int) : Prop := 0 ≤ r ∧ r * r ≤ n ∧ n < (r + 1) * (r + 1)

theorem sq_le {a b : Int} (h0 : 0 ≤ a) (h : a ≤ b) : a * a ≤ b * b := Int.mul_le_mul h h h0 (by omega)

theorem IsRoot.unique {n r s : Int} (h : IsRoot n r) (g : IsRoot n s) : r = s := by
  rcases Int.lt_or_le r s with h1 | h1
  · have := sq_le (a := r + 1) (b := s) (by have := h.1; omega) (by omega)
    have := h.2.2; have := g.2.1; omega
  · rcases Int.lt_or_le s r with h2 | h2
    · have := sq_le (a := s + 1) (b := r) (by have := g.1; omega) (by omega)
      have := g.2.2; have := h.2.1; omega
    · omega

theorem ofInt_nat (x : Nat) (h : x ≤ 18446744073709551615) : (BitVec.ofInt 64 (x : Int)).toNat = x := by
  rw [BitVec.toNat_ofInt]
  have : (((2 ^ 64 : Nat) : Int)) = 18446744073709551616 := by decide
  rw [this]; omega

theorem or_bit (m j : Nat) (hj : j ≤ 31) (hm : 2 ^ (j + 1) * m + 2 ^ j ≤ 4294967295) : bits .or .u64 ((2 ^ (j + 1) * m : Nat) : Int) ((2 ^ j : Nat) : Int) = ((2 ^ (j + 1) * m + 2 ^ j : Nat) : Int) := by
  have hb : bits .or .u64 ((2 ^ (j + 1) * m : Nat) : Int) ((2 ^ j : Nat) : Int) = IntKind.u64.wrap (((BitVec.ofInt 64 ((2 ^ (j + 1) * m : Nat) : Int)) ||| (BitVec.ofInt 64 ((2 ^ j : Nat) : Int))).toNat : Nat) := rfl
  have hlt : 2 ^ j < 2 ^ (j + 1) := by rw [Nat.pow_succ]; have := Nat.two_pow_pos j; omega
  have e3 := Nat.two_pow_add_eq_or_of_lt hlt m
  rw [hb, BitVec.toNat_or, ofInt_nat _ (by omega), ofInt_nat _ (by omega), ← e3]
  exact IntWalk.u64_in _ ⟨by omega, by omega⟩

/-- behind the k lowest bits' rounds: the root's upper bits stand -/
def Upper (n : Int) (k : Nat) (r b : Int) : Prop :=
  ∃ m : Nat, r = ((2 ^ k * m : Nat) : Int) ∧ b = ((2 ^ k / 2 : Nat) : Int) ∧ k ≤ 32 ∧ 2 ^ k * m + 2 ^ k ≤ 4294967296 ∧ r * r ≤ n ∧ n < (r + ((2 ^ k : Nat) : Int)) * (r + ((2 ^ k : Nat) : Int))

theorem Upper.done {n r b : Int} (h : Upper n 0 r b) : b = 0 ∧ IsRoot n r ∧ r ≤ 4294967295 := by
  obtain ⟨m, hr, hb, _, hm, h1, h2⟩ := h
  simp only [Nat.pow_zero, Nat.one_mul] at hr hb hm h2
  refine ⟨by simpa using hb, ⟨by omega, h1, h2⟩, by omega⟩

theorem Upper.step {n r b : Int} {k : Nat} (h : Upper n k r b) (hk : k ≠ 0) :
    ∃ x, bits .or .u64 r b = x ∧ 0 ≤ r ∧ r ≤ 4294967295 ∧ 0 < b ∧ b ≤ 2147483648 ∧ 0 ≤ x ∧ x ≤ 4294967295 ∧ 0 ≤ x * x ∧ x * x ≤ 18446744065119617025 ∧ (x * x ≤ n → Upper n (k - 1) x (b / 2)) ∧ (¬ x * x ≤ n → Upper n (k - 1) r (b / 2)) := by
  obtain ⟨m, hr, hb, hk2, hm, h1, h2⟩ := h
  obtain ⟨j, rfl⟩ : ∃ j, k = j + 1 := ⟨k - 1, by omega⟩
  have hp := Nat.two_pow_pos j
  have hps : 2 ^ (j + 1) = 2 * 2 ^ j := by rw [Nat.pow_succ]; omega
  have hj31 : 2 ^ j ≤ 2 ^ 31 := Nat.pow_le_pow_right (by decide) (by omega)
  have h31 : (2 : Nat) ^ 31 = 2147483648 := by decide
  have hor := or_bit m j (by omega) (by omega)
  have hb' : b = ((2 ^ j : Nat) : Int) := by rw [hb, hps]; congr 1; omega
  have hq : b / 2 = ((2 ^ j / 2 : Nat) : Int) := by rw [hb']; omega
  rw [← hr, ← hb'] at hor
  have hx0 : (0 : Int) ≤ ((2 ^ (j + 1) * m + 2 ^ j : Nat) : Int) ∧ ((2 ^ (j + 1) * m + 2 ^ j : Nat) : Int) ≤ 4294967295 := by omega
  have hxr : ((2 ^ (j + 1) * m + 2 ^ j : Nat) : Int) = r + ((2 ^ j : Nat) : Int) := by rw [hr]; omega
  refine ⟨_, hor, by omega, by omega, by omega, by omega, hx0.1, hx0.2, Int.mul_nonneg hx0.1 hx0.1, ?_, ?_, ?_⟩
  · have := sq_le hx0.1 hx0.2; omega
  · intro hle
    refine ⟨2 * m + 1, ?_, hq, by omega, ?_, hle, ?_⟩
    · congr 1; rw [hps, Nat.mul_assoc, Nat.add_sub_cancel, Nat.mul_add, Nat.mul_left_comm]; omega
    · rw [Nat.add_sub_cancel, Nat.mul_add, Nat.mul_left_comm]; rw [hps, Nat.mul_assoc] at hm; omega
    · rw [Nat.add_sub_cancel, hxr, Int.add_assoc]
      have : ((2 ^ j : Nat) : Int) + ((2 ^ j : Nat) : Int) = ((2 ^ (j + 1) : Nat) : Int) := by rw [hps]; omega
      rw [this]; exact h2
  · intro hgt
    refine ⟨2 * m, ?_, hq, by omega, ?_, h1, ?_⟩
    · rw [hr]; congr 1; rw [hps, Nat.add_sub_cancel, Nat.mul_assoc, Nat.mul_left_comm]
    · rw [Nat.add_sub_cancel, Nat.mul_left_comm]; rw [hps, Nat.mul_assoc] at hm; omega
    · rw [Nat.add_sub_cancel, ← hxr]; omega

theorem root (n : Int) (h0 : 0 ≤ n) (h1 : n ≤ 18446744073709551615) (w : World) :
    Calls Tryd.prog 42 #[.int .u64 n] w fun e w' => (∃ r, e = .returned (.int .u64 r) ∧ IsRoot n r ∧ r ≤ 4294967295) ∧ w = w' := by
  have hU : Upper n 32 0 2147483648 := ⟨0, by decide, by decide, by omega, by decide, by omega, by
    have : ((0 : Int) + ((2 ^ 32 : Nat) : Int)) * ((0 : Int) + ((2 ^ 32 : Nat) : Int)) = 18446744073709551616 := by decide
    rw [this]; omega⟩
  have HU := Lib.hid hU
  clear hU
  go_enter Tryd.func42, Tryd.ntmps42
  go_wp2
  go_loop [3, 4] (fun r b => ∃ (k : Nat) (rr bb : Int), r = .int .u64 rr ∧ b = .int .u64 bb ∧ Hid (Upper n k rr bb)) (fun _ b => (intOf b).toNat)
  case atStart => exact ⟨32, 0, 2147483648, rfl, rfl, HU⟩
  case round =>
    obtain ⟨k, rr, bb, rfl, rfl, hU⟩ := hrel
    clear HU
    by_cases hz : k = 0
    · subst hz
      obtain ⟨rfl, hR, hr2⟩ := hU.out.done
      have HR := Lib.hid hR
      clear hU hR
      go_wp2
      go_ret
      exact ⟨⟨_, rfl, HR.out, hr2⟩, rfl⟩
    · obtain ⟨x, hor, r0, r1, b0, b1, x0, x1, p0, p1, hyes, hno⟩ := hU.out.step hz
      have HY := Lib.hid hyes
      have HN := Lib.hid hno
      clear hU hyes hno hz
      by_cases hc : x * x ≤ n
      · go_wp2
        go_round
        case rel => exact ⟨k - 1, x, bb / 2, rfl, rfl, Lib.hid (HY.out hc)⟩
        case measure => simp [intOf]; omega
      · go_wp2
        go_round
        case rel => exact ⟨k - 1, rr, bb / 2, rfl, rfl, Lib.hid (HN.out hc)⟩
        case measure => simp [intOf]; omega

/-- n, or 1 -/
def one_of (n : Int) : Int := if n = 0 then 1 else n

theorem inverse (n : Int) (h0 : 0 ≤ n) (h1 : n ≤ 18446744073709551615) (w : World) :
    Calls Tryd.prog 22 #[.int .u64 n] w fun e w' => (∃ r, e = .returned (.int .u64 r) ∧ IsRoot (281474976710656 / one_of n) r ∧ r ≤ 4294967295) ∧ w = w' := by
  have hb : 1 ≤ one_of n ∧ one_of n ≤ 18446744073709551615 := by unfold one_of; split <;> omega
  have hq0 : 0 ≤ 281474976710656 / one_of n := Int.ediv_nonneg (by decide) (by omega)
  have hq1 : 281474976710656 / one_of n ≤ 281474976710656 := Int.ediv_le_self _ (by decide)
  have hr := root (281474976710656 / one_of n) hq0 (by omega) w
  by_cases c : n = 0
  · subst c
    have e : one_of 0 = 1 := rfl
    rw [e] at hr ⊢
    go_enter Tryd.func22, Tryd.ntmps22
    go_wp2_with fail
    refine hr.mono ?_
    rintro e w' ⟨⟨r, rfl, hR⟩, rfl⟩
    have HR := Lib.hid hR
    clear hR
    go_wp2
    go_ret
    exact ⟨⟨_, rfl, HR.out⟩, rfl⟩
  · have e : one_of n = n := by unfold one_of; rw [if_neg c]
    rw [e] at hr hq0 hq1 ⊢
    have c1 : 1 ≤ n := by omega
    clear hb e
    go_enter Tryd.func22, Tryd.ntmps22
    go_wp2_with fail
    refine hr.mono ?_
    rintro e w' ⟨⟨r, rfl, hR⟩, rfl⟩
    have HR := Lib.hid hR
    clear hR
    go_wp2
    go_ret
    exact ⟨⟨_, rfl, HR.out⟩, rfl⟩

end Go.Proofs.YthblniakghfchaaDoor
