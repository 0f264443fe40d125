/-
  Sine and cosine lie near the circle: the squares at each step of the first quarter, reckoned; then at every step.
-/
import Derived.Test.YtbggklhnmkiamaaDoorRopeMath
namespace Go.Proofs.YtbggklhnmkiamaaDoor
open Go.RowKit
set_option linter.unusedVariables false

/-- the sine of a step of the first quarter, in natural numbers -/
def riseN (l : List Nat) (k : Nat) : Nat :=
  let i := k / 512
  let a := l.getD i 0
  let p := (l.getD (i + 1) 0 - a) * (k % 512)
  let q := p / 512
  let r := p % 512
  cond (Nat.ble 257 r || (Nat.beq r 256 && Nat.beq (q % 2) 1)) (a + (q + 1)) (a + q)
def ntab : List Nat := [0, 804, 1606, 2404, 3196, 3981, 4756, 5520, 6270, 7005, 7723, 8423, 9102, 9760, 10394, 11003, 11585, 12140, 12665, 13160, 13623, 14053, 14449, 14811, 15137, 15426, 15679, 15893, 16069, 16207, 16305, 16364, 16384]
def okN (k : Nat) : Bool :=
  let x := riseN ntab k
  let y := riseN ntab (16384 - k)
  let s := x * x + y * y
  Nat.ble 267386881 s && Nat.ble s 269484031
def allN : Nat → Nat → Bool
  | 0, _ => true
  | n + 1, k => okN k && allN n (k + 1)

set_option maxRecDepth 1000000 in
theorem all0 : allN 1024 0 = true := by decide +kernel
set_option maxRecDepth 1000000 in
theorem all1 : allN 1024 1024 = true := by decide +kernel
set_option maxRecDepth 1000000 in
theorem all2 : allN 1024 2048 = true := by decide +kernel
set_option maxRecDepth 1000000 in
theorem all3 : allN 1024 3072 = true := by decide +kernel
set_option maxRecDepth 1000000 in
theorem all4 : allN 1024 4096 = true := by decide +kernel
set_option maxRecDepth 1000000 in
theorem all5 : allN 1024 5120 = true := by decide +kernel
set_option maxRecDepth 1000000 in
theorem all6 : allN 1024 6144 = true := by decide +kernel
set_option maxRecDepth 1000000 in
theorem all7 : allN 1024 7168 = true := by decide +kernel
theorem all8 : allN 1 8192 = true := by decide +kernel

theorem allN_at : ∀ (n k : Nat), allN n k = true → ∀ j, k ≤ j → j < k + n → okN j = true
  | 0, k, _, j, h1, h2 => by omega
  | n + 1, k, h, j, h1, h2 => by
    unfold allN at h
    rw [Bool.and_eq_true] at h
    by_cases e : j = k
    · subst e; exact h.1
    · exact allN_at n (k + 1) h.2 j (by omega) (by omega)

theorem ntab_is : ∀ i, i < 33 → ((ntab.getD i 0 : Nat) : Int) = stab.getD i 0 := by decide
theorem ntab_rises : ∀ i, i < 32 → ntab.getD i 0 ≤ ntab.getD (i + 1) 0 := by decide

theorem half_512 (p : Nat) : half (p : Int) 512 = ((cond (Nat.ble 257 (p % 512) || (Nat.beq (p % 512) 256 && Nat.beq (p / 512 % 2) 1)) (p / 512 + 1) (p / 512) : Nat) : Int) := by
  unfold half
  by_cases h1 : 257 ≤ p % 512
  · have e : Nat.ble 257 (p % 512) = true := by rw [Nat.ble_eq]; exact h1
    rw [e, Bool.true_or, cond_true, if_pos (by omega)]; omega
  · have e : Nat.ble 257 (p % 512) = false := Bool.eq_false_iff.2 (by rw [Ne, Nat.ble_eq]; exact h1)
    rw [e, Bool.false_or]
    by_cases h2 : p % 512 = 256
    · have e2 : Nat.beq (p % 512) 256 = true := by rw [Nat.beq_eq]; exact h2
      rw [e2, Bool.true_and]
      by_cases h3 : p / 512 % 2 = 1
      · have e3 : Nat.beq (p / 512 % 2) 1 = true := by rw [Nat.beq_eq]; exact h3
        rw [e3, cond_true, if_pos (by omega)]; omega
      · have e3 : Nat.beq (p / 512 % 2) 1 = false := Bool.eq_false_iff.2 (by rw [Ne, Nat.beq_eq]; exact h3)
        rw [e3, cond_false, if_neg (by omega)]; omega
    · have e2 : Nat.beq (p % 512) 256 = false := Bool.eq_false_iff.2 (by rw [Ne, Nat.beq_eq]; exact h2)
      rw [e2, Bool.false_and, cond_false, if_neg (by omega)]; omega

theorem riseN_is (k : Nat) (h : k ≤ 16384) : ((riseN ntab k : Nat) : Int) = rise k := by
  by_cases h2 : k = 16384
  · subst h2; decide +kernel
  · have hi : k / 512 < 32 := by omega
    have a := ntab_is (k / 512) (by omega)
    have b := ntab_is (k / 512 + 1) (by omega)
    have c := ntab_rises (k / 512) hi
    have e1 : ((k : Int) / 512).toNat = k / 512 := by omega
    have e2 : (k : Int) % 512 = ((k % 512 : Nat) : Int) := by omega
    have e3 : stab.getD (k / 512 + 1) 0 - stab.getD (k / 512) 0 = ((ntab.getD (k / 512 + 1) 0 - ntab.getD (k / 512) 0 : Nat) : Int) := by omega
    unfold rise
    rw [e1, e2, e3, ← Int.natCast_mul, half_512, ← a]
    unfold riseN
    dsimp only
    generalize (Nat.ble 257 ((ntab.getD (k / 512 + 1) 0 - ntab.getD (k / 512) 0) * (k % 512) % 512) || (Nat.beq ((ntab.getD (k / 512 + 1) 0 - ntab.getD (k / 512) 0) * (k % 512) % 512) 256 && Nat.beq ((ntab.getD (k / 512 + 1) 0 - ntab.getD (k / 512) 0) * (k % 512) / 512 % 2) 1)) = t
    cases t <;> simp

theorem ok_small (j : Nat) (h : j ≤ 8192) : okN j = true := by
  by_cases h0 : j < 1024
  · exact allN_at _ _ all0 j (by omega) (by omega)
  by_cases h1 : j < 2048
  · exact allN_at _ _ all1 j (by omega) (by omega)
  by_cases h2 : j < 3072
  · exact allN_at _ _ all2 j (by omega) (by omega)
  by_cases h3 : j < 4096
  · exact allN_at _ _ all3 j (by omega) (by omega)
  by_cases h4 : j < 5120
  · exact allN_at _ _ all4 j (by omega) (by omega)
  by_cases h5 : j < 6144
  · exact allN_at _ _ all5 j (by omega) (by omega)
  by_cases h6 : j < 7168
  · exact allN_at _ _ all6 j (by omega) (by omega)
  by_cases h7 : j < 8192
  · exact allN_at _ _ all7 j (by omega) (by omega)
  · exact allN_at _ _ all8 j (by omega) (by omega)

theorem squares_small (j : Nat) (h : j ≤ 8192) : 267386881 ≤ rise j * rise j + rise (16384 - j) * rise (16384 - j) ∧ rise j * rise j + rise (16384 - j) * rise (16384 - j) ≤ 269484031 := by
  have hk := ok_small j h
  unfold okN at hk
  dsimp only at hk
  rw [Bool.and_eq_true, Nat.ble_eq, Nat.ble_eq] at hk
  have a := riseN_is j (by omega)
  have b := riseN_is (16384 - j) (by omega)
  rw [show ((16384 - j : Nat) : Int) = 16384 - (j : Int) by omega] at b
  rw [← a, ← b, ← Int.natCast_mul, ← Int.natCast_mul, ← Int.natCast_add]
  omega

theorem squares (s : Int) (h0 : 0 ≤ s) (h1 : s ≤ 16384) : 267386881 ≤ rise s * rise s + rise (16384 - s) * rise (16384 - s) ∧ rise s * rise s + rise (16384 - s) * rise (16384 - s) ≤ 269484031 := by
  by_cases h : s ≤ 8192
  · obtain ⟨j, rfl⟩ : ∃ j : Nat, s = j := ⟨s.toNat, by omega⟩
    exact squares_small j (by omega)
  · obtain ⟨j, hj⟩ : ∃ j : Nat, 16384 - s = j := ⟨(16384 - s).toNat, by omega⟩
    have := squares_small j (by omega)
    rw [← hj, show 16384 - (16384 - s) = s by omega] at this
    omega

theorem circle (a : Int) : -1048576 < sine a * sine a + cosi a * cosi a - 268435456 ∧ sine a * sine a + cosi a * cosi a - 268435456 < 1048576 := by
  have h := fold4_bd a
  have hq := squares (fold4 a) h.1 h.2
  have hf : fold4 (a + 16384) = 16384 - fold4 a := by unfold fold4; split <;> split <;> omega
  have hs : sine a * sine a = rise (fold4 a) * rise (fold4 a) := by unfold sine; split; exact Int.neg_mul_neg _ _; rfl
  have hc : cosi a * cosi a = rise (16384 - fold4 a) * rise (16384 - fold4 a) := by unfold cosi sine; rw [hf]; split; exact Int.neg_mul_neg _ _; rfl
  omega

end Go.Proofs.YtbggklhnmkiamaaDoor
