/-
  Sines and cosines, as plain mathematics: the table of a quarter of a turn, sines between its places, their sizes, what a turn more and the other way make of them; angles.
-/
import Derived.Test.YtbggklhnmkiamaaDoorKit
namespace Go.Proofs.YtbggklhnmkiamaaDoor
open Go.RowKit
set_option linter.unusedVariables false

/-- the table's numbers: the sines of a quarter of a turn -/
def stab : List Int := [0, 804, 1606, 2404, 3196, 3981, 4756, 5520, 6270, 7005, 7723, 8423, 9102, 9760, 10394, 11003, 11585, 12140, 12665, 13160, 13623, 14053, 14449, 14811, 15137, 15426, 15679, 15893, 16069, 16207, 16305, 16364, 16384]

theorem stab_bd : ∀ i, i < 33 → 0 ≤ stab.getD i 0 ∧ stab.getD i 0 ≤ 16384 := by decide
theorem stab_rises : ∀ i, i < 32 → 1 ≤ stab.getD (i + 1) 0 - stab.getD i 0 ∧ stab.getD (i + 1) 0 - stab.getD i 0 ≤ 804 := by decide

theorem shr_nine (x : Int) : shr x 9 = half x 512 := by
  have h : near 9 0 62 = 9 := by decide
  unfold shr; rw [h]; rfl
theorem half_bd6 (x P : Int) : x / P ≤ half x P ∧ half x P ≤ x / P + 1 := by unfold half; split <;> omega

/-- what is laid upon a sine of the table: from 0 to the step -/
theorem add_bd (D r : Int) (hD : 1 ≤ D) (h0 : 0 ≤ r) (h1 : r < 512) : 0 ≤ D * r ∧ D * r ≤ D * 511 ∧ 0 ≤ half (D * r) 512 ∧ half (D * r) 512 ≤ D := by
  have h2 : 0 ≤ D * r := Int.mul_nonneg (by omega) h0
  have h3 : D * r ≤ D * 511 := Int.mul_le_mul_of_nonneg_left (by omega) (by omega)
  have h4 := half_bd6 (D * r) 512
  omega

/-- the sine of a step of the first quarter -/
def rise (s : Int) : Int := stab.getD (s / 512).toNat 0 + half ((stab.getD ((s / 512).toNat + 1) 0 - stab.getD (s / 512).toNat 0) * (s % 512)) 512

theorem rise_at (i : Nat) (s : Int) (h : s = 512 * i) : rise s = stab.getD i 0 := by
  subst h
  have e1 : ((512 * (i : Int)) / 512).toNat = i := by omega
  have e2 : (512 * (i : Int)) % 512 = 0 := by omega
  unfold rise
  rw [e1, e2, Int.mul_zero]
  have : half 0 512 = 0 := by decide
  omega

theorem rise_bd (s : Int) (h0 : 0 ≤ s) (h1 : s ≤ 16384) : 0 ≤ rise s ∧ rise s ≤ 16384 := by
  by_cases h2 : s = 16384
  · rw [rise_at 32 s (by omega)]; exact stab_bd 32 (by omega)
  · have hi : (s / 512).toNat < 32 := by omega
    have a := stab_bd (s / 512).toNat (by omega)
    have b := stab_bd ((s / 512).toNat + 1) (by omega)
    have c := stab_rises (s / 512).toNat hi
    have d := add_bd (stab.getD ((s / 512).toNat + 1) 0 - stab.getD (s / 512).toNat 0) (s % 512) c.1 (by omega) (by omega)
    unfold rise
    omega

/-- the step of the first quarter at which the sine is looked up -/
def fold4 (a : Int) : Int := if a / 16384 % 2 = 1 then 16384 - a % 16384 else a % 16384
/-- the sine -/
def sine (a : Int) : Int := if 2 ≤ a / 16384 % 4 then -rise (fold4 a) else rise (fold4 a)
/-- the cosine -/
def cosi (a : Int) : Int := sine (a + 16384)

theorem fold4_bd (a : Int) : 0 ≤ fold4 a ∧ fold4 a ≤ 16384 := by unfold fold4; split <;> omega
theorem sine_bd (a : Int) : -16384 ≤ sine a ∧ sine a ≤ 16384 := by
  have h := fold4_bd a
  have h2 := rise_bd (fold4 a) h.1 h.2
  unfold sine; split <;> omega
theorem cosi_bd (a : Int) : -16384 ≤ cosi a ∧ cosi a ≤ 16384 := sine_bd _

theorem fold4_congr {a b : Int} (h : a % 65536 = b % 65536) : fold4 a = fold4 b := by
  have h1 : a / 16384 % 2 = b / 16384 % 2 := by omega
  have h2 : a % 16384 = b % 16384 := by omega
  unfold fold4; rw [h1, h2]
/-- whole turns more or less change nothing -/
theorem sine_congr {a b : Int} (h : a % 65536 = b % 65536) : sine a = sine b := by
  have h1 : a / 16384 % 4 = b / 16384 % 4 := by omega
  unfold sine; rw [h1, fold4_congr h]
theorem cosi_congr {a b : Int} (h : a % 65536 = b % 65536) : cosi a = cosi b := sine_congr (by omega)
theorem sine_wrap (x : Int) : sine (wrap64 x) = sine x := sine_congr (by unfold wrap64; omega)

theorem rise_zero : rise 0 = 0 := rise_at 0 0 rfl
/-- the other way it is the other way -/
theorem sine_neg (a : Int) : sine (-a) = -sine a := by
  have hf : fold4 (-a) = fold4 a := by unfold fold4; split <;> split <;> omega
  by_cases h0 : a % 16384 = 0 ∧ a / 16384 % 2 = 0
  · have e : fold4 a = 0 := by unfold fold4; split <;> omega
    unfold sine; rw [hf, e, rise_zero]; split <;> split <;> rfl
  · unfold sine; rw [hf]; split <;> split <;> omega
theorem sine_half (a : Int) : sine (a + 32768) = -sine a := by
  have hf : fold4 (a + 32768) = fold4 a := by unfold fold4; split <;> split <;> omega
  unfold sine; rw [hf]; split <;> split <;> omega
theorem cosi_neg (a : Int) : cosi (-a) = cosi a := by
  unfold cosi
  have h1 : -a + 16384 = -(a - 16384) := by omega
  rw [h1, sine_neg]
  have h2 := sine_half (a - 16384)
  rw [show a - 16384 + 32768 = a + 16384 by omega] at h2
  omega

theorem sine_zero : sine 0 = 0 := by decide +kernel
theorem cosi_zero : cosi 0 = 16384 := by decide +kernel

/-! ### angles -/

/-- the angle of a pair at a place -/
def ang (place pair : Int) : Int := if place < 0 ∨ 1048576 < place ∨ pair < 0 then 0 else place * (8192 / 2 ^ pair.toNat) % 65536

theorem step_bd (k : Nat) : (0 : Int) ≤ 8192 / 2 ^ k ∧ (8192 : Int) / 2 ^ k ≤ 8192 := by
  have h : (1 : Int) ≤ 2 ^ k := Int.pow_pos (by decide)
  exact ⟨Int.ediv_nonneg (by decide) (by omega), Int.ediv_le_self _ (by decide)⟩
theorem step_next (k : Nat) : (8192 : Int) / 2 ^ (k + 1) = 8192 / 2 ^ k / 2 := by
  rw [Int.pow_succ, Int.ediv_ediv_of_nonneg (by have : (1 : Int) ≤ 2 ^ k := Int.pow_pos (by decide); omega)]
theorem step_gone {j k : Nat} (h : (8192 : Int) / 2 ^ j = 0) (hj : j ≤ k) : (8192 : Int) / 2 ^ k = 0 := by
  obtain ⟨m, rfl⟩ : ∃ m, k = j + m := ⟨k - j, by omega⟩
  rw [Int.pow_add, ← Int.ediv_ediv_of_nonneg (by have : (1 : Int) ≤ 2 ^ j := Int.pow_pos (by decide); omega), h, Int.zero_ediv]
theorem step_min (k : Nat) : (8192 : Int) / 2 ^ min k 64 = 8192 / 2 ^ k := by
  by_cases h : k ≤ 64
  · rw [Nat.min_eq_left h]
  · have e : (8192 : Int) / 2 ^ 64 = 0 := by decide
    rw [Nat.min_eq_right (by omega), e, step_gone e (by omega)]
theorem ang_bd (place pair : Int) : 0 ≤ ang place pair ∧ ang place pair < 65536 := by unfold ang; split <;> omega
theorem ang_at {place pair : Int} (h0 : 0 ≤ place) (h1 : place ≤ 1048576) (h2 : 0 ≤ pair) : ang place pair = place * (8192 / 2 ^ pair.toNat) % 65536 := by unfold ang; rw [if_neg (by omega)]
theorem ang_no {place pair : Int} (h : place < 0 ∨ 1048576 < place ∨ pair < 0) : ang place pair = 0 := by unfold ang; rw [if_pos h]
theorem ang_zero (pair : Int) : ang 0 pair = 0 := by unfold ang; split <;> simp
/-- angles add up, place by place -/
theorem ang_add {a b k : Int} (ha : 0 ≤ a) (hb : 0 ≤ b) (h : a + b ≤ 1048576) (hk : 0 ≤ k) : (ang a k + ang b k) % 65536 = ang (a + b) k := by
  rw [ang_at ha (by omega) hk, ang_at hb (by omega) hk, ang_at (by omega) h hk, Int.add_mul]
  omega

end Go.Proofs.YtbggklhnmkiamaaDoor
