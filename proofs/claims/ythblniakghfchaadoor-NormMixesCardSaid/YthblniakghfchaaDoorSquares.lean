/-
  Contracts of layer 5's near and meanSquare: a number brought to its range; the mean of the squares of a row, without its rest. They read memory alone.
-/
import Derived.Test.YthblniakghfchaaDoorBring
import Derived.Test.YthblniakghfchaaDoorElems
import Derived.Test.YthblniakghfchaaDoorRoots
namespace Go.Proofs.YthblniakghfchaaDoor
open Go.RowKit
set_option linter.unusedVariables false

/-- a number, brought to the range of a row -/
def nr (x : Int) : Int := near x (-8388608) 8388607
theorem nr_bd (x : Int) : -8388608 ≤ nr x ∧ nr x ≤ 8388607 := near_in x _ _ (by decide)
theorem nr_sq (x : Int) : 0 ≤ nr x * nr x ∧ nr x * nr x ≤ 70368744177664 := by
  have h := nr_bd x
  have h1 : (nr x * nr x).natAbs ≤ 8388608 * 8388608 := by rw [Int.natAbs_mul]; exact Nat.mul_le_mul (by omega) (by omega)
  have h2 : 0 ≤ nr x * nr x := by
    rcases Int.le_total 0 (nr x) with h0 | h0
    · exact Int.mul_nonneg h0 h0
    · exact Int.mul_nonneg_of_nonpos_of_nonpos h0 h0
  omega
/-- the sum of the squares -/
def sqs (xs : List Int) : Int := (xs.map fun x => nr x * nr x).sum
theorem sqs_step (xs : List Int) (k : Nat) (hk : k < xs.length) : sqs (xs.take (k + 1)) = sqs (xs.take k) + nr (xs.getD k 0) * nr (xs.getD k 0) := by
  unfold sqs
  rw [List.take_add_one, List.map_append, List.sum_append]
  simp [List.getD, List.getElem?_eq_getElem hk]
theorem sqs_bd (xs : List Int) : 0 ≤ sqs xs ∧ sqs xs ≤ xs.length * 70368744177664 := by
  induction xs with
  | nil => simp [sqs]
  | cons x xs ih =>
    have e : sqs (x :: xs) = nr x * nr x + sqs xs := by simp [sqs]
    have h := nr_sq x
    rw [e, List.length_cons]; push_cast; omega
/-- the mean square -/
def msq (xs : List Int) : Int := sqs xs / (xs.length : Int)
theorem msq_bd (xs : List Int) : 0 ≤ msq xs ∧ msq xs ≤ 70368744177664 := by
  have h := sqs_bd xs
  unfold msq
  refine ⟨Int.ediv_nonneg h.1 (by omega), ?_⟩
  by_cases h0 : xs.length = 0
  · rw [h0]; simp
  · exact Int.ediv_le_of_le_mul (by omega) (by rw [Int.mul_comm]; exact h.2)

/-- there is a root of every number -/
theorem root_ex (n : Nat) : ∃ r : Int, IsRoot n r := by
  induction n with
  | zero => exact ⟨0, by unfold IsRoot; decide⟩
  | succ n ih =>
    obtain ⟨r, h0, h1, h2⟩ := ih
    by_cases c : (r + 1) * (r + 1) ≤ ((n + 1 : Nat) : Int)
    · refine ⟨r + 1, by omega, c, ?_⟩
      rw [Int.add_mul (r + 1) 1 (r + 1 + 1), Int.mul_add (r + 1) (r + 1) 1]
      push_cast; omega
    · exact ⟨r, h0, by push_cast; omega, by omega⟩
/-- I is the number that a row of mean square m is brought to its size by -/
def IsInv (m I : Int) : Prop := IsRoot (281474976710656 / one_of m) I
theorem inv_ex (m : Int) (h : 0 ≤ m) : ∃ I, IsInv m I := by
  obtain ⟨r, hr⟩ := root_ex (281474976710656 / one_of m).toNat
  refine ⟨r, ?_⟩
  have h1 : 0 ≤ 281474976710656 / one_of m := Int.ediv_nonneg (by decide) (by unfold one_of; split <;> omega)
  rw [Int.toNat_of_nonneg h1] at hr
  exact hr
theorem inv_bd {m I : Int} (h : 0 ≤ m) (hI : IsInv m I) : 0 ≤ I ∧ I ≤ 16777216 := by
  refine ⟨hI.1, ?_⟩
  have h1 : 281474976710656 / one_of m ≤ 281474976710656 := Int.ediv_le_self _ (by decide)
  rcases Int.lt_or_le 16777216 I with h2 | h2
  · exfalso
    have h3 : 16777217 * 16777217 ≤ I * I := Int.mul_le_mul (by omega) (by omega) (by decide) (by omega)
    have := hI.2.1
    omega
  · exact h2
theorem inverse_is (m I : Int) (h0 : 0 ≤ m) (h1 : m ≤ 18446744073709551615) (hI : IsInv m I) (w : World) :
    Calls Tryd.prog 22 #[.int .u64 m] w fun e w' => e = .returned (.int .u64 I) ∧ w = w' :=
  (inverse m h0 h1 w).mono (by rintro e w' ⟨⟨s, rfl, hs, _⟩, rfl⟩; exact ⟨by rw [hs.unique hI], rfl⟩)

theorem near5 (x : Int) (h1 : -2147483648 ≤ x) (h2 : x ≤ 2147483647) (w : World) :
    Calls Tryd.prog 26 #[.int .i32 x] w fun e w' => e = .returned (.int .i64 (nr x)) ∧ w = w' := by
  by_cases c1 : x < -8388608
  · go_enter Tryd.func26, Tryd.ntmps26
    go_wp2
    go_ret
    exact ⟨ret_int (by unfold nr near; omega), rfl⟩
  · by_cases c2 : x ≤ 8388607
    · go_enter Tryd.func26, Tryd.ntmps26
      go_wp2
      go_ret
      exact ⟨ret_int (by unfold nr near; omega), rfl⟩
    · go_enter Tryd.func26, Tryd.ntmps26
      go_wp2
      go_ret
      exact ⟨ret_int (by unfold nr near; omega), rfl⟩

theorem mean_square (a : Option Addr) (n cap : Nat) (xs : List Int) (w : World) (h : Elems .i32 w a n xs) (h0 : 0 < n) (hn : n ≤ 4096) :
    Calls Tryd.prog 23 #[.slice a n cap] w fun e w' => e = .returned (.int .u64 (msq xs)) ∧ w = w' := by
  have HL := Lib.hid h.1
  go_enter Tryd.func23, Tryd.ntmps23
  go_wp2
  go_loop [3, 9] (fun s i => ∃ (k : Nat) (q : Int), k ≤ n ∧ i = .int .i64 k ∧ s = .int .u64 q ∧ Hid (q = sqs (xs.take k)) ∧ 0 ≤ q ∧ q ≤ k * 70368744177664) (fun _ i => n - (intOf i).toNat)
  case atStart => exact ⟨0, 0, by omega, rfl, rfl, Lib.hid (by simp [sqs]), by omega, by omega⟩
  case round =>
    obtain ⟨k, q, hk, rfl, rfl, hq, q0, q1⟩ := hrel
    by_cases hlt : k < n
    · obtain ⟨b, off, v, rfl, hc, hv, wv⟩ := h.at_ hlt
      have hst : Hid (q + nr v * nr v = sqs (xs.take (k + 1))) := Lib.hid (by rw [sqs_step xs k (by rw [HL.out]; exact hlt), hq.out, hv.out])
      have hb := nr_sq v
      obtain ⟨v1, v2⟩ := wf32 wv
      have hnr := near5 v v1 v2
      obtain ⟨y, hy⟩ : ∃ y, nr v = y := ⟨_, rfl⟩
      rw [hy] at hst hb hnr
      obtain ⟨p0, p1⟩ := hb
      clear h hv wv hq hy
      go_wp2_with (go_at_call 26; refine (hnr _).mono ?_; rintro e w' ⟨rfl, rfl⟩)
      go_round
      case rel => exact ⟨k + 1, q + y * y, by omega, by go_num, rfl, hst, by omega, by push_cast; omega⟩
      case measure => simp [intOf]; omega
    · obtain rfl : k = n := by omega
      have hq2 : Hid (q / (k : Int) = msq xs) := Lib.hid (by unfold msq; rw [HL.out, hq.out, List.take_of_length_le (by rw [HL.out]; omega)])
      have hz : ((k : Int) == 0) = false := by simp; omega
      clear h hq
      go_wp2
      go_ret
      exact ⟨ret_int hq2.out, rfl⟩

end Go.Proofs.YthblniakghfchaaDoor
