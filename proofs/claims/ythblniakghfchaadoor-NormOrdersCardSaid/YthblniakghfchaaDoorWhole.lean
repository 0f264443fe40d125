/-
  Plain mathematics of shares: together never more than the total, and less by fewer than how many weights are above 0.
-/
import Derived.Test.YthblniakghfchaaDoorShares
namespace Go.Proofs.YthblniakghfchaaDoor
open Go.RowKit
set_option linter.unusedVariables false

/-- how many weights are above 0 -/
def cnt (xs : List Int) : Int := (xs.map fun x => if 0 < x then 1 else 0).sum
/-- the shares' sum -/
def ssum (t S : Int) (xs : List Int) : Int := (xs.map (share t S)).sum

theorem cnt_cons (x : Int) (xs : List Int) : cnt (x :: xs) = (if 0 < x then 1 else 0) + cnt xs := by simp [cnt]
theorem ssum_cons (t S x : Int) (xs : List Int) : ssum t S (x :: xs) = share t S x + ssum t S xs := by simp [ssum]
theorem tot_cons (x : Int) (xs : List Int) : tot (x :: xs) = pos x + tot xs := by simp [tot]
theorem cnt_step (xs : List Int) (k : Nat) (hk : k < xs.length) : cnt (xs.take (k + 1)) = cnt (xs.take k) + (if 0 < xs.getD k 0 then 1 else 0) := by
  unfold cnt
  rw [List.take_add_one, List.map_append, List.sum_append]
  simp [List.getD, List.getElem?_eq_getElem hk]
theorem ssum_step (t S : Int) (xs : List Int) (k : Nat) (hk : k < xs.length) : ssum t S (xs.take (k + 1)) = ssum t S (xs.take k) + share t S (xs.getD k 0) := by
  unfold ssum
  rw [List.take_add_one, List.map_append, List.sum_append]
  simp [List.getD, List.getElem?_eq_getElem hk]
theorem cnt_bd (xs : List Int) : 0 ≤ cnt xs ∧ cnt xs ≤ xs.length := by
  induction xs with
  | nil => simp [cnt]
  | cons x xs ih => rw [cnt_cons, List.length_cons]; push_cast; split <;> omega
theorem cnt_none {xs : List Int} (h : cnt xs = 0) : tot xs = 0 := by
  induction xs with
  | nil => rfl
  | cons x xs ih =>
    have hb := cnt_bd xs
    rw [cnt_cons] at h
    rw [tot_cons]
    split at h
    · omega
    · rename_i hx
      have e : pos x = 0 := by unfold pos; rw [if_neg hx]
      rw [e, ih (by omega)]; rfl
theorem cnt_some {xs : List Int} (hx : ∀ x ∈ xs, x ≤ 2147483647) (h : 0 < cnt xs) : 0 < tot xs := by
  induction xs with
  | nil => simp [cnt] at h
  | cons x xs ih =>
    have hb := tot_bd xs (fun y hy => hx y (List.mem_cons_of_mem _ hy))
    have hp := pos_bd x (hx x List.mem_cons_self)
    rw [cnt_cons] at h
    rw [tot_cons]
    split at h
    · rename_i h0
      have e : pos x = x := by unfold pos; rw [if_pos h0]
      omega
    · have := ih (fun y hy => hx y (List.mem_cons_of_mem _ hy)) (by omega); omega
theorem ssum_zero {t S : Int} (h : S = 0 ∨ t < 0 ∨ t = 0) (xs : List Int) : ssum t S xs = 0 := by
  induction xs with
  | nil => rfl
  | cons x xs ih =>
    rw [ssum_cons, ih]
    unfold share
    split
    · rfl
    · rename_i hn
      have : t = 0 := by omega
      rw [this, Int.mul_zero, Int.zero_ediv]; rfl

theorem parts_bd {t S : Int} (hS : 0 < S) (ht : 0 ≤ t) (xs : List Int) : S * ssum t S xs ≤ tot xs * t ∧ tot xs * t ≤ S * ssum t S xs + (S - 1) * cnt xs := by
  induction xs with
  | nil => simp [ssum, tot, cnt]
  | cons x xs ih =>
    rw [ssum_cons, tot_cons, cnt_cons, Int.mul_add, Int.add_mul, Int.mul_add]
    have e : share t S x = pos x * t / S := by unfold share; rw [if_neg (by omega)]
    rw [e]
    have h1 := Int.emod_add_mul_ediv (pos x * t) S
    have h2 := Int.emod_nonneg (pos x * t) (b := S) (by omega)
    have h3 := Int.emod_lt_of_pos (pos x * t) hS
    by_cases h0 : 0 < x
    · rw [if_pos h0, Int.mul_one]; omega
    · have ep : pos x = 0 := by unfold pos; rw [if_neg h0]
      rw [if_neg h0, Int.mul_zero, ep, Int.zero_mul, Int.zero_ediv, Int.mul_zero]; omega

theorem whole {t : Int} {xs : List Int} (hx : ∀ x ∈ xs, x ≤ 2147483647) (ht : 0 < t) (hc : 0 < cnt xs) : ssum t (tot xs) xs ≤ t ∧ t - ssum t (tot xs) xs < cnt xs := by
  have hS := cnt_some hx hc
  have h := parts_bd (t := t) hS (by omega) xs
  generalize tot xs = S at *
  generalize ssum t S xs = A at *
  generalize cnt xs = C at *
  constructor
  · exact Int.le_of_mul_le_mul_left h.1 hS
  · rcases Int.lt_or_le (t - A) C with h1 | h1
    · exact h1
    · exfalso
      have h2 : S * C ≤ S * (t - A) := Int.mul_le_mul_of_nonneg_left h1 (by omega)
      rw [Int.mul_sub] at h2
      rw [Int.sub_mul, Int.one_mul] at h
      omega
theorem share_bd2 {t x : Int} {xs : List Int} (hx : ∀ x ∈ xs, x ≤ 2147483647) (hm : x ∈ xs) (ht2 : t ≤ 2147483647) : 0 ≤ share t (tot xs) x ∧ share t (tot xs) x ≤ 2147483647 := by
  have h := wf32 (share_wf hx ht2 (share t (tot xs) x) (List.mem_map.2 ⟨x, hm, rfl⟩))
  refine ⟨?_, h.2⟩
  have h1 := pos_bd x (hx x hm)
  unfold share
  split
  · omega
  · rename_i hn
    have := tot_bd xs hx
    exact Int.ediv_nonneg (Int.mul_nonneg h1.1 (by omega)) (by omega)
theorem share_none {t S x : Int} (h : ¬ 0 < x) : share t S x = 0 := by
  unfold share
  split
  · rfl
  · have e : pos x = 0 := by unfold pos; rw [if_neg h]
    rw [e, Int.zero_mul, Int.zero_ediv]

end Go.Proofs.YthblniakghfchaaDoor
