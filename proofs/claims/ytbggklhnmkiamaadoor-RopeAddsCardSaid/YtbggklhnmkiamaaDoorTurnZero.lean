/-
  At place 0 nothing is turned.
-/
import Derived.Test.YtbggklhnmkiamaaDoorTurns
namespace Go.Proofs.YtbggklhnmkiamaaDoor
open Go.RowKit
set_option linter.unusedVariables false

theorem shr_fourteen (x : Int) : shr x 14 = half x 16384 := by
  have h : near 14 0 62 = 14 := by decide
  unfold shr; rw [h]; rfl
theorem half_whole (x : Int) : half (x * 16384) 16384 = x := by
  have e1 : x * 16384 % 16384 = 0 := by omega
  have e2 : x * 16384 / 16384 = x := by omega
  unfold half; rw [e1, e2, if_neg (by omega)]
theorem near_8 (x : Int) (h1 : -128 ≤ x) (h2 : x ≤ 127) : near x (-128) 127 = x := by unfold near; rw [if_neg (by omega), if_neg (by omega)]
theorem tx_zero (x y : Int) (h1 : -128 ≤ x) (h2 : x ≤ 127) : tx 16384 0 x y = x := by
  unfold tx; rw [Int.mul_zero, Int.sub_zero, shr_fourteen, half_whole, near_8 x h1 h2]
theorem ty_zero (x y : Int) (h1 : -128 ≤ y) (h2 : y ≤ 127) : ty 16384 0 x y = y := by
  unfold ty; rw [Int.mul_zero, Int.zero_add, shr_fourteen, half_whole, near_8 y h1 h2]
theorem turnL_zero (xs : List Int) (n : Nat) (hl : xs.length = n) (hw : ∀ x ∈ xs, (Lit.int .i8 x).wf = true) : turnL 0 xs n = xs := by
  apply List.ext_getElem (by simp [turnL, hl])
  intro i h1 h2
  have hx := wf8 (hw _ (List.getElem_mem h2))
  have hd : xs.getD i 0 = xs[i] := by rw [List.getD_eq_getElem?_getD, List.getElem?_eq_getElem h2]; rfl
  simp only [turnL, List.getElem_map, List.getElem_range]
  unfold turnAt
  rw [ang_zero, cosi_zero, sine_zero, hd]
  split
  · exact tx_zero _ _ hx.1 hx.2
  · exact ty_zero _ _ hx.1 hx.2

theorem turnL_at (place : Int) (xs : List Int) (n i : Nat) (h : i < n) : (turnL place xs n).getD i 0 = turnAt place xs i := by
  simp [turnL, List.getD, h]
/-- a pair is turned by itself, whatever stands beside -/
theorem turn_same {place : Int} {xs ys : List Int} {k : Nat} (h0 : xs.getD (2 * k) 0 = ys.getD (2 * k) 0) (h1 : xs.getD (2 * k + 1) 0 = ys.getD (2 * k + 1) 0) :
    turnAt place xs (2 * k) = turnAt place ys (2 * k) ∧ turnAt place xs (2 * k + 1) = turnAt place ys (2 * k + 1) := by
  rw [turnAt_even, turnAt_even, turnAt_odd, turnAt_odd, h0, h1]
  exact ⟨rfl, rfl⟩
theorem one_pair (n j j1 : Nat) (x y : Int) (hj : j < n) (hj1 : j1 < n) (hne : j ≠ j1) :
    (((List.replicate n (0 : Int)).set j x).set j1 y).getD j 0 = x ∧ (((List.replicate n (0 : Int)).set j x).set j1 y).getD j1 0 = y := by
  constructor
  · rw [List.getD_eq_getElem?_getD, List.getElem?_set_ne (Ne.symm hne), List.getElem?_set_self (by simpa using hj)]; rfl
  · rw [List.getD_eq_getElem?_getD, List.getElem?_set_self (by simpa using hj1)]; rfl
theorem pair_wf (n j j1 : Nat) (x y : Int) (hx : (Lit.int .i8 x).wf = true) (hy : (Lit.int .i8 y).wf = true) : ∀ c ∈ ((List.replicate n (0 : Int)).set j x).set j1 y, (Lit.int .i8 c).wf = true := by
  intro c hc
  rcases List.mem_or_eq_of_mem_set hc with hc | rfl
  · rcases List.mem_or_eq_of_mem_set hc with hc | rfl
    · rw [(List.mem_replicate.1 hc).2]; decide
    · exact hx
  · exact hy

end Go.Proofs.YtbggklhnmkiamaaDoor
