/-
  Products with a row of noughts, and with a row that has one 1.
-/
import Derived.Test.YtkiedganojaniaaMatOps
namespace Go.Proofs.Ytkiedganojaniaa
open Go.RowKit
set_option linter.unusedVariables false

theorem prods_noughts (xs : List Int) (n : Nat) : (prods xs (List.replicate n 0)).sum = 0 := by
  induction xs generalizing n with
  | nil => simp [prods]
  | cons x xs ih =>
    cases n with
    | zero => simp [prods]
    | succ n =>
      have := ih n
      unfold prods at this ⊢
      rw [List.replicate_succ, List.zipWith_cons_cons, List.sum_cons, this]; simp
theorem prods_unit (xs : List Int) (n k : Nat) (hx : xs.length = n) (hk : k < n) : (prods xs ((List.replicate n 0).set k 1)).sum = xs.getD k 0 := by
  induction xs generalizing n k with
  | nil => simp at hx; omega
  | cons x xs ih =>
    obtain ⟨m, rfl⟩ : ∃ m, n = m + 1 := ⟨n - 1, by omega⟩
    have hm : xs.length = m := by simpa using hx
    cases k with
    | zero =>
      have := prods_noughts xs m
      unfold prods at this ⊢
      rw [List.replicate_succ, List.set_cons_zero, List.zipWith_cons_cons, List.sum_cons, this]; simp
    | succ k =>
      have := ih m k hm (by omega)
      unfold prods at this ⊢
      rw [List.replicate_succ, List.set_cons_succ, List.zipWith_cons_cons, List.sum_cons, this]; simp
theorem mv_noughts (v : List Int) (R C : Nat) : mv v (List.replicate C 0) R C = List.replicate R 0 := by
  unfold mv wsum
  refine List.ext_getElem? fun i => ?_
  rw [List.getElem?_map, List.getElem?_replicate]
  by_cases hi : i < R
  · rw [List.getElem?_range hi, if_pos hi]
    simp [prods_noughts, wrap32]
  · rw [if_neg hi, List.getElem?_eq_none (by simp; omega)]; rfl
theorem mv_unit (v : List Int) (R C k i : Nat) (hl : v.length = R * C) (hk : k < C) (hi : i < R) (hw : ∀ x ∈ v, (Lit.int .i8 x).wf = true) : (mv v ((List.replicate C 0).set k 1) R C).getD i 0 = v.getD (i * C + k) 0 := by
  rw [mv_at _ _ _ _ _ hi]
  unfold wsum
  rw [prods_unit _ C k (rowOf_length hl hi) hk, rowOf_at _ _ _ _ hk]
  have hlt := row_lt hi hk
  have := wf8 (hw _ (getD_mem (xs := v) (i := i * C + k) (by omega)))
  exact wrap32_in _ (by omega)

end Go.Proofs.Ytkiedganojaniaa
