/-
  Steps of sums: one group more; one number more of a list that is turned.
-/
import Derived.Test.YtkiedganojaniaaElems
import Derived.OwnWalk
import Derived.WalkSmall
namespace Go.Proofs.Ytkiedganojaniaa
open Go.RowKit
set_option linter.unusedVariables false

/-- one group more -/
theorem groups_step {ss xs : List Int} {k : Nat} (h : wrap32 ss.sum = wrap32 (xs.take k).sum) (hw : ∀ s ∈ ss, (Lit.int .i32 s).wf = true) (m : Nat) :
    wrap32 (ss ++ [wsum ((xs.drop k).take m)]).sum = wrap32 (xs.take (k + m)).sum ∧ ∀ s ∈ ss ++ [wsum ((xs.drop k).take m)], (Lit.int .i32 s).wf = true := by
  refine ⟨?_, ?_⟩
  · rw [sum_cut, List.sum_append, ← wrap32_add, h, wrap32_add]
    simp only [List.sum_cons, List.sum_nil, Int.add_zero, wsum]
    rw [Int.add_comm, wrap32_add, Int.add_comm]
  · intro s hs
    rcases List.mem_append.1 hs with h1 | h1
    · exact hw s h1
    · simp only [List.mem_singleton] at h1; subst h1; exact wsum_wf _

/-- one number more of a list that is turned by kk places and read from its end -/
theorem turn_step {os xs : List Int} {n kk j p : Nat} {u : Int} (h : os.sum = ((xs.drop kk ++ xs.take kk).drop j).sum) (hw : ∀ s ∈ os, (Lit.int .i32 s).wf = true) (hl : xs.length = n) (hk : kk < n) (hj : 0 < j) (hjn : j ≤ n)
    (hp : ((j : Int) - 1 + (kk : Int)) % (n : Int) = (p : Int)) (hu : xs.getD p 0 = u) (wu : (Lit.int .i32 u).wf = true) :
    (os ++ [u]).sum = ((xs.drop kk ++ xs.take kk).drop (j - 1)).sum ∧ ∀ s ∈ os ++ [u], (Lit.int .i32 s).wf = true := by
  have hlen : (xs.drop kk ++ xs.take kk).length = n := by rw [List.length_append, List.length_drop, List.length_take]; omega
  refine ⟨?_, ?_⟩
  · rw [List.drop_eq_getElem_cons (i := j - 1) (by rw [hlen]; omega), show j - 1 + 1 = j by omega, List.sum_cons, List.sum_append, h]
    have e : (xs.drop kk ++ xs.take kk)[j - 1]'(by rw [hlen]; omega) = u := by
      rw [← hu, List.getD_eq_getElem?_getD]
      have hpn : (p : Int) = ((j - 1 + kk) % n : Nat) := by rw [← hp, Int.natCast_emod]; congr 1; omega
      have hpn' : p = (j - 1 + kk) % n := by omega
      rcases Nat.lt_or_ge (j - 1 + kk) n with hlt | hge
      · rw [Nat.mod_eq_of_lt hlt] at hpn'
        rw [List.getElem_append_left (by rw [List.length_drop]; omega), List.getElem_drop, List.getElem?_eq_getElem (by omega), Option.getD_some]
        congr 1; omega
      · rw [Nat.mod_eq_sub_mod hge, Nat.mod_eq_of_lt (by omega)] at hpn'
        rw [List.getElem_append_right (by rw [List.length_drop]; omega), List.getElem_take, List.getElem?_eq_getElem (by omega), Option.getD_some]
        congr 1; rw [List.length_drop]; omega
    rw [e, List.sum_cons, List.sum_nil]; omega
  · intro s hs
    rcases List.mem_append.1 hs with h1 | h1
    · exact hw s h1
    · simp only [List.mem_singleton] at h1; subst h1; exact wu

end Go.Proofs.Ytkiedganojaniaa
