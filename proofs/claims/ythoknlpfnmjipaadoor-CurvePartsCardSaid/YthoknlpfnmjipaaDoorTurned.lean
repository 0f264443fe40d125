/-
  Plain mathematics of a list that is turned: its numbers by their places, its weights' sum.
-/
import Derived.Test.YthoknlpfnmjipaaDoorWhole
namespace Go.Proofs.YthoknlpfnmjipaaDoor
open Go.RowKit
set_option linter.unusedVariables false

theorem turned_at {xs : List Int} {n k i : Nat} (hl : xs.length = n) (hk : k < n) (hi : i < n) : (xs.drop k ++ xs.take k).getD i 0 = xs.getD ((i + k) % n) 0 := by
  rw [List.getD_eq_getElem?_getD, List.getD_eq_getElem?_getD]
  rcases Nat.lt_or_ge (i + k) n with hlt | hge
  · rw [Nat.mod_eq_of_lt hlt, List.getElem?_append_left (by rw [List.length_drop]; omega), List.getElem?_drop, Nat.add_comm k i]
  · rw [Nat.mod_eq_sub_mod hge, Nat.mod_eq_of_lt (by omega), List.getElem?_append_right (by rw [List.length_drop]; omega), List.length_drop, List.getElem?_take, if_pos (by omega)]
    congr 2; omega
theorem tot_append (xs ys : List Int) : tot (xs ++ ys) = tot xs + tot ys := by unfold tot; rw [List.map_append, List.sum_append]
theorem tot_turned (xs : List Int) (k : Nat) : tot (xs.drop k ++ xs.take k) = tot xs := by
  rw [tot_append, Int.add_comm, ← tot_append, List.take_append_drop]
theorem tot_more (xs : List Int) (k : Nat) : tot ((xs.drop k ++ xs.take k) ++ [0, -5]) = tot xs := by
  rw [tot_append, tot_turned]; simp [tot, pos]

end Go.Proofs.YthoknlpfnmjipaaDoor
