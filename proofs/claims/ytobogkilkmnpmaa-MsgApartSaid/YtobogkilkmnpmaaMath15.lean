/-
  Messages in plain mathematics: which numbers of a kind mean something (a mask: bit i for number i, bit 7 for the list), which messages are right.
-/
import Derived.Test.YtobogkilkmnpmaaFrame14
import Derived.Test.YtobogkilkmnpmaaMsRow15
namespace Go.Proofs.Ytobogkilkmnpmaa
open Go.RowKit
set_option linter.unusedVariables false

/-- the mask of a kind (0: there is no such kind) -/
def fm (k : Int) : Nat :=
  if k = 13 then 6 else if k = 12 then 70 else if k = 11 then 66 else if k = 10 then 2 else if k = 9 then 194 else if k = 8 then 35 else if k = 7 then 49 else if k = 6 then 1 else if k = 5 then 49 else if k = 4 then 71 else if k = 3 then 191 else if k = 2 then 143 else if k = 1 then 71 else 0
theorem fm_none {k : Int} (h : k < 1 ∨ 13 < k) : fm k = 0 := by
  unfold fm
  rw [if_neg (by omega), if_neg (by omega), if_neg (by omega), if_neg (by omega), if_neg (by omega), if_neg (by omega), if_neg (by omega), if_neg (by omega), if_neg (by omega), if_neg (by omega), if_neg (by omega), if_neg (by omega), if_neg (by omega)]
theorem kind_cases (k : Int) : k = 1 ∨ k = 2 ∨ k = 3 ∨ k = 4 ∨ k = 5 ∨ k = 6 ∨ k = 7 ∨ k = 8 ∨ k = 9 ∨ k = 10 ∨ k = 11 ∨ k = 12 ∨ k = 13 ∨ (k < 1 ∨ 13 < k) := by omega
theorem fm_lt (k : Int) : fm k < 256 := by
  rcases kind_cases k with rfl | rfl | rfl | rfl | rfl | rfl | rfl | rfl | rfl | rfl | rfl | rfl | rfl | h
  case inr.inr.inr.inr.inr.inr.inr.inr.inr.inr.inr.inr.inr => rw [fm_none h]; decide
  all_goals decide
theorem fm_some {k : Int} (h : fm k ≠ 0) : 1 ≤ k ∧ k ≤ 13 := by
  rcases Classical.em (k < 1 ∨ 13 < k) with h2 | h2
  · exact absurd (fm_none h2) h
  · omega
/-- a message's numbers, in their order -/
def Ms15.num (x : Ms15) (i : Nat) : Int := ([x.n0, x.n1, x.n2, x.n3, x.n4, x.n5, x.n6] : List Int).getD i 0
/-- may number i be n? -/
def okn (F : Nat) (n : Int) (i : Nat) : Bool := decide (0 ≤ n ∧ n < 1099511627776 ∧ (n = 0 ∨ F.testBit i = true))
/-- as many as the list may have -/
def most15 (F : Nat) : Nat := if F.testBit 7 then 4096 else 0
/-- are all numbers up to j right? -/
def okTo (F : Nat) (x : Ms15) (j : Nat) : Prop := ∀ i, i < j → okn F (x.num i) i = true
instance (F : Nat) (x : Ms15) (j : Nat) : Decidable (okTo F x j) := inferInstanceAs (Decidable (∀ i, i < j → okn F (x.num i) i = true))
/-- is a message right? -/
def rightM (x : Ms15) : Bool := decide (fm x.kind ≠ 0) && decide (okTo (fm x.kind) x 7) && decide (x.li.n ≤ most15 (fm x.kind))
theorem okTo_next {F : Nat} {x : Ms15} {j : Nat} (h : okTo F x j) (h2 : okn F (x.num j) j = true) : okTo F x (j + 1) := by
  intro i hi
  by_cases e : i = j
  · rw [e]; exact h2
  · exact h i (by omega)
theorem Ms15.num_cell (x : Ms15) (i : Nat) (h : i < 7) : x.cells[1 + i]? = some (.int .i64 (x.num i)) := by
  have : i = 0 ∨ i = 1 ∨ i = 2 ∨ i = 3 ∨ i = 4 ∨ i = 5 ∨ i = 6 := by omega
  rcases this with rfl | rfl | rfl | rfl | rfl | rfl | rfl <;> rfl
theorem Ms15.In.num {w : World} {x : Ms15} (h : x.In w) (i : Nat) (hi : i < 7) : (Lit.int .i64 (x.num i)).wf = true := by
  obtain ⟨h0, h1, h2, h3, h4, h5, h6, h7, h8⟩ := h
  have : i = 0 ∨ i = 1 ∨ i = 2 ∨ i = 3 ∨ i = 4 ∨ i = 5 ∨ i = 6 := by omega
  rcases this with rfl | rfl | rfl | rfl | rfl | rfl | rfl <;> assumption
theorem Ms15.In.li {w : World} {x : Ms15} (h : x.In w) : x.li.In .i32 w := h.2.2.2.2.2.2.2.2
theorem Ms15.one (x : Ms15) : ∀ u ∈ x.cells, u.oneCell' = true := by
  intro u hu
  simp only [Ms15.cells, List.mem_cons, List.not_mem_nil, or_false] at hu
  rcases hu with rfl | rfl | rfl | rfl | rfl | rfl | rfl | rfl | rfl <;> rfl

end Go.Proofs.Ytobogkilkmnpmaa
