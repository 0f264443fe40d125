/-
  A row of the call's own: cut short, one cell stored anew, as an argument of Parse.
-/
import Derived.Test.YtkinbngikmcpeaaAppRow
namespace Go.Proofs.Ytkinbngikmcpeaa
open Go.RowKit
set_option linter.unusedVariables false

theorem own_cut {w : World} {base : Nat} {e : TypeId} {a : Option Addr} {n m cap : Nat} {xs : List Value} (h : w.ownsRow base e 1 (.slice a n cap) n xs) (hm : m ≤ n) : w.ownsRow base e 1 (.slice a m cap) m (xs.take m) := by
  refine ⟨by rw [List.length_take, h.1]; omega, ?_⟩
  rcases h.2 with ⟨h1, h2⟩ | ⟨g, c, cur, h1, h2, h3, h4, h5, h6, h7⟩
  · simp only [Value.slice.injEq] at h1
    obtain ⟨rfl, _, rfl⟩ := h1
    obtain rfl : m = 0 := by omega
    exact .inl ⟨rfl, rfl⟩
  · simp only [Value.slice.injEq, true_and] at h1
    obtain ⟨rfl, rfl⟩ := h1
    refine .inr ⟨g, cap, cur, rfl, h2, h3, by omega, h5, h6, ?_⟩
    rw [← h7, List.take_take]
    congr 1
    omega

/-- where such a row lies, and how it reads -/
theorem own_lies {kd : IntKind} {w : World} {base : Nat} {e : TypeId} {v : Value} {n : Nat} {xs : List Int} (h : w.ownsRow base e 1 v n (xs.map (.int kd))) (hw : ∀ x ∈ xs, (Lit.int kd x).wf = true) (hn : n ≤ 9223372036854775807) :
    ∃ a cap, v = .slice a n cap ∧ Elems kd w a n xs ∧ n ≤ cap ∧ cap ≤ 9223372036854775807 ∧ (a = none → cap = 0) ∧ (0 < n → ∃ b, a = some ⟨b, 0, none⟩) := by
  obtain ⟨a, cap, rfl, hE, h1, h2, h3⟩ := own_reads h hw hn
  refine ⟨a, cap, rfl, hE, h1, h2, h3, fun h0 => ?_⟩
  rcases h.2 with ⟨_, h4⟩ | ⟨g, c, cur, h4, _⟩
  · omega
  · simp only [Value.slice.injEq] at h4
    exact ⟨g, h4.1⟩

/-- one cell stored anew -/
theorem own_store {kd : IntKind} {w : World} {base : Nat} {e : TypeId} {g n cap : Nat} {xs : List Int} (h : w.ownsRow base e 1 (.slice (some ⟨g, 0, none⟩) n cap) n (xs.map (.int kd))) (j : Nat) (x : Int) :
    (w.setCell ⟨g, j, none⟩ (.int kd x)).ownsRow base e 1 (.slice (some ⟨g, 0, none⟩) n cap) n ((xs.set j x).map (.int kd)) := by
  have := (h.stored j (.int kd x)).1
  rw [List.map_set]
  exact this

/-- bytes stay bytes -/
theorem set_wf {kd : IntKind} {xs : List Int} (h : ∀ x ∈ xs, (Lit.int kd x).wf = true) (j : Nat) {y : Int} (hy : (Lit.int kd y).wf = true) : ∀ x ∈ xs.set j y, (Lit.int kd x).wf = true := by
  intro x hx
  rcases List.mem_or_eq_of_mem_set hx with h1 | h1
  · exact h x h1
  · rw [h1]; exact hy

/-- the first numbers of one row, the others of another -/
theorem take_drop_set (xs ys : List Int) (k : Nat) (x : Int) (hx : xs.getD k 0 = x) (h1 : k < xs.length) (h2 : k < ys.length) : (xs.take k ++ ys.drop k).set k x = xs.take (k + 1) ++ ys.drop (k + 1) := by
  rw [List.set_append_right _ _ (by simp; omega)]
  have e : k - (xs.take k).length = 0 := by simp; omega
  rw [e, List.drop_eq_getElem_cons h2, List.set_cons_zero, List.take_add_one, List.getElem?_eq_getElem h1]
  have : xs[k] = x := by rw [← hx, List.getD_eq_getElem?_getD, List.getElem?_eq_getElem h1]; rfl
  simp [this]
theorem take_drop_wf {kd : IntKind} {xs ys : List Int} (h1 : ∀ x ∈ xs, (Lit.int kd x).wf = true) (h2 : ∀ x ∈ ys, (Lit.int kd x).wf = true) (k : Nat) : ∀ x ∈ xs.take k ++ ys.drop k, (Lit.int kd x).wf = true := by
  intro x hx
  rcases List.mem_append.1 hx with h | h
  · exact h1 x (List.mem_of_mem_take h)
  · exact h2 x (List.mem_of_mem_drop h)

end Go.Proofs.Ytkinbngikmcpeaa
