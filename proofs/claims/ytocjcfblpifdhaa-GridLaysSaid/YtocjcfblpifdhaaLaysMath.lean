/-
  Stack's and Add's conditions, grid by grid.
-/
import Derived.Test.YtocjcfblpifdhaaStack
import Derived.Test.YtocjcfblpifdhaaAdd
namespace Go.Proofs.Ytocjcfblpifdhaa
open Go.RowKit
set_option linter.unusedVariables false

def stackB (gs : List Gr) : Bool := commonB (fun g => g.c) gs && (fitAll gs && newB (sumOf (fun g => g.r) gs) (side0 (fun g => g.c) gs))

theorem take_g (gs : List Gr) (k : Nat) (hk : k < gs.length) (g : Gr) (hg : gs.getD k default = g) : gs.take (k + 1) = gs.take k ++ [g] := by
  rw [List.take_add_one, ← hg]; simp [List.getD, List.getElem?_eq_getElem hk]

theorem fitAll_app (xs ys : List Gr) : fitAll (xs ++ ys) = (fitAll xs && fitAll ys) := by unfold fitAll; rw [List.all_append]
theorem fitAll_one (g : Gr) : fitAll [g] = fitB g.r g.c g.n := by simp [fitAll]
theorem sumOf_app (p : Gr → Int) (xs ys : List Gr) : sumOf p (xs ++ ys) = sumOf p xs + sumOf p ys := by unfold sumOf; rw [List.map_append, List.sum_append]
theorem sumOf_one (p : Gr → Int) (g : Gr) : sumOf p [g] = p g := by simp [sumOf]
theorem cells_app (xs ys : List Gr) : cells (xs ++ ys) = cells xs + cells ys := by unfold cells; rw [List.map_append, List.sum_append]
theorem side0_app (p : Gr → Int) (x : Gr) (xs ys : List Gr) : side0 p (x :: xs ++ ys) = side0 p (x :: xs) := by simp [side0]
theorem commonB_app (p : Gr → Int) (x : Gr) (xs : List Gr) (g : Gr) : commonB p (x :: xs ++ [g]) = (commonB p (x :: xs) && decide (p g = side0 p (x :: xs))) := by
  unfold commonB side0
  rw [List.all_append]
  simp
theorem commonB_sub {p : Gr → Int} {xs ys : List Gr} (h : commonB p (xs ++ ys) = true) : commonB p xs = true := by
  cases xs with
  | nil => rfl
  | cons x xs =>
    unfold commonB at h ⊢
    rw [List.all_append, Bool.and_eq_true] at h
    exact h.1

theorem stackB_nil : stackB [] = true := by decide

theorem stack_unfit {xs : List Gr} {g : Gr} (h : fitB g.r g.c g.n = false) : stackB (xs ++ [g]) = false := by
  unfold stackB
  rw [fitAll_app, fitAll_one, h]; simp
theorem stack_uncommon {xs : List Gr} {g : Gr} (hne : xs ≠ []) (h : g.c ≠ side0 (fun g => g.c) xs) : stackB (xs ++ [g]) = false := by
  cases xs with
  | nil => exact absurd rfl hne
  | cons x xs =>
    unfold stackB
    rw [commonB_app, decide_eq_false h]; simp

theorem stackB_yes {xs : List Gr} (h : stackB xs = true) : commonB (fun g => g.c) xs = true ∧ fitAll xs = true ∧ 0 ≤ sumOf (fun g => g.r) xs ∧ sumOf (fun g => g.r) xs ≤ 4096 ∧ 0 ≤ side0 (fun g => g.c) xs ∧ side0 (fun g => g.c) xs ≤ 4096 ∧ (cells xs : Int) = sumOf (fun g => g.r) xs * side0 (fun g => g.c) xs ∧ cells xs ≤ 1048576 := by
  unfold stackB at h
  simp only [Bool.and_eq_true] at h
  obtain ⟨h1, h2, h3⟩ := h
  have hc := cells_rows h2 h1
  obtain ⟨R, C, e1, e2, hR, hC, hle⟩ := newB_yes h3
  refine ⟨h1, h2, by omega, by omega, by omega, by omega, hc, ?_⟩
  rw [e1, e2] at hc
  have : cells xs = R * C := by exact_mod_cast hc
  omega

/-- one grid more, that is fit and as broad: whether it goes is whether what is built is fit -/
theorem stack_more {xs : List Gr} {g : Gr} (h : stackB xs = true) (hf : fitB g.r g.c g.n = true) (hc : xs = [] ∨ g.c = side0 (fun g => g.c) xs) :
    side0 (fun g => g.c) (xs ++ [g]) = g.c ∧ fitB (sumOf (fun g => g.r) xs + g.r) g.c (cells xs + g.n) = stackB (xs ++ [g]) := by
  obtain ⟨h1, h2, _⟩ := stackB_yes h
  have hcm : commonB (fun g => g.c) (xs ++ [g]) = true ∧ side0 (fun g => g.c) (xs ++ [g]) = g.c := by
    cases xs with
    | nil => exact ⟨by simp [commonB], by simp [side0]⟩
    | cons x xs =>
      have hc : g.c = side0 (fun g => g.c) (x :: xs) := hc.resolve_left (by simp)
      refine ⟨?_, ?_⟩
      · rw [commonB_app, h1, decide_eq_true hc]; rfl
      · rw [side0_app]; exact hc.symm
  have hfa : fitAll (xs ++ [g]) = true := by rw [fitAll_app, fitAll_one, h2, hf]; rfl
  have hcr := cells_rows hfa hcm.1
  rw [hcm.2, cells_app, sumOf_app, sumOf_one] at hcr
  have e1 : cells [g] = g.n := by simp [cells]
  rw [e1] at hcr
  refine ⟨hcm.2, ?_⟩
  unfold stackB
  rw [hcm.1, hfa, hcm.2, sumOf_app, sumOf_one, Bool.true_and, Bool.true_and]
  unfold fitB rightB newB
  generalize sumOf (fun g => g.r) xs + g.r = r at hcr ⊢
  have e2 : decide (((cells xs + g.n : Nat) : Int) = r * g.c) = true := decide_eq_true hcr
  have e3 : decide (cells xs + g.n ≤ 1048576) = decide (r * g.c ≤ 1048576) := by
    rw [← hcr]
    congr 1
    apply propext
    omega
  rw [e2, e3]
  cases sideB r <;> cases sideB g.c <;> simp

theorem stack_sub {xs ys : List Gr} (h : stackB (xs ++ ys) = true) : stackB xs = true := by
  obtain ⟨h1, h2, h3, h4, h5, h6, h7, h8⟩ := stackB_yes h
  cases xs with
  | nil => exact stackB_nil
  | cons x xs =>
    rw [fitAll_app, Bool.and_eq_true] at h2
    have hs := commonB_sub h1
    have hx := (fit_sides h2.1).1
    have hy := (fit_sides h2.2).1
    have a1 := (sumOf_nonneg (p := fun g => g.r) hx).1
    have a2 := (sumOf_nonneg (p := fun g => g.r) hy).1
    rw [sumOf_app] at h3 h4
    rw [side0_app] at h5 h6
    have hcr := cells_rows h2.1 hs
    have hle : cells (x :: xs) ≤ 1048576 := by rw [cells_app] at h8; omega
    unfold stackB
    rw [hs, h2.1, Bool.true_and, Bool.true_and]
    unfold newB sideB
    simp only [Bool.and_eq_true, decide_eq_true_eq]
    exact ⟨by omega, by omega, by rw [← hcr]; omega⟩
theorem stack_not {xs ys : List Gr} (h : stackB xs = false) : stackB (xs ++ ys) = false := by
  cases hh : stackB (xs ++ ys) with
  | false => rfl
  | true => rw [stack_sub hh] at h; cases h
theorem stack_not_take {gs : List Gr} {k : Nat} (h : stackB (gs.take k) = false) : stackB gs = false := by
  have := stack_not (ys := gs.drop k) h
  rwa [List.take_append_drop] at this

theorem flat_len_cells {w : World} {gs : List Gr} (h : ∀ g ∈ gs, g.In w) : (gs.flatMap Gr.v).length = cells gs := by
  induction gs with
  | nil => rfl
  | cons g gs ih =>
    have e : cells (g :: gs) = g.n + cells gs := by simp [cells]
    rw [List.flatMap_cons, List.length_append, ih (fun x hx => h x (by simp [hx])), e, (h g (by simp)).1.1]

end Go.Proofs.Ytocjcfblpifdhaa
