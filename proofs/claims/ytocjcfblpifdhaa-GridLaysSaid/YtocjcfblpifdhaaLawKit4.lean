/-
  Beside of two grids, as the laws ask.
-/
import Derived.Test.YtocjcfblpifdhaaBesideAll
import Derived.Test.YtocjcfblpifdhaaLawKit3
namespace Go.Proofs.Ytocjcfblpifdhaa
open Go.RowKit
set_option linter.unusedVariables false

theorem catRow_wide (gs : List Gr) (i : Nat) : catRow (wide gs) i = catRow gs i := by
  induction gs with
  | nil => rfl
  | cons g gs ih =>
    have e1 : catRow (g :: gs) i = rowOf g.v g.c.toNat i ++ catRow gs i := rfl
    by_cases hc : g.c = 0
    · have e2 : wide (g :: gs) = wide gs := by simp [wide, hc]
      have e3 : rowOf g.v g.c.toNat i = [] := by rw [hc]; unfold rowOf; simp
      rw [e1, e2, e3, ih, List.nil_append]
    · have e2 : wide (g :: gs) = g :: wide gs := by simp [wide, hc]
      have e3 : catRow (g :: wide gs) i = rowOf g.v g.c.toNat i ++ catRow (wide gs) i := rfl
      rw [e1, e2, e3, ih]

theorem beside_sides (a : Option Addr) (cap : Nat) (g k : Gr) (w : World) (h : Grids w a 2 [g, k]) (ha : a = none → cap = 0) (hcap : 2 ≤ cap) (R C C2 : Nat) (e1 : g.r = R) (e2 : g.c = C) (e3 : g.n = R * C) (m1 : k.r = R) (m2 : k.c = C2) (m3 : k.n = R * C2) (hR : R ≤ 4096) (hC : C + C2 ≤ 4096) (hle : R * (C + C2) ≤ 1048576) :
    Calls Try.prog 29 #[.slice a 2 cap] w fun e w' => Got w' R (C + C2) (tab R (C + C2) fun i j => if j < C then g.v.getD (i * C + j) 0 else k.v.getD (i * C2 + (j - C)) 0) e ∧ Below w.heap.size w w' := by
  have l1 : R * C ≤ 1048576 := Nat.le_trans (Nat.mul_le_mul_left R (by omega)) hle
  have l2 : R * C2 ≤ 1048576 := Nat.le_trans (Nat.mul_le_mul_left R (by omega)) hle
  have h3 : fitAll [g, k] = true := by
    unfold fitAll
    simp only [List.all_cons, List.all_nil, Bool.and_true, Bool.and_eq_true]
    exact ⟨fit_of e1 e2 e3 hR (by omega) l1, fit_of m1 m2 m3 hR (by omega) l2⟩
  have h2 : commonB (fun g => g.r) [g, k] = true := by unfold commonB; simp [e1, m1]
  have hs : sumOf (fun g => g.c) [g, k] = ((C + C2 : Nat) : Int) := by unfold sumOf; simp [e2, m2]
  have hl : g.v.length = R * C := by rw [← e3]; exact (h.2.2.1 g (by simp)).1.1
  refine (beside_yes a 2 cap [g, k] w h (by omega) ha hcap R (C + C2) h2 h3 e1 hs hR hC hle).mono fun e w' ⟨he, hb⟩ => ⟨?_, hb⟩
  have e : (tab R (C + C2) fun i j => (catRow (wide [g, k]) i).getD j 0) = tab R (C + C2) fun i j => if j < C then g.v.getD (i * C + j) 0 else k.v.getD (i * C2 + (j - C)) 0 := by
    refine tab_congr _ _ _ _ fun i j hi hj => ?_
    have hrl : (rowOf g.v C i).length = C := by unfold rowOf; have := row_le (C := C) hi; simp; omega
    have ec : catRow [g, k] i = rowOf g.v C i ++ rowOf k.v C2 i := by unfold catRow; simp [e2, m2]
    rw [catRow_wide, ec]
    by_cases hjc : j < C
    · rw [if_pos hjc, List.getD_eq_getElem?_getD, List.getElem?_append_left (by omega), ← List.getD_eq_getElem?_getD, rowOf_at _ _ _ _ hjc]
    · rw [if_neg hjc, List.getD_eq_getElem?_getD, List.getElem?_append_right (by omega), hrl, ← List.getD_eq_getElem?_getD, rowOf_at _ _ _ _ (by omega)]
  rw [e] at he
  exact he.gr hR hC

/-- a grid's rows ahead of r and from r on, one behind the other, are the grid's -/
theorem rows_whole (v : List Int) (R C r : Nat) (hl : v.length = R * C) (hr : r ≤ R) :
    (tab (r - 0) C fun i j => v.getD ((0 + i) * C + j) 0) ++ (tab (R - r) C fun i j => v.getD ((r + i) * C + j) 0) = v := by
  have h1 : ((tab (r - 0) C fun i j => v.getD ((0 + i) * C + j) 0) ++ (tab (R - r) C fun i j => v.getD ((r + i) * C + j) 0)).length = v.length := by
    rw [List.length_append, tab_length, tab_length, hl, ← Nat.add_mul]; congr 1; omega
  refine List.ext_getElem? fun n => ?_
  by_cases hn : n < R * C
  · have hC : 0 < C := by rcases Nat.eq_zero_or_pos C with h | h
                          · subst h; simp at hn
                          · exact h
    have hi : n / C < R := Nat.div_lt_of_lt_mul (by rw [Nat.mul_comm]; exact hn)
    have hj : n % C < C := Nat.mod_lt _ hC
    have hdm : n = n / C * C + n % C := by rw [Nat.mul_comm]; exact (Nat.div_add_mod n C).symm
    generalize n / C = i at hi hdm
    generalize n % C = j at hj hdm
    subst hdm
    have hv : v[i * C + j]? = some (v.getD (i * C + j) 0) := by rw [List.getD_eq_getElem?_getD, List.getElem?_eq_getElem (by omega)]; rfl
    rw [hv]
    by_cases hir : i < r
    · have hlt := row_lt hir hj
      have := tab_at (r - 0) C (fun i j => v.getD ((0 + i) * C + j) 0) i j (by omega) hj
      rw [List.getElem?_append_left (by rw [tab_length, Nat.sub_zero]; exact hlt), List.getElem?_eq_getElem (by rw [tab_length, Nat.sub_zero]; exact hlt)]
      rw [List.getD_eq_getElem?_getD, List.getElem?_eq_getElem (by rw [tab_length, Nat.sub_zero]; exact hlt)] at this
      simp only [Option.getD_some] at this
      rw [this, Nat.zero_add]
    · obtain ⟨q, rfl⟩ : ∃ q, i = r + q := ⟨i - r, by omega⟩
      have hlt : q * C + j < (R - r) * C := row_lt (by omega) hj
      have := tab_at (R - r) C (fun i j => v.getD ((r + i) * C + j) 0) q j (by omega) hj
      have e9 : (r + q) * C + j - (r - 0) * C = q * C + j := by rw [Nat.add_mul, Nat.sub_zero]; omega
      rw [List.getElem?_append_right (by rw [tab_length, Nat.sub_zero, Nat.add_mul]; omega), tab_length, e9, List.getElem?_eq_getElem (by rw [tab_length]; exact hlt)]
      rw [List.getD_eq_getElem?_getD, List.getElem?_eq_getElem (by rw [tab_length]; exact hlt)] at this
      simp only [Option.getD_some] at this
      rw [this]
  · rw [List.getElem?_eq_none (by omega), List.getElem?_eq_none (by omega)]

/-- a table whose cells are a list's is that list -/
theorem tab_self (v : List Int) (R C : Nat) (hl : v.length = R * C) (f : Nat → Nat → Int) (hf : ∀ i j, i < R → j < C → f i j = v.getD (i * C + j) 0) : tab R C f = v := by
  have h := rows_whole v R C R hl (Nat.le_refl _)
  have e0 : (tab (R - R) C fun i j => v.getD ((R + i) * C + j) 0) = [] := List.eq_nil_of_length_eq_zero (by rw [tab_length]; simp)
  rw [e0, List.append_nil, Nat.sub_zero] at h
  rw [← h]
  refine tab_congr _ _ _ _ fun i j hi hj => ?_
  rw [hf i j hi hj, Nat.zero_add]

/-- a place, brought to 0 .. n: as the laws bring it -/
theorem place (at_ : Int) (n : Nat) (h : n ≤ 4096) : ∃ r : Nat, r ≤ n ∧ (at_.tmod ((n : Int) + 1) + (n : Int) + 1).tmod ((n : Int) + 1) = r := by
  have h1 := Int.tmod_lt_of_pos at_ (show (0 : Int) < (n : Int) + 1 by omega)
  have h2 : -((n : Int) + 1) < at_.tmod ((n : Int) + 1) := by
    have := Int.lt_tmod_of_pos at_ (show (0 : Int) < (n : Int) + 1 by omega)
    omega
  obtain ⟨x, hx⟩ : ∃ x, at_.tmod ((n : Int) + 1) + (n : Int) + 1 = x := ⟨_, rfl⟩
  rw [hx]
  have hx0 : 0 ≤ x := by omega
  have h3 := Int.tmod_lt_of_pos x (show (0 : Int) < (n : Int) + 1 by omega)
  have h4 := Int.tmod_nonneg ((n : Int) + 1) hx0
  exact ⟨(x.tmod ((n : Int) + 1)).toNat, by omega, by omega⟩

end Go.Proofs.Ytocjcfblpifdhaa
