/-
  What the laws on grids have in common: Add and Stack of two.
-/
import Derived.Test.YtocjcfblpifdhaaLawKit
import Derived.Test.YtocjcfblpifdhaaAdd
import Derived.Test.YtocjcfblpifdhaaProdMath
namespace Go.Proofs.Ytocjcfblpifdhaa
open Go.RowKit
set_option linter.unusedVariables false

/-- Add of two -/
theorem add_gr (a : Option Addr) (cap : Nat) (g k : Gr) (w : World) (h : Grids w a 2 [g, k]) :
    Calls Try.prog 30 #[.slice a 2 cap] w fun e w' => (NoGrid 30 e ∨ ∃ R C : Nat, (g.r = R ∧ g.c = C ∧ k.r = R ∧ k.c = C ∧ g.n = R * C ∧ k.n = R * C ∧ R ≤ 4096 ∧ C ≤ 4096 ∧ R * C ≤ 1048576) ∧ Got w' R C (tab R C fun i j => wrap32 (g.v.getD (i * C + j) 0 + k.v.getD (i * C + j) 0)) e) ∧ Below w.heap.size w w' := by
  cases hc : (commonB (fun g => g.r) [g, k] && (commonB (fun g => g.c) [g, k] && fitAll [g, k])) with
  | false => exact (add_no a 2 cap [g, k] w h hc).mono fun e w' ⟨he, hb⟩ => ⟨.inl he, hb⟩
  | true =>
    simp only [Bool.and_eq_true] at hc
    obtain ⟨h1, h2, h3⟩ := hc
    have f1 := fit_mem h3 g (by simp)
    have f2 := fit_mem h3 k (by simp)
    obtain ⟨R, C, e1, e2, hR, hC, e3, hle⟩ := fitB_yes f1
    obtain ⟨R2, C2, m1, m2, _, _, m3, _⟩ := fitB_yes f2
    have c1 : k.r = g.r := common_mem h1 k (by simp)
    have c2 : k.c = g.c := common_mem h2 k (by simp)
    obtain rfl : R2 = R := by omega
    obtain rfl : C2 = C := by omega
    refine (add_yes a 2 cap [g, k] w h R2 C2 h1 h2 h3 e1 e2 hR hC hle).mono fun e w' ⟨he, hb⟩ => ⟨.inr ⟨R2, C2, ⟨e1, e2, m1, m2, e3, m3, hR, hC, hle⟩, ?_⟩, hb⟩
    have e : (tab R2 C2 fun i j => wrap32 (sumV [g, k] (i * C2 + j))) = tab R2 C2 fun i j => wrap32 (g.v.getD (i * C2 + j) 0 + k.v.getD (i * C2 + j) 0) :=
      tab_congr _ _ _ _ fun i j _ _ => by simp [sumV]
    rw [e] at he
    exact he.gr hR hC

/-- Add of two whose sides are known -/
theorem add_sides (a : Option Addr) (cap : Nat) (g k : Gr) (w : World) (h : Grids w a 2 [g, k]) (R C : Nat) (e1 : g.r = R) (e2 : g.c = C) (e3 : g.n = R * C) (m1 : k.r = R) (m2 : k.c = C) (m3 : k.n = R * C) (hR : R ≤ 4096) (hC : C ≤ 4096) (hle : R * C ≤ 1048576) :
    Calls Try.prog 30 #[.slice a 2 cap] w fun e w' => Got w' R C (tab R C fun i j => wrap32 (g.v.getD (i * C + j) 0 + k.v.getD (i * C + j) 0)) e ∧ Below w.heap.size w w' := by
  have h3 : fitAll [g, k] = true := by
    unfold fitAll
    simp only [List.all_cons, List.all_nil, Bool.and_true, Bool.and_eq_true]
    exact ⟨fit_of e1 e2 e3 hR hC hle, fit_of m1 m2 m3 hR hC hle⟩
  have h1 : commonB (fun g => g.r) [g, k] = true := by unfold commonB; simp [e1, m1]
  have h2 : commonB (fun g => g.c) [g, k] = true := by unfold commonB; simp [e2, m2]
  refine (add_yes a 2 cap [g, k] w h R C h1 h2 h3 e1 e2 hR hC hle).mono fun e w' ⟨he, hb⟩ => ⟨?_, hb⟩
  have e : (tab R C fun i j => wrap32 (sumV [g, k] (i * C + j))) = tab R C fun i j => wrap32 (g.v.getD (i * C + j) 0 + k.v.getD (i * C + j) 0) :=
    tab_congr _ _ _ _ fun i j _ _ => by simp [sumV]
  rw [e] at he
  exact he.gr hR hC

/-- Stack of two whose sides are known -/
theorem stack_sides (a : Option Addr) (cap : Nat) (g k : Gr) (w : World) (h : Grids w a 2 [g, k]) (R R2 C : Nat) (e1 : g.r = R) (e2 : g.c = C) (e3 : g.n = R * C) (m1 : k.r = R2) (m2 : k.c = C) (m3 : k.n = R2 * C) (hR : R + R2 ≤ 4096) (hC : C ≤ 4096) (hle : (R + R2) * C ≤ 1048576) :
    Calls Try.prog 28 #[.slice a 2 cap] w fun e w' => Got w' (R + R2) C (g.v ++ k.v) e ∧ Below w.heap.size w w' := by
  have l1 : R * C ≤ 1048576 := Nat.le_trans (Nat.mul_le_mul_right C (by omega)) hle
  have l2 : R2 * C ≤ 1048576 := Nat.le_trans (Nat.mul_le_mul_right C (by omega)) hle
  have h3 : fitAll [g, k] = true := by
    unfold fitAll
    simp only [List.all_cons, List.all_nil, Bool.and_true, Bool.and_eq_true]
    exact ⟨fit_of e1 e2 e3 (by omega) hC l1, fit_of m1 m2 m3 (by omega) hC l2⟩
  have h2 : commonB (fun g => g.c) [g, k] = true := by unfold commonB; simp [e2, m2]
  have hs : sumOf (fun g => g.r) [g, k] = ((R + R2 : Nat) : Int) := by unfold sumOf; simp [e1, m1]
  refine (stack_yes a 2 cap [g, k] w h (by omega) (R + R2) C h2 h3 hs e2 hR hC hle).mono fun e w' ⟨he, hb⟩ => ⟨?_, hb⟩
  have e : [g, k].flatMap Gr.v = g.v ++ k.v := by simp
  rw [e] at he
  exact he.gr hR hC

end Go.Proofs.Ytocjcfblpifdhaa
