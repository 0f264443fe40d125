/-
  Sums of products by the rest of 2^32: in which order and in which parts a product is reckoned doesn't matter.
-/
import Derived.Test.YtocjcfblpifdhaaCut2
namespace Go.Proofs.Ytocjcfblpifdhaa
open Go.RowKit
set_option linter.unusedVariables false

/-- the sum of f 0 .. f (k - 1) -/
def sumN (k : Nat) (f : Nat → Int) : Int := ((List.range k).map f).sum
theorem sumN_zero (f : Nat → Int) : sumN 0 f = 0 := rfl
theorem sumN_succ (k : Nat) (f : Nat → Int) : sumN (k + 1) f = sumN k f + f k := by
  unfold sumN; rw [List.range_succ, List.map_append, List.sum_append]; simp
theorem sumN_congr {k : Nat} {f g : Nat → Int} (h : ∀ t, t < k → f t = g t) : sumN k f = sumN k g := by
  induction k with
  | zero => rfl
  | succ k ih => rw [sumN_succ, sumN_succ, ih (fun t ht => h t (by omega)), h k (by omega)]
theorem sumN_add (k : Nat) (f g : Nat → Int) : sumN k (fun t => f t + g t) = sumN k f + sumN k g := by
  induction k with
  | zero => rfl
  | succ k ih => rw [sumN_succ, sumN_succ, sumN_succ, ih]; omega
theorem sumN_mul (k : Nat) (f : Nat → Int) (c : Int) : sumN k (fun t => c * f t) = c * sumN k f := by
  induction k with
  | zero => simp [sumN_zero]
  | succ k ih => rw [sumN_succ, sumN_succ, ih, Int.mul_add]
theorem sumN_swap (k m : Nat) (f : Nat → Nat → Int) : sumN k (fun s => sumN m (fun t => f s t)) = sumN m (fun t => sumN k (fun s => f s t)) := by
  induction k with
  | zero =>
    simp only [sumN_zero]
    induction m with
    | zero => rfl
    | succ m ih => rw [sumN_succ, ← ih]; rfl
  | succ k ih =>
    rw [sumN_succ, ih, ← sumN_add]
    exact sumN_congr fun t _ => (sumN_succ k (fun s => f s t)).symm
theorem sumN_split (k m : Nat) (f : Nat → Int) : sumN (k + m) f = sumN k f + sumN m (fun t => f (k + t)) := by
  induction m with
  | zero => simp [sumN_zero]
  | succ m ih => rw [← Nat.add_assoc, sumN_succ, ih, sumN_succ]; omega

/-- the same by the rest of 2^32 -/
def Eqv (a b : Int) : Prop := ∃ m, a = b + 4294967296 * m
theorem Eqv.refl (a : Int) : Eqv a a := ⟨0, by omega⟩
theorem Eqv.symm {a b : Int} (h : Eqv a b) : Eqv b a := by obtain ⟨m, rfl⟩ := h; exact ⟨-m, by omega⟩
theorem Eqv.trans {a b c : Int} (h : Eqv a b) (h2 : Eqv b c) : Eqv a c := by
  obtain ⟨m, rfl⟩ := h; obtain ⟨n, rfl⟩ := h2; exact ⟨m + n, by omega⟩
theorem Eqv.add {a b c d : Int} (h : Eqv a b) (h2 : Eqv c d) : Eqv (a + c) (b + d) := by
  obtain ⟨m, rfl⟩ := h; obtain ⟨n, rfl⟩ := h2; exact ⟨m + n, by omega⟩
theorem Eqv.mul_left {a b : Int} (h : Eqv a b) (c : Int) : Eqv (c * a) (c * b) := by
  obtain ⟨m, rfl⟩ := h; exact ⟨c * m, by rw [Int.mul_add, Int.mul_left_comm]⟩
theorem Eqv.mul_right {a b : Int} (h : Eqv a b) (c : Int) : Eqv (a * c) (b * c) := by
  rw [Int.mul_comm a, Int.mul_comm b]; exact h.mul_left c
theorem eqv_wrap (x : Int) : Eqv (wrap32 x) x := by
  refine ⟨(wrap32 x - x) / 4294967296, ?_⟩
  unfold wrap32; omega
theorem wrap_eqv {a b : Int} (h : Eqv a b) : wrap32 a = wrap32 b := by
  obtain ⟨m, rfl⟩ := h; unfold wrap32; omega
theorem sumN_eqv {k : Nat} {f g : Nat → Int} (h : ∀ t, t < k → Eqv (f t) (g t)) : Eqv (sumN k f) (sumN k g) := by
  induction k with
  | zero => exact Eqv.refl _
  | succ k ih => rw [sumN_succ, sumN_succ]; exact (ih (fun t ht => h t (by omega))).add (h k (by omega))

theorem prod_sum (xs ys : List Int) (K C i j : Nat) : prod xs ys K C i j = wrap32 (sumN K fun t => xs.getD (i * K + t) 0 * ys.getD (t * C + j) 0) := rfl

/-- of three it doesn't matter which two are multiplied first -/
theorem prod_assoc (xs ys zs : List Int) (R K L M i j : Nat) (hi : i < R) (hj : j < M) :
    prod (tab R L fun i j => prod xs ys K L i j) zs L M i j = prod xs (tab K M fun i j => prod ys zs L M i j) K M i j := by
  rw [prod_sum, prod_sum]
  apply wrap_eqv
  have h1 : Eqv (sumN L fun t => (tab R L fun i j => prod xs ys K L i j).getD (i * L + t) 0 * zs.getD (t * M + j) 0) (sumN L fun t => (sumN K fun s => xs.getD (i * K + s) 0 * ys.getD (s * L + t) 0) * zs.getD (t * M + j) 0) :=
    sumN_eqv fun t ht => by rw [tab_at R L _ i t hi ht, prod_sum]; exact (eqv_wrap _).mul_right _
  have h2 : Eqv (sumN K fun s => xs.getD (i * K + s) 0 * (tab K M fun i j => prod ys zs L M i j).getD (s * M + j) 0) (sumN K fun s => xs.getD (i * K + s) 0 * (sumN L fun t => ys.getD (s * L + t) 0 * zs.getD (t * M + j) 0)) :=
    sumN_eqv fun s hs => by rw [tab_at K M _ s j hs hj, prod_sum]; exact (eqv_wrap _).mul_left _
  refine h1.trans (Eqv.trans ?_ h2.symm)
  have e : (sumN L fun t => (sumN K fun s => xs.getD (i * K + s) 0 * ys.getD (s * L + t) 0) * zs.getD (t * M + j) 0) = sumN K fun s => xs.getD (i * K + s) 0 * (sumN L fun t => ys.getD (s * L + t) 0 * zs.getD (t * M + j) 0) := by
    have a1 : (sumN L fun t => (sumN K fun s => xs.getD (i * K + s) 0 * ys.getD (s * L + t) 0) * zs.getD (t * M + j) 0) = sumN L fun t => sumN K fun s => xs.getD (i * K + s) 0 * (ys.getD (s * L + t) 0 * zs.getD (t * M + j) 0) :=
      sumN_congr fun t _ => by
        rw [Int.mul_comm, ← sumN_mul]
        exact sumN_congr fun s _ => by rw [Int.mul_comm (zs.getD _ _), Int.mul_assoc]
    rw [a1, sumN_swap]
    exact sumN_congr fun s _ => sumN_mul L _ _
  rw [e]; exact Eqv.refl _

/-- a product with a sum is the sum of products -/
theorem prod_add (xs ys zs : List Int) (K C i j : Nat) (hj : j < C) :
    prod xs (tab K C fun i j => wrap32 (ys.getD (i * C + j) 0 + zs.getD (i * C + j) 0)) K C i j = wrap32 (prod xs ys K C i j + prod xs zs K C i j) := by
  rw [prod_sum, prod_sum, prod_sum]
  apply wrap_eqv
  have h1 : Eqv (sumN K fun t => xs.getD (i * K + t) 0 * (tab K C fun i j => wrap32 (ys.getD (i * C + j) 0 + zs.getD (i * C + j) 0)).getD (t * C + j) 0) (sumN K fun t => xs.getD (i * K + t) 0 * ys.getD (t * C + j) 0 + xs.getD (i * K + t) 0 * zs.getD (t * C + j) 0) :=
    sumN_eqv fun t ht => by
      rw [tab_at K C _ t j ht hj, ← Int.mul_add]
      exact (eqv_wrap _).mul_left _
  rw [sumN_add] at h1
  exact h1.trans ((eqv_wrap _).add (eqv_wrap _)).symm

/-- a product is that of the turned ones, the other way round, turned -/
theorem prod_turn (xs ys : List Int) (R K C i j : Nat) (hi : i < R) (hj : j < C) :
    prod (tab C K fun i j => ys.getD (j * C + i) 0) (tab K R fun i j => xs.getD (j * K + i) 0) K R j i = prod xs ys K C i j := by
  rw [prod_sum, prod_sum]
  congr 1
  exact sumN_congr fun t ht => by rw [tab_at C K _ j t hj ht, tab_at K R _ t i ht hi, Int.mul_comm]

/-- the columns of a with the rows of b, summed -/
theorem prod_parts (xs ys : List Int) (R K C k i j : Nat) (hk : k ≤ K) (hi : i < R) (hj : j < C) :
    wrap32 (prod (tab R k fun i j => xs.getD (i * K + (0 + j)) 0) (tab k C fun i j => ys.getD ((0 + i) * C + j) 0) k C i j +
      prod (tab R (K - k) fun i j => xs.getD (i * K + (k + j)) 0) (tab (K - k) C fun i j => ys.getD ((k + i) * C + j) 0) (K - k) C i j) = prod xs ys K C i j := by
  rw [prod_sum, prod_sum, prod_sum]
  have e1 : (sumN k fun t => (tab R k fun i j => xs.getD (i * K + (0 + j)) 0).getD (i * k + t) 0 * (tab k C fun i j => ys.getD ((0 + i) * C + j) 0).getD (t * C + j) 0) = sumN k fun t => xs.getD (i * K + t) 0 * ys.getD (t * C + j) 0 :=
    sumN_congr fun t ht => by rw [tab_at R k _ i t hi ht, tab_at k C _ t j ht hj, Nat.zero_add]
  have e2 : (sumN (K - k) fun t => (tab R (K - k) fun i j => xs.getD (i * K + (k + j)) 0).getD (i * (K - k) + t) 0 * (tab (K - k) C fun i j => ys.getD ((k + i) * C + j) 0).getD (t * C + j) 0) = sumN (K - k) fun t => xs.getD (i * K + (k + t)) 0 * ys.getD ((k + t) * C + j) 0 :=
    sumN_congr fun t ht => by rw [tab_at R (K - k) _ i t hi ht, tab_at (K - k) C _ t j ht hj]
  rw [e1, e2, wrap32_add2, ← sumN_split k (K - k) (fun t => xs.getD (i * K + t) 0 * ys.getD (t * C + j) 0), show k + (K - k) = K by omega]

end Go.Proofs.Ytocjcfblpifdhaa
