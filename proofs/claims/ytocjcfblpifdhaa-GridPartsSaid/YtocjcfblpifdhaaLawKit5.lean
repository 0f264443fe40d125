/-
  The place at which GridParts cuts.
-/
import Derived.Test.YtocjcfblpifdhaaLawKit4
namespace Go.Proofs.Ytocjcfblpifdhaa
open Go.RowKit
set_option linter.unusedVariables false

theorem cut_fix (at_ : Int) (n r : Nat) (hn : n ≤ 4096) (he : (at_.tmod ((n : Int) + 1) + (n : Int) + 1).tmod ((n : Int) + 1) = r) (hr : r ≤ n) (b : Nat) (x : Int) (hx : x = n) (w : World) (hc : w.cell? ⟨b, 0, none⟩ = some (.int .i64 at_)) :
    Calls Try.prog 36 #[.int .i64 x, .pointer (some ⟨b, 0, none⟩)] w fun e w' => e = .returned (.int .i64 r) ∧ w = w' := by
  subst hx
  have n0 : (0 : Int) ≤ n := by omega
  have n1 : (n : Int) ≤ 4096 := by omega
  have n2 : ¬ (n : Int) + 1 = 0 := by omega
  have t0 := Int.lt_tmod_of_pos at_ (show (0 : Int) < (n : Int) + 1 by omega)
  have t1 := Int.tmod_lt_of_pos at_ (show (0 : Int) < (n : Int) + 1 by omega)
  have mm1 : IntKind.i64.wrap ((n : Int) + 1) = (n : Int) + 1 := IntWalk.i64_in _ (by omega)
  have mm2 : IntKind.i64.wrap (at_.tmod ((n : Int) + 1)) = at_.tmod ((n : Int) + 1) := IntWalk.i64_in _ (by omega)
  have mm3 : IntKind.i64.wrap (at_.tmod ((n : Int) + 1) + n) = at_.tmod ((n : Int) + 1) + n := IntWalk.i64_in _ (by omega)
  have mm4 : IntKind.i64.wrap (at_.tmod ((n : Int) + 1) + n + 1) = at_.tmod ((n : Int) + 1) + n + 1 := IntWalk.i64_in _ (by omega)
  have mm5 : IntKind.i64.wrap (r : Int) = r := IntWalk.i64_in _ (by omega)
  clear t0 t1
  go_enter Try.func36, Try.ntmps36
  go_wp2
  go_ret
  exact ⟨rfl, rfl⟩

/-- one cell that lies in a block of its own -/
structure Cell1 (w : World) (b : Nat) (v : Value) : Prop where
  lt : b < w.heap.size
  at_ : w.cell? ⟨b, 0, none⟩ = some v
theorem Cell1.below {w w' : World} {b : Nat} {v : Value} (h : Cell1 w b v) (hb : Below w.heap.size w w') : Cell1 w' b v := ⟨Nat.lt_of_lt_of_le h.lt hb.size, by rw [(bcell hb).1 _ _ h.lt]; exact h.at_⟩
theorem Cell1.alloc {w : World} {b : Nat} {v : Value} (h : Cell1 w b v) (o : Obj) : Cell1 (w.alloc o) b v := h.below ((Below.refl _ _).alloc (Nat.le_refl _) o)
theorem cell1_new {w : World} {b : Nat} (hb : b = w.heap.size) (v : Value) (T : TypeId) : Cell1 (w.alloc (.cells #[v] T)) b v := by
  subst hb; exact ⟨by simp, by simp only [World.cell?_alloc_new]; rfl⟩

/-- a product of some rows is some rows of the product -/
theorem prod_row (xs ys a : List Int) (m b K C i j : Nat) (ha : a = tab m K fun i j => xs.getD ((b + i) * K + j) 0) (hi : i < m) : prod a ys K C i j = prod xs ys K C (b + i) j := by
  rw [prod_sum, prod_sum]
  congr 1
  exact sumN_congr fun t ht => by rw [ha, tab_at m K _ i t hi ht]
theorem rows_prod (xs ys : List Int) (R K C r : Nat) (hr : r ≤ R) (a0 a1 p0 p1 : List Int)
    (ha0 : a0 = tab (r - 0) K fun i j => xs.getD ((0 + i) * K + j) 0) (ha1 : a1 = tab (R - r) K fun i j => xs.getD ((r + i) * K + j) 0)
    (hp0 : p0 = tab (r - 0) C fun i j => prod a0 ys K C i j) (hp1 : p1 = tab (R - r) C fun i j => prod a1 ys K C i j) :
    p0 ++ p1 = tab R C fun i j => prod xs ys K C i j := by
  have h := rows_whole (tab R C fun i j => prod xs ys K C i j) R C r (tab_length _ _ _) hr
  have e0 : p0 = tab (r - 0) C fun i j => (tab R C fun i j => prod xs ys K C i j).getD ((0 + i) * C + j) 0 := by
    rw [hp0]
    exact tab_congr _ _ _ _ fun i j hi hj => by rw [prod_row xs ys a0 _ 0 K C i j ha0 hi, tab_at R C _ (0 + i) j (by omega) hj]
  have e1 : p1 = tab (R - r) C fun i j => (tab R C fun i j => prod xs ys K C i j).getD ((r + i) * C + j) 0 := by
    rw [hp1]
    exact tab_congr _ _ _ _ fun i j hi hj => by rw [prod_row xs ys a1 _ r K C i j ha1 hi, tab_at R C _ (r + i) j (by omega) hj]
  rw [← e0, ← e1] at h
  exact h
/-- a product with some columns is some columns of the product -/
theorem prod_col (xs ys b : List Int) (m o K C i j : Nat) (hb : b = tab K m fun i j => ys.getD (i * C + (o + j)) 0) (hj : j < m) : prod xs b K m i j = prod xs ys K C i (o + j) := by
  rw [prod_sum, prod_sum]
  congr 1
  exact sumN_congr fun t ht => by rw [hb, tab_at K m _ t j ht hj]
theorem cols_prod (xs ys : List Int) (R K C c : Nat) (hc : c ≤ C) (b0 b1 q0 q1 : List Int)
    (hb0 : b0 = tab K (c - 0) fun i j => ys.getD (i * C + (0 + j)) 0) (hb1 : b1 = tab K (C - c) fun i j => ys.getD (i * C + (c + j)) 0)
    (hq0 : q0 = tab R (c - 0) fun i j => prod xs b0 K (c - 0) i j) (hq1 : q1 = tab R (C - c) fun i j => prod xs b1 K (C - c) i j) :
    (tab R C fun i j => if j < c - 0 then q0.getD (i * (c - 0) + j) 0 else q1.getD (i * (C - c) + (j - (c - 0))) 0) = tab R C fun i j => prod xs ys K C i j := by
  refine tab_congr _ _ _ _ fun i j hi hj => ?_
  by_cases hjc : j < c - 0
  · rw [if_pos hjc, hq0, tab_at R (c - 0) _ i j hi hjc, prod_col xs ys b0 (c - 0) 0 K C i j hb0 hjc, Nat.zero_add]
  · rw [if_neg hjc, hq1, tab_at R (C - c) _ i (j - (c - 0)) hi (by omega), prod_col xs ys b1 (C - c) c K C i (j - (c - 0)) hb1 (by omega), show c + (j - (c - 0)) = j by omega]
theorem mid_prod (xs ys : List Int) (R K C k : Nat) (hk : k ≤ K) (l0 l1 m0 m1 s0 s1 : List Int)
    (hl0 : l0 = tab R (k - 0) fun i j => xs.getD (i * K + (0 + j)) 0) (hl1 : l1 = tab R (K - k) fun i j => xs.getD (i * K + (k + j)) 0)
    (hm0 : m0 = tab (k - 0) C fun i j => ys.getD ((0 + i) * C + j) 0) (hm1 : m1 = tab (K - k) C fun i j => ys.getD ((k + i) * C + j) 0)
    (hs0 : s0 = tab R C fun i j => prod l0 m0 (k - 0) C i j) (hs1 : s1 = tab R C fun i j => prod l1 m1 (K - k) C i j) :
    (tab R C fun i j => wrap32 (s0.getD (i * C + j) 0 + s1.getD (i * C + j) 0)) = tab R C fun i j => prod xs ys K C i j := by
  rw [Nat.sub_zero] at hl0 hm0 hs0
  refine tab_congr _ _ _ _ fun i j hi hj => ?_
  rw [hs0, hs1, tab_at R C _ i j hi hj, tab_at R C _ i j hi hj, hl0, hl1, hm0, hm1]
  exact prod_parts xs ys R K C k i j hk hi hj

end Go.Proofs.Ytocjcfblpifdhaa
