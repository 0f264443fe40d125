/-
  Plain mathematics of softmax weights: they keep the numbers' order, and together they come to the whole, less by fewer than how many they are; they depend on differences alone.
-/
import Derived.Test.YthblniakghfchaaDoorSoft
import Derived.Test.YthblniakghfchaaDoorWhole
import Derived.Test.YthblniakghfchaaDoorFalls
namespace Go.Proofs.YthblniakghfchaaDoor
open Go.RowKit
set_option linter.unusedVariables false

theorem softmax_any (b s m : Int) (a : Option Addr) (n cap : Nat) (xs : List Int) (w : World) (h : Elems .i32 w a n xs) (hn : n ≤ 1000) (b1 : -2147483648 ≤ b) (b2 : b ≤ 2147483647) (hm : 0 < n → IsTop xs m) (hT : Tab w) :
    Calls Tryd.prog 15 #[.int .i32 b, .int .i64 s, .slice a n cap] w fun e w' => (∃ b' c, e = .returned (.slice b' n c) ∧ Elems .i32 w' b' n (soft b s m xs)) ∧ Below w.heap.size w w' := by
  by_cases h0 : n = 0
  · subst h0
    obtain rfl : xs = [] := List.length_eq_zero_iff.1 h.1
    exact (softmax_none b s a cap w).mono (by rintro e w' ⟨rfl, rfl⟩; exact ⟨⟨none, 0, rfl, Elems.nil_ _ _ _⟩, Below.refl _ _⟩)
  · exact (softmax_some b s m a n cap xs w h (by omega) hn b1 b2 (hm (by omega)) hT).mono (by rintro e w' ⟨⟨g, rfl, hE⟩, hb⟩; exact ⟨⟨_, _, rfl, hE⟩, hb⟩)

theorem pos_mono {x y : Int} (h : x ≤ y) : pos x ≤ pos y := by unfold pos; split <;> split <;> omega
theorem share_mono {t S x y : Int} (hS : 0 ≤ S) (h : x ≤ y) : share t S x ≤ share t S y := by
  unfold share
  split
  · exact Int.le_refl _
  · rename_i hn
    exact Int.ediv_le_ediv (by omega) (Int.mul_le_mul_of_nonneg_right (pos_mono h) (by omega))
theorem dif_mono {b n m x y : Int} (hb : 0 ≤ b) (h : x ≤ y) : dif b n m x ≤ dif b n m y := shr_mono _ _ _ (Int.mul_le_mul_of_nonneg_right (by omega) hb)

theorem soft_at (b s m : Int) (xs : List Int) {i : Nat} (hi : i < xs.length) : (soft b s m xs).getD i 0 = share 65536 (tot (pows b s m xs)) (E (dif b s m (xs.getD i 0))) := by
  simp [soft, pows, List.getD, List.getElem?_map, List.getElem?_eq_getElem hi]
theorem soft_length (b s m : Int) (xs : List Int) : (soft b s m xs).length = xs.length := by simp [soft, pows]
theorem soft_mono {b s m : Int} {xs : List Int} (hb : 0 ≤ b) {i k : Nat} (hi : i < xs.length) (hk : k < xs.length) (h : xs.getD k 0 ≤ xs.getD i 0) : (soft b s m xs).getD k 0 ≤ (soft b s m xs).getD i 0 := by
  rw [soft_at _ _ _ _ hi, soft_at _ _ _ _ hk]
  exact share_mono (tot_bd _ (pows_le b s m xs)).1 (E_mono _ _ (dif_mono hb h))
theorem soft_bd (b s m : Int) (xs : List Int) : ∀ p ∈ soft b s m xs, 0 ≤ p ∧ p ≤ 2147483647 := by
  intro p hp
  obtain ⟨x, hx, rfl⟩ := List.mem_map.1 hp
  exact share_bd2 (pows_le b s m xs) hx (by decide)
theorem cnt_pos {xs : List Int} {x : Int} (hx : x ∈ xs) (h : 0 < x) : 0 < cnt xs := by
  induction xs with
  | nil => cases hx
  | cons y ys ih =>
    have hb := cnt_bd ys
    rw [cnt_cons]
    rcases List.mem_cons.1 hx with rfl | hm
    · rw [if_pos h]; omega
    · have := ih hm; split <;> omega
theorem dif_top (b s m : Int) : dif b s m m = 0 := by
  unfold dif
  rw [Int.sub_self, Int.zero_mul]
  have h := shr_any 0 s 0 (by decide) (by decide) (by decide)
  omega
theorem soft_sum {b s m : Int} {xs : List Int} (hm : IsTop xs m) : (soft b s m xs).sum ≤ 65536 ∧ 65536 - (xs.length : Int) < (soft b s m xs).sum := by
  have hc : 0 < cnt (pows b s m xs) := cnt_pos (x := E (dif b s m m)) (List.mem_map.2 ⟨m, hm.1, rfl⟩) (by rw [dif_top]; decide +kernel)
  have h := whole (t := 65536) (pows_le b s m xs) (by decide) hc
  have h2 := cnt_bd (pows b s m xs)
  have h3 : (pows b s m xs).length = xs.length := by simp [pows]
  rw [h3] at h2
  have e : ssum 65536 (tot (pows b s m xs)) (pows b s m xs) = (soft b s m xs).sum := rfl
  rw [e] at h
  omega

/-- all numbers raised by one and the same -/
theorem soft_up (b s m up : Int) (xs : List Int) : soft b s (m + up) (xs.map (· + up)) = soft b s m xs := by
  have e : pows b s (m + up) (xs.map (· + up)) = pows b s m xs := by
    unfold pows
    rw [List.map_map]
    apply List.map_congr_left
    intro x _
    show E (dif b s (m + up) (x + up)) = _
    unfold dif
    rw [show x + up - (m + up) = x - m by omega]
  unfold soft
  rw [e]
theorem top_up {xs : List Int} {m : Int} (h : IsTop xs m) (up : Int) : IsTop (xs.map (· + up)) (m + up) := by
  refine ⟨List.mem_map.2 ⟨m, h.1, rfl⟩, fun y hy => ?_⟩
  obtain ⟨x, hx, rfl⟩ := List.mem_map.1 hy
  have := h.2 x hx
  show x + up ≤ m + up
  omega
theorem sum_le_len (xs : List Int) (h : ∀ x ∈ xs, 0 ≤ x ∧ x ≤ 2147483647) (k : Nat) : 0 ≤ (xs.take k).sum ∧ (xs.take k).sum ≤ k * 2147483647 := by
  induction xs generalizing k with
  | nil => simp; omega
  | cons x xs ih =>
    cases k with
    | zero => simp
    | succ k =>
      have h1 := ih (fun y hy => h y (List.mem_cons_of_mem _ hy)) k
      have h2 := h x List.mem_cons_self
      rw [List.take_succ_cons, List.sum_cons]; push_cast; omega

end Go.Proofs.YthblniakghfchaaDoor
