/-
  Shapes: which are right (the document's Right and the code's), the code's Count, the document's rest.
-/
import Derived.Test.YtgbbfmpofmeadaaRw
namespace Go.Proofs.Ytgbbfmpofmeadaa
open Go.RowKit
set_option linter.unusedVariables false

/-- six numbers as a shape -/
abbrev shv (l w h i v p : Int) : Value := .agg #[.int .i64 l, .int .i64 w, .int .i64 h, .int .i64 i, .int .i64 v, .int .i64 p]
/-- a shape is right -/
def OkI (l w h i v p : Int) : Prop := 1 ≤ l ∧ l ≤ 16 ∧ 1 ≤ h ∧ h ≤ 16 ∧ 2 ≤ w ∧ w ≤ 128 ∧ w % (2 * h) = 0 ∧ 1 ≤ i ∧ i ≤ 256 ∧ 1 ≤ v ∧ v ≤ 512 ∧ 1 ≤ p ∧ p ≤ 256

/-- a right shape's numbers -/
structure Sz where
  l : Nat
  w : Nat
  h : Nat
  i : Nat
  v : Nat
  p : Nat
deriving DecidableEq
abbrev Sz.val (s : Sz) : Value := shv s.l s.w s.h s.i s.v s.p
def Sz.Ok (s : Sz) : Prop := OkI s.l s.w s.h s.i s.v s.p
theorem Sz.of {l w h i v p : Int} (ok : OkI l w h i v p) : ∃ s : Sz, s.Ok ∧ l = s.l ∧ w = s.w ∧ h = s.h ∧ i = s.i ∧ v = s.v ∧ p = s.p := by
  have ok2 := ok
  obtain ⟨l0, l1, h0, h1, w0, w1, hm, i0, i1, v0, v1, p0, p1⟩ := ok
  obtain ⟨l, rfl⟩ : ∃ x : Nat, l = x := ⟨l.toNat, by omega⟩
  obtain ⟨w, rfl⟩ : ∃ x : Nat, w = x := ⟨w.toNat, by omega⟩
  obtain ⟨h, rfl⟩ : ∃ x : Nat, h = x := ⟨h.toNat, by omega⟩
  obtain ⟨i, rfl⟩ : ∃ x : Nat, i = x := ⟨i.toNat, by omega⟩
  obtain ⟨v, rfl⟩ : ∃ x : Nat, v = x := ⟨v.toNat, by omega⟩
  obtain ⟨p, rfl⟩ : ∃ x : Nat, p = x := ⟨p.toNat, by omega⟩
  exact ⟨⟨l, w, h, i, v, p⟩, ok2, rfl, rfl, rfl, rfl, rfl, rfl⟩
theorem Sz.Ok.bd {s : Sz} (ok : s.Ok) : (1 ≤ s.l ∧ s.l ≤ 16) ∧ (1 ≤ s.h ∧ s.h ≤ 16) ∧ (2 ≤ s.w ∧ s.w ≤ 128) ∧ (1 ≤ s.i ∧ s.i ≤ 256) ∧ (1 ≤ s.v ∧ s.v ≤ 512) ∧ (1 ≤ s.p ∧ s.p ≤ 256) := by
  obtain ⟨l0, l1, h0, h1, w0, w1, hm, i0, i1, v0, v1, p0, p1⟩ := ok
  omega

/-- how many numbers -/
def cnt (s : Sz) : Nat := 2 * (s.v * s.w) + s.w + s.l * (2 * s.w + 4 * (s.w * s.w) + 2 * (s.i * s.w))
theorem mul_bd {a b A B : Nat} (h1 : a ≤ A) (h2 : b ≤ B) : a * b ≤ A * B := Nat.mul_le_mul h1 h2
theorem cnt_le {s : Sz} (ok : s.Ok) : cnt s ≤ 2232448 := by
  obtain ⟨hl, hh, hw, hi, hv, hp⟩ := ok.bd
  unfold cnt
  have a1 := mul_bd hv.2 hw.2
  have a2 := mul_bd hw.2 hw.2
  have a3 := mul_bd hi.2 hw.2
  have a4 := mul_bd hl.2 (show 2 * s.w + 4 * (s.w * s.w) + 2 * (s.i * s.w) ≤ 131328 by omega)
  omega

theorem first_no (l w h i v p : Int) (no : ¬ OkI l w h i v p) : (l < 1) ∨ (1 ≤ l ∧ 16 < l) ∨ (1 ≤ l ∧ l ≤ 16 ∧ h < 1) ∨ (1 ≤ l ∧ l ≤ 16 ∧ 1 ≤ h ∧ 16 < h) ∨ (1 ≤ l ∧ l ≤ 16 ∧ 1 ≤ h ∧ h ≤ 16 ∧ w < 2) ∨ (1 ≤ l ∧ l ≤ 16 ∧ 1 ≤ h ∧ h ≤ 16 ∧ 2 ≤ w ∧ 128 < w) ∨ (1 ≤ l ∧ l ≤ 16 ∧ 1 ≤ h ∧ h ≤ 16 ∧ 2 ≤ w ∧ w ≤ 128 ∧ w % (2 * h) ≠ 0) ∨ (1 ≤ l ∧ l ≤ 16 ∧ 1 ≤ h ∧ h ≤ 16 ∧ 2 ≤ w ∧ w ≤ 128 ∧ w % (2 * h) = 0 ∧ i < 1) ∨ (1 ≤ l ∧ l ≤ 16 ∧ 1 ≤ h ∧ h ≤ 16 ∧ 2 ≤ w ∧ w ≤ 128 ∧ w % (2 * h) = 0 ∧ 1 ≤ i ∧ 256 < i) ∨ (1 ≤ l ∧ l ≤ 16 ∧ 1 ≤ h ∧ h ≤ 16 ∧ 2 ≤ w ∧ w ≤ 128 ∧ w % (2 * h) = 0 ∧ 1 ≤ i ∧ i ≤ 256 ∧ v < 1) ∨ (1 ≤ l ∧ l ≤ 16 ∧ 1 ≤ h ∧ h ≤ 16 ∧ 2 ≤ w ∧ w ≤ 128 ∧ w % (2 * h) = 0 ∧ 1 ≤ i ∧ i ≤ 256 ∧ 1 ≤ v ∧ 512 < v) ∨ (1 ≤ l ∧ l ≤ 16 ∧ 1 ≤ h ∧ h ≤ 16 ∧ 2 ≤ w ∧ w ≤ 128 ∧ w % (2 * h) = 0 ∧ 1 ≤ i ∧ i ≤ 256 ∧ 1 ≤ v ∧ v ≤ 512 ∧ p < 1) ∨ (1 ≤ l ∧ l ≤ 16 ∧ 1 ≤ h ∧ h ≤ 16 ∧ 2 ≤ w ∧ w ≤ 128 ∧ w % (2 * h) = 0 ∧ 1 ≤ i ∧ i ≤ 256 ∧ 1 ≤ v ∧ v ≤ 512 ∧ 1 ≤ p ∧ 256 < p) := by
  by_cases c0 : l < 1
  · exact Or.inl c0
  refine Or.inr ?_
  by_cases c1 : 16 < l
  · exact Or.inl ⟨by omega, c1⟩
  refine Or.inr ?_
  by_cases c2 : h < 1
  · exact Or.inl ⟨by omega, by omega, c2⟩
  refine Or.inr ?_
  by_cases c3 : 16 < h
  · exact Or.inl ⟨by omega, by omega, by omega, c3⟩
  refine Or.inr ?_
  by_cases c4 : w < 2
  · exact Or.inl ⟨by omega, by omega, by omega, by omega, c4⟩
  refine Or.inr ?_
  by_cases c5 : 128 < w
  · exact Or.inl ⟨by omega, by omega, by omega, by omega, by omega, c5⟩
  refine Or.inr ?_
  by_cases c6 : w % (2 * h) ≠ 0
  · exact Or.inl ⟨by omega, by omega, by omega, by omega, by omega, by omega, c6⟩
  refine Or.inr ?_
  by_cases c7 : i < 1
  · exact Or.inl ⟨by omega, by omega, by omega, by omega, by omega, by omega, by omega, c7⟩
  refine Or.inr ?_
  by_cases c8 : 256 < i
  · exact Or.inl ⟨by omega, by omega, by omega, by omega, by omega, by omega, by omega, by omega, c8⟩
  refine Or.inr ?_
  by_cases c9 : v < 1
  · exact Or.inl ⟨by omega, by omega, by omega, by omega, by omega, by omega, by omega, by omega, by omega, c9⟩
  refine Or.inr ?_
  by_cases c10 : 512 < v
  · exact Or.inl ⟨by omega, by omega, by omega, by omega, by omega, by omega, by omega, by omega, by omega, by omega, c10⟩
  refine Or.inr ?_
  by_cases c11 : p < 1
  · exact Or.inl ⟨by omega, by omega, by omega, by omega, by omega, by omega, by omega, by omega, by omega, by omega, by omega, c11⟩
  refine Or.inr ?_
  have c12 : 256 < p := by
    apply Classical.byContradiction
    intro c
    exact no ⟨by omega, by omega, by omega, by omega, by omega, by omega, by omega, by omega, by omega, by omega, by omega, by omega, by omega⟩
  exact ⟨by omega, by omega, by omega, by omega, by omega, by omega, by omega, by omega, by omega, by omega, by omega, by omega, c12⟩

theorem within_yes (a n b : Int) (w : World) (h1 : a ≤ n) (h2 : n ≤ b) : Calls Try.prog 24 #[.int .i64 a, .int .i64 n, .int .i64 b] w fun e w' => e = .returned (.bool true) ∧ w = w' := by
  go_enter Try.func24, Try.ntmps24
  go_wp2
  go_ret
  exact ⟨rfl, rfl⟩
theorem within_no (a n b : Int) (w : World) (h : n < a ∨ b < n) : Calls Try.prog 24 #[.int .i64 a, .int .i64 n, .int .i64 b] w fun e w' => e = .returned (.bool false) ∧ w = w' := by
  by_cases h1 : n < a
  · have h2 : ¬ a ≤ n := by omega
    clear h
    go_enter Try.func24, Try.ntmps24
    go_wp2
    go_ret
    exact ⟨rfl, rfl⟩
  · have h2 : a ≤ n := by omega
    have h3 : ¬ n ≤ b := by omega
    clear h
    go_enter Try.func24, Try.ntmps24
    go_wp2
    go_ret
    exact ⟨rfl, rfl⟩

set_option maxHeartbeats 1600000 in
theorem dright_yes (l w h i v p : Int) (W : World) (ok : OkI l w h i v p) :
    Calls Try.prog 22 #[shv l w h i v p] W fun e w' => e = .returned (.bool true) ∧ Below W.heap.size W w' := by
  obtain ⟨l0, l1, h0, h1, w0, w1, hm, i0, i1, v0, v1, p0, p1⟩ := ok
  have e0 : (w % (2 * h) == 0) = true := by simp; omega
  have e1 : (w % (2 * h) != 0) = false := by simp; omega
  clear hm
  unfold shv
  go_enter Try.func22, Try.ntmps22
  go_wp2
  go_ret
  exact ⟨rfl, (Below.refl _ _).alloc (Nat.le_refl _) _⟩

set_option maxHeartbeats 1600000 in
theorem dright_no (l w h i v p : Int) (W : World) (b : (-9223372036854775808 ≤ l ∧ l ≤ 9223372036854775807) ∧ (-9223372036854775808 ≤ w ∧ w ≤ 9223372036854775807) ∧ (-9223372036854775808 ≤ h ∧ h ≤ 9223372036854775807)) (hno : ¬ OkI l w h i v p) :
    Calls Try.prog 22 #[shv l w h i v p] W fun e w' => e = .returned (.bool false) ∧ Below W.heap.size W w' := by
  replace hno := first_no l w h i v p hno
  obtain ⟨⟨bl0, bl1⟩, ⟨bw0, bw1⟩, bh0, bh1⟩ := b
  unfold shv
  rcases hno with hno | hno | hno | hno | hno | hno | hno | hno | hno | hno | hno | hno | hno
  · have h0 := hno
    clear hno
    go_enter Try.func22, Try.ntmps22
    go_wp2
    go_ret
    first | exact ⟨rfl, (Below.refl _ _).alloc (Nat.le_refl _) _⟩ | exact ⟨ret_bool (decide_eq_false (by omega)), (Below.refl _ _).alloc (Nat.le_refl _) _⟩
  · obtain ⟨h0, h1⟩ := hno
    go_enter Try.func22, Try.ntmps22
    go_wp2
    go_ret
    first | exact ⟨rfl, (Below.refl _ _).alloc (Nat.le_refl _) _⟩ | exact ⟨ret_bool (decide_eq_false (by omega)), (Below.refl _ _).alloc (Nat.le_refl _) _⟩
  · obtain ⟨h0, h1, h2⟩ := hno
    go_enter Try.func22, Try.ntmps22
    go_wp2
    go_ret
    first | exact ⟨rfl, (Below.refl _ _).alloc (Nat.le_refl _) _⟩ | exact ⟨ret_bool (decide_eq_false (by omega)), (Below.refl _ _).alloc (Nat.le_refl _) _⟩
  · obtain ⟨h0, h1, h2, h3⟩ := hno
    go_enter Try.func22, Try.ntmps22
    go_wp2
    go_ret
    first | exact ⟨rfl, (Below.refl _ _).alloc (Nat.le_refl _) _⟩ | exact ⟨ret_bool (decide_eq_false (by omega)), (Below.refl _ _).alloc (Nat.le_refl _) _⟩
  · obtain ⟨h0, h1, h2, h3, h4⟩ := hno
    go_enter Try.func22, Try.ntmps22
    go_wp2
    go_ret
    first | exact ⟨rfl, (Below.refl _ _).alloc (Nat.le_refl _) _⟩ | exact ⟨ret_bool (decide_eq_false (by omega)), (Below.refl _ _).alloc (Nat.le_refl _) _⟩
  · obtain ⟨h0, h1, h2, h3, h4, h5⟩ := hno
    go_enter Try.func22, Try.ntmps22
    go_wp2
    go_ret
    first | exact ⟨rfl, (Below.refl _ _).alloc (Nat.le_refl _) _⟩ | exact ⟨ret_bool (decide_eq_false (by omega)), (Below.refl _ _).alloc (Nat.le_refl _) _⟩
  · obtain ⟨h0, h1, h2, h3, h4, h5, h6⟩ := hno
    have e0 : (w % (2 * h) == 0) = false := by simp; omega
    have e1 : (w % (2 * h) != 0) = true := by simp; omega
    clear h6
    go_enter Try.func22, Try.ntmps22
    go_wp2
    go_ret
    first | exact ⟨rfl, (Below.refl _ _).alloc (Nat.le_refl _) _⟩ | exact ⟨ret_bool (decide_eq_false (by omega)), (Below.refl _ _).alloc (Nat.le_refl _) _⟩
  · obtain ⟨h0, h1, h2, h3, h4, h5, h6, h7⟩ := hno
    have e0 : (w % (2 * h) == 0) = true := by simp; omega
    have e1 : (w % (2 * h) != 0) = false := by simp; omega
    clear h6
    go_enter Try.func22, Try.ntmps22
    go_wp2
    go_ret
    first | exact ⟨rfl, (Below.refl _ _).alloc (Nat.le_refl _) _⟩ | exact ⟨ret_bool (decide_eq_false (by omega)), (Below.refl _ _).alloc (Nat.le_refl _) _⟩
  · obtain ⟨h0, h1, h2, h3, h4, h5, h6, h7, h8⟩ := hno
    have e0 : (w % (2 * h) == 0) = true := by simp; omega
    have e1 : (w % (2 * h) != 0) = false := by simp; omega
    clear h6
    go_enter Try.func22, Try.ntmps22
    go_wp2
    go_ret
    first | exact ⟨rfl, (Below.refl _ _).alloc (Nat.le_refl _) _⟩ | exact ⟨ret_bool (decide_eq_false (by omega)), (Below.refl _ _).alloc (Nat.le_refl _) _⟩
  · obtain ⟨h0, h1, h2, h3, h4, h5, h6, h7, h8, h9⟩ := hno
    have e0 : (w % (2 * h) == 0) = true := by simp; omega
    have e1 : (w % (2 * h) != 0) = false := by simp; omega
    clear h6
    go_enter Try.func22, Try.ntmps22
    go_wp2
    go_ret
    first | exact ⟨rfl, (Below.refl _ _).alloc (Nat.le_refl _) _⟩ | exact ⟨ret_bool (decide_eq_false (by omega)), (Below.refl _ _).alloc (Nat.le_refl _) _⟩
  · obtain ⟨h0, h1, h2, h3, h4, h5, h6, h7, h8, h9, h10⟩ := hno
    have e0 : (w % (2 * h) == 0) = true := by simp; omega
    have e1 : (w % (2 * h) != 0) = false := by simp; omega
    clear h6
    go_enter Try.func22, Try.ntmps22
    go_wp2
    go_ret
    first | exact ⟨rfl, (Below.refl _ _).alloc (Nat.le_refl _) _⟩ | exact ⟨ret_bool (decide_eq_false (by omega)), (Below.refl _ _).alloc (Nat.le_refl _) _⟩
  · obtain ⟨h0, h1, h2, h3, h4, h5, h6, h7, h8, h9, h10, h11⟩ := hno
    have e0 : (w % (2 * h) == 0) = true := by simp; omega
    have e1 : (w % (2 * h) != 0) = false := by simp; omega
    clear h6
    go_enter Try.func22, Try.ntmps22
    go_wp2
    go_ret
    first | exact ⟨rfl, (Below.refl _ _).alloc (Nat.le_refl _) _⟩ | exact ⟨ret_bool (decide_eq_false (by omega)), (Below.refl _ _).alloc (Nat.le_refl _) _⟩
  · obtain ⟨h0, h1, h2, h3, h4, h5, h6, h7, h8, h9, h10, h11, h12⟩ := hno
    have e0 : (w % (2 * h) == 0) = true := by simp; omega
    have e1 : (w % (2 * h) != 0) = false := by simp; omega
    clear h6
    go_enter Try.func22, Try.ntmps22
    go_wp2
    go_ret
    first | exact ⟨rfl, (Below.refl _ _).alloc (Nat.le_refl _) _⟩ | exact ⟨ret_bool (decide_eq_false (by omega)), (Below.refl _ _).alloc (Nat.le_refl _) _⟩

set_option maxHeartbeats 1600000 in
theorem right_yes (l w h i v p : Int) (W : World) (ok : OkI l w h i v p) :
    Calls Try.prog 15 #[shv l w h i v p] W fun e w' => e = .returned (.bool true) ∧ Below W.heap.size W w' := by
  obtain ⟨l0, l1, h0, h1, w0, w1, hm, i0, i1, v0, v1, p0, p1⟩ := ok
  have e0 : (w % (2 * h) == 0) = true := by simp; omega
  have e1 : (w % (2 * h) != 0) = false := by simp; omega
  clear hm
  unfold shv
  go_enter Try.func15, Try.ntmps15
  go_wp2_with (go_at_call 24; (first | (with_reducible refine (within_yes _ _ _ _ (by omega) (by omega)).mono ?_) | (with_reducible refine (within_no _ _ _ _ (by omega)).mono ?_)); rintro e w' ⟨rfl, rfl⟩)
  go_ret
  exact ⟨rfl, (Below.refl _ _).alloc (Nat.le_refl _) _⟩

set_option maxHeartbeats 1600000 in
theorem right_no (l w h i v p : Int) (W : World) (b : (-9223372036854775808 ≤ l ∧ l ≤ 9223372036854775807) ∧ (-9223372036854775808 ≤ w ∧ w ≤ 9223372036854775807) ∧ (-9223372036854775808 ≤ h ∧ h ≤ 9223372036854775807)) (hno : ¬ OkI l w h i v p) :
    Calls Try.prog 15 #[shv l w h i v p] W fun e w' => e = .returned (.bool false) ∧ Below W.heap.size W w' := by
  replace hno := first_no l w h i v p hno
  obtain ⟨⟨bl0, bl1⟩, ⟨bw0, bw1⟩, bh0, bh1⟩ := b
  unfold shv
  rcases hno with hno | hno | hno | hno | hno | hno | hno | hno | hno | hno | hno | hno | hno
  · have h0 := hno
    clear hno
    go_enter Try.func15, Try.ntmps15
    go_wp2_with (go_at_call 24; (first | (with_reducible refine (within_yes _ _ _ _ (by omega) (by omega)).mono ?_) | (with_reducible refine (within_no _ _ _ _ (by omega)).mono ?_)); rintro e w' ⟨rfl, rfl⟩)
    go_ret
    first | exact ⟨rfl, (Below.refl _ _).alloc (Nat.le_refl _) _⟩ | exact ⟨ret_bool (decide_eq_false (by omega)), (Below.refl _ _).alloc (Nat.le_refl _) _⟩
  · obtain ⟨h0, h1⟩ := hno
    go_enter Try.func15, Try.ntmps15
    go_wp2_with (go_at_call 24; (first | (with_reducible refine (within_yes _ _ _ _ (by omega) (by omega)).mono ?_) | (with_reducible refine (within_no _ _ _ _ (by omega)).mono ?_)); rintro e w' ⟨rfl, rfl⟩)
    go_ret
    first | exact ⟨rfl, (Below.refl _ _).alloc (Nat.le_refl _) _⟩ | exact ⟨ret_bool (decide_eq_false (by omega)), (Below.refl _ _).alloc (Nat.le_refl _) _⟩
  · obtain ⟨h0, h1, h2⟩ := hno
    go_enter Try.func15, Try.ntmps15
    go_wp2_with (go_at_call 24; (first | (with_reducible refine (within_yes _ _ _ _ (by omega) (by omega)).mono ?_) | (with_reducible refine (within_no _ _ _ _ (by omega)).mono ?_)); rintro e w' ⟨rfl, rfl⟩)
    go_ret
    first | exact ⟨rfl, (Below.refl _ _).alloc (Nat.le_refl _) _⟩ | exact ⟨ret_bool (decide_eq_false (by omega)), (Below.refl _ _).alloc (Nat.le_refl _) _⟩
  · obtain ⟨h0, h1, h2, h3⟩ := hno
    go_enter Try.func15, Try.ntmps15
    go_wp2_with (go_at_call 24; (first | (with_reducible refine (within_yes _ _ _ _ (by omega) (by omega)).mono ?_) | (with_reducible refine (within_no _ _ _ _ (by omega)).mono ?_)); rintro e w' ⟨rfl, rfl⟩)
    go_ret
    first | exact ⟨rfl, (Below.refl _ _).alloc (Nat.le_refl _) _⟩ | exact ⟨ret_bool (decide_eq_false (by omega)), (Below.refl _ _).alloc (Nat.le_refl _) _⟩
  · obtain ⟨h0, h1, h2, h3, h4⟩ := hno
    go_enter Try.func15, Try.ntmps15
    go_wp2_with (go_at_call 24; (first | (with_reducible refine (within_yes _ _ _ _ (by omega) (by omega)).mono ?_) | (with_reducible refine (within_no _ _ _ _ (by omega)).mono ?_)); rintro e w' ⟨rfl, rfl⟩)
    go_ret
    first | exact ⟨rfl, (Below.refl _ _).alloc (Nat.le_refl _) _⟩ | exact ⟨ret_bool (decide_eq_false (by omega)), (Below.refl _ _).alloc (Nat.le_refl _) _⟩
  · obtain ⟨h0, h1, h2, h3, h4, h5⟩ := hno
    go_enter Try.func15, Try.ntmps15
    go_wp2_with (go_at_call 24; (first | (with_reducible refine (within_yes _ _ _ _ (by omega) (by omega)).mono ?_) | (with_reducible refine (within_no _ _ _ _ (by omega)).mono ?_)); rintro e w' ⟨rfl, rfl⟩)
    go_ret
    first | exact ⟨rfl, (Below.refl _ _).alloc (Nat.le_refl _) _⟩ | exact ⟨ret_bool (decide_eq_false (by omega)), (Below.refl _ _).alloc (Nat.le_refl _) _⟩
  · obtain ⟨h0, h1, h2, h3, h4, h5, h6⟩ := hno
    have e0 : (w % (2 * h) == 0) = false := by simp; omega
    have e1 : (w % (2 * h) != 0) = true := by simp; omega
    clear h6
    go_enter Try.func15, Try.ntmps15
    go_wp2_with (go_at_call 24; (first | (with_reducible refine (within_yes _ _ _ _ (by omega) (by omega)).mono ?_) | (with_reducible refine (within_no _ _ _ _ (by omega)).mono ?_)); rintro e w' ⟨rfl, rfl⟩)
    go_ret
    first | exact ⟨rfl, (Below.refl _ _).alloc (Nat.le_refl _) _⟩ | exact ⟨ret_bool (decide_eq_false (by omega)), (Below.refl _ _).alloc (Nat.le_refl _) _⟩
  · obtain ⟨h0, h1, h2, h3, h4, h5, h6, h7⟩ := hno
    have e0 : (w % (2 * h) == 0) = true := by simp; omega
    have e1 : (w % (2 * h) != 0) = false := by simp; omega
    clear h6
    go_enter Try.func15, Try.ntmps15
    go_wp2_with (go_at_call 24; (first | (with_reducible refine (within_yes _ _ _ _ (by omega) (by omega)).mono ?_) | (with_reducible refine (within_no _ _ _ _ (by omega)).mono ?_)); rintro e w' ⟨rfl, rfl⟩)
    go_ret
    first | exact ⟨rfl, (Below.refl _ _).alloc (Nat.le_refl _) _⟩ | exact ⟨ret_bool (decide_eq_false (by omega)), (Below.refl _ _).alloc (Nat.le_refl _) _⟩
  · obtain ⟨h0, h1, h2, h3, h4, h5, h6, h7, h8⟩ := hno
    have e0 : (w % (2 * h) == 0) = true := by simp; omega
    have e1 : (w % (2 * h) != 0) = false := by simp; omega
    clear h6
    go_enter Try.func15, Try.ntmps15
    go_wp2_with (go_at_call 24; (first | (with_reducible refine (within_yes _ _ _ _ (by omega) (by omega)).mono ?_) | (with_reducible refine (within_no _ _ _ _ (by omega)).mono ?_)); rintro e w' ⟨rfl, rfl⟩)
    go_ret
    first | exact ⟨rfl, (Below.refl _ _).alloc (Nat.le_refl _) _⟩ | exact ⟨ret_bool (decide_eq_false (by omega)), (Below.refl _ _).alloc (Nat.le_refl _) _⟩
  · obtain ⟨h0, h1, h2, h3, h4, h5, h6, h7, h8, h9⟩ := hno
    have e0 : (w % (2 * h) == 0) = true := by simp; omega
    have e1 : (w % (2 * h) != 0) = false := by simp; omega
    clear h6
    go_enter Try.func15, Try.ntmps15
    go_wp2_with (go_at_call 24; (first | (with_reducible refine (within_yes _ _ _ _ (by omega) (by omega)).mono ?_) | (with_reducible refine (within_no _ _ _ _ (by omega)).mono ?_)); rintro e w' ⟨rfl, rfl⟩)
    go_ret
    first | exact ⟨rfl, (Below.refl _ _).alloc (Nat.le_refl _) _⟩ | exact ⟨ret_bool (decide_eq_false (by omega)), (Below.refl _ _).alloc (Nat.le_refl _) _⟩
  · obtain ⟨h0, h1, h2, h3, h4, h5, h6, h7, h8, h9, h10⟩ := hno
    have e0 : (w % (2 * h) == 0) = true := by simp; omega
    have e1 : (w % (2 * h) != 0) = false := by simp; omega
    clear h6
    go_enter Try.func15, Try.ntmps15
    go_wp2_with (go_at_call 24; (first | (with_reducible refine (within_yes _ _ _ _ (by omega) (by omega)).mono ?_) | (with_reducible refine (within_no _ _ _ _ (by omega)).mono ?_)); rintro e w' ⟨rfl, rfl⟩)
    go_ret
    first | exact ⟨rfl, (Below.refl _ _).alloc (Nat.le_refl _) _⟩ | exact ⟨ret_bool (decide_eq_false (by omega)), (Below.refl _ _).alloc (Nat.le_refl _) _⟩
  · obtain ⟨h0, h1, h2, h3, h4, h5, h6, h7, h8, h9, h10, h11⟩ := hno
    have e0 : (w % (2 * h) == 0) = true := by simp; omega
    have e1 : (w % (2 * h) != 0) = false := by simp; omega
    clear h6
    go_enter Try.func15, Try.ntmps15
    go_wp2_with (go_at_call 24; (first | (with_reducible refine (within_yes _ _ _ _ (by omega) (by omega)).mono ?_) | (with_reducible refine (within_no _ _ _ _ (by omega)).mono ?_)); rintro e w' ⟨rfl, rfl⟩)
    go_ret
    first | exact ⟨rfl, (Below.refl _ _).alloc (Nat.le_refl _) _⟩ | exact ⟨ret_bool (decide_eq_false (by omega)), (Below.refl _ _).alloc (Nat.le_refl _) _⟩
  · obtain ⟨h0, h1, h2, h3, h4, h5, h6, h7, h8, h9, h10, h11, h12⟩ := hno
    have e0 : (w % (2 * h) == 0) = true := by simp; omega
    have e1 : (w % (2 * h) != 0) = false := by simp; omega
    clear h6
    go_enter Try.func15, Try.ntmps15
    go_wp2_with (go_at_call 24; (first | (with_reducible refine (within_yes _ _ _ _ (by omega) (by omega)).mono ?_) | (with_reducible refine (within_no _ _ _ _ (by omega)).mono ?_)); rintro e w' ⟨rfl, rfl⟩)
    go_ret
    first | exact ⟨rfl, (Below.refl _ _).alloc (Nat.le_refl _) _⟩ | exact ⟨ret_bool (decide_eq_false (by omega)), (Below.refl _ _).alloc (Nat.le_refl _) _⟩

end Go.Proofs.Ytgbbfmpofmeadaa
