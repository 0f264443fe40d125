/-
  Layers, Heads, Inner, Worker, Where; the document's Fits and Span; the document's examples of stage 10.
-/
import Derived.Test.YtledjabhbakdeaaSlice10
namespace Go.Proofs.Ytledjabhbakdeaa
open Go.RowKit
set_option linter.unusedVariables false

/-- a slice of a shape's things in even parts -/
theorem spn_lt (n m j : Nat) (hm : 1 ≤ m) (h : m ≤ n) : spanAt n m j < spanAt n m (j + 1) := by
  unfold spanAt
  rw [Nat.add_mul, Nat.one_mul]
  have h1 : (j * n + m) / m = j * n / m + 1 := Nat.add_div_right _ (by omega)
  have h2 : (j * n + m) / m ≤ (j * n + n) / m := Nat.div_le_div_right (by omega)
  omega

theorem layers_bad (l w h i v p st pt j : Int) (W : World) (r : SaysR l w h i v p st pt false) :
    Calls Try.prog 11 #[shv l w h i v p, cutv st pt, .int .i64 j] W fun e w' => e = .returned (.tuple #[twov 0 0, .int .i64 100]) ∧ Below W.heap.size W w' := by
  unfold shv cutv
  go_enter Try.func11, Try.ntmps11
  go_wp2_with fail
  refine (portion_bad l w h i v p st pt _ _ _ _ r).mono ?_
  rintro e wa ⟨rfl, hb⟩
  have B := below_two ((((Below.refl W.heap.size W).alloc (Nat.le_refl _) _).alloc (by simp) _).alloc (by simp; omega) _) hb
  have XC := (box_at (show W.heap.size + 1 + 1 = ((W.alloc _).alloc _).heap.size by simp) 29 #[Value.int .i64 0, .int .i64 0]).bel hb
  obtain ⟨d0, d1⟩ := two_cells XC
  have f0 := XC.frozen 0
  have f1 := XC.frozen 1
  clear hb XC
  go_wp2
  refine bodyPost_ret (v := .tuple #[twov 0 0, .int .i64 100]) (by simp [results, Try.results11, go_sem, d0, d1]) rfl ⟨rfl, ?_⟩
  repeat (refine Below.setCell ?_ (by simp; omega) _)
  exact B
theorem layers_arg (l w h i v p st pt j : Int) (W : World) (r : SaysR l w h i v p st pt true) (hm : 1 ≤ st ∧ st ≤ 16) (hj : j < 0 ∨ st ≤ j) :
    Calls Try.prog 11 #[shv l w h i v p, cutv st pt, .int .i64 j] W fun e w' => e = .returned (.tuple #[twov 0 0, .int .i64 2]) ∧ Below W.heap.size W w' := by
  unfold shv cutv
  go_enter Try.func11, Try.ntmps11
  go_wp2_with fail
  refine (portion_arg l w h i v p st pt _ _ _ _ r hm hj).mono ?_
  rintro e wa ⟨rfl, hb⟩
  have B := below_two ((((Below.refl W.heap.size W).alloc (Nat.le_refl _) _).alloc (by simp) _).alloc (by simp; omega) _) hb
  have XC := (box_at (show W.heap.size + 1 + 1 = ((W.alloc _).alloc _).heap.size by simp) 29 #[Value.int .i64 0, .int .i64 0]).bel hb
  obtain ⟨d0, d1⟩ := two_cells XC
  have f0 := XC.frozen 0
  have f1 := XC.frozen 1
  clear hb XC
  go_wp2
  refine bodyPost_ret (v := .tuple #[twov 0 0, .int .i64 2]) (by simp [results, Try.results11, go_sem, d0, d1]) rfl ⟨rfl, ?_⟩
  repeat (refine Below.setCell ?_ (by simp; omega) _)
  exact B
theorem layers_yes (l w h i v p st pt : Int) (j n m : Nat) (W : World) (r : SaysR l w h i v p st pt true) (en : l = n) (em : st = m) (hm : m ≤ 16) (hj : j < m) (hn : n ≤ 256) :
    Calls Try.prog 11 #[shv l w h i v p, cutv st pt, .int .i64 j] W fun e w' => e = .returned (.tuple #[twov (spanAt n m j) (spanAt n m (j + 1)), .int .i64 0]) ∧ Below W.heap.size W w' := by
  subst en em
  unfold shv cutv
  go_enter Try.func11, Try.ntmps11
  go_wp2_with fail
  refine (portion_yes _ _ _ _ _ _ _ _ j n m _ r hm hj hn).mono ?_
  rintro e wa ⟨rfl, hb⟩
  have B := below_two ((((Below.refl W.heap.size W).alloc (Nat.le_refl _) _).alloc (by simp) _).alloc (by simp; omega) _) hb
  have XC := (box_at (show W.heap.size + 1 + 1 = ((W.alloc _).alloc _).heap.size by simp) 29 #[Value.int .i64 0, .int .i64 0]).bel hb
  obtain ⟨d0, d1⟩ := two_cells XC
  have f0 := XC.frozen 0
  have f1 := XC.frozen 1
  clear hb XC
  go_wp2
  refine bodyPost_ret (v := .tuple #[twov (spanAt n m j) (spanAt n m (j + 1)), .int .i64 0]) (by simp [results, Try.results11, go_sem, d0, d1]) rfl ⟨rfl, ?_⟩
  repeat (refine Below.setCell ?_ (by simp; omega) _)
  exact B

theorem heads_bad (l w h i v p st pt j : Int) (W : World) (r : SaysR l w h i v p st pt false) :
    Calls Try.prog 12 #[shv l w h i v p, cutv st pt, .int .i64 j] W fun e w' => e = .returned (.tuple #[twov 0 0, .int .i64 100]) ∧ Below W.heap.size W w' := by
  unfold shv cutv
  go_enter Try.func12, Try.ntmps12
  go_wp2_with fail
  refine (portion_bad l w h i v p st pt _ _ _ _ r).mono ?_
  rintro e wa ⟨rfl, hb⟩
  have B := below_two ((((Below.refl W.heap.size W).alloc (Nat.le_refl _) _).alloc (by simp) _).alloc (by simp; omega) _) hb
  have XC := (box_at (show W.heap.size + 1 + 1 = ((W.alloc _).alloc _).heap.size by simp) 29 #[Value.int .i64 0, .int .i64 0]).bel hb
  obtain ⟨d0, d1⟩ := two_cells XC
  have f0 := XC.frozen 0
  have f1 := XC.frozen 1
  clear hb XC
  go_wp2
  refine bodyPost_ret (v := .tuple #[twov 0 0, .int .i64 100]) (by simp [results, Try.results12, go_sem, d0, d1]) rfl ⟨rfl, ?_⟩
  repeat (refine Below.setCell ?_ (by simp; omega) _)
  exact B
theorem heads_arg (l w h i v p st pt j : Int) (W : World) (r : SaysR l w h i v p st pt true) (hm : 1 ≤ pt ∧ pt ≤ 16) (hj : j < 0 ∨ pt ≤ j) :
    Calls Try.prog 12 #[shv l w h i v p, cutv st pt, .int .i64 j] W fun e w' => e = .returned (.tuple #[twov 0 0, .int .i64 2]) ∧ Below W.heap.size W w' := by
  unfold shv cutv
  go_enter Try.func12, Try.ntmps12
  go_wp2_with fail
  refine (portion_arg l w h i v p st pt _ _ _ _ r hm hj).mono ?_
  rintro e wa ⟨rfl, hb⟩
  have B := below_two ((((Below.refl W.heap.size W).alloc (Nat.le_refl _) _).alloc (by simp) _).alloc (by simp; omega) _) hb
  have XC := (box_at (show W.heap.size + 1 + 1 = ((W.alloc _).alloc _).heap.size by simp) 29 #[Value.int .i64 0, .int .i64 0]).bel hb
  obtain ⟨d0, d1⟩ := two_cells XC
  have f0 := XC.frozen 0
  have f1 := XC.frozen 1
  clear hb XC
  go_wp2
  refine bodyPost_ret (v := .tuple #[twov 0 0, .int .i64 2]) (by simp [results, Try.results12, go_sem, d0, d1]) rfl ⟨rfl, ?_⟩
  repeat (refine Below.setCell ?_ (by simp; omega) _)
  exact B
theorem heads_yes (l w h i v p st pt : Int) (j n m : Nat) (W : World) (r : SaysR l w h i v p st pt true) (en : h = n) (em : pt = m) (hm : m ≤ 16) (hj : j < m) (hn : n ≤ 256) :
    Calls Try.prog 12 #[shv l w h i v p, cutv st pt, .int .i64 j] W fun e w' => e = .returned (.tuple #[twov (spanAt n m j) (spanAt n m (j + 1)), .int .i64 0]) ∧ Below W.heap.size W w' := by
  subst en em
  unfold shv cutv
  go_enter Try.func12, Try.ntmps12
  go_wp2_with fail
  refine (portion_yes _ _ _ _ _ _ _ _ j n m _ r hm hj hn).mono ?_
  rintro e wa ⟨rfl, hb⟩
  have B := below_two ((((Below.refl W.heap.size W).alloc (Nat.le_refl _) _).alloc (by simp) _).alloc (by simp; omega) _) hb
  have XC := (box_at (show W.heap.size + 1 + 1 = ((W.alloc _).alloc _).heap.size by simp) 29 #[Value.int .i64 0, .int .i64 0]).bel hb
  obtain ⟨d0, d1⟩ := two_cells XC
  have f0 := XC.frozen 0
  have f1 := XC.frozen 1
  clear hb XC
  go_wp2
  refine bodyPost_ret (v := .tuple #[twov (spanAt n m j) (spanAt n m (j + 1)), .int .i64 0]) (by simp [results, Try.results12, go_sem, d0, d1]) rfl ⟨rfl, ?_⟩
  repeat (refine Below.setCell ?_ (by simp; omega) _)
  exact B

theorem inner_bad (l w h i v p st pt j : Int) (W : World) (r : SaysR l w h i v p st pt false) :
    Calls Try.prog 13 #[shv l w h i v p, cutv st pt, .int .i64 j] W fun e w' => e = .returned (.tuple #[twov 0 0, .int .i64 100]) ∧ Below W.heap.size W w' := by
  unfold shv cutv
  go_enter Try.func13, Try.ntmps13
  go_wp2_with fail
  refine (portion_bad l w h i v p st pt _ _ _ _ r).mono ?_
  rintro e wa ⟨rfl, hb⟩
  have B := below_two ((((Below.refl W.heap.size W).alloc (Nat.le_refl _) _).alloc (by simp) _).alloc (by simp; omega) _) hb
  have XC := (box_at (show W.heap.size + 1 + 1 = ((W.alloc _).alloc _).heap.size by simp) 29 #[Value.int .i64 0, .int .i64 0]).bel hb
  obtain ⟨d0, d1⟩ := two_cells XC
  have f0 := XC.frozen 0
  have f1 := XC.frozen 1
  clear hb XC
  go_wp2
  refine bodyPost_ret (v := .tuple #[twov 0 0, .int .i64 100]) (by simp [results, Try.results13, go_sem, d0, d1]) rfl ⟨rfl, ?_⟩
  repeat (refine Below.setCell ?_ (by simp; omega) _)
  exact B
theorem inner_arg (l w h i v p st pt j : Int) (W : World) (r : SaysR l w h i v p st pt true) (hm : 1 ≤ pt ∧ pt ≤ 16) (hj : j < 0 ∨ pt ≤ j) :
    Calls Try.prog 13 #[shv l w h i v p, cutv st pt, .int .i64 j] W fun e w' => e = .returned (.tuple #[twov 0 0, .int .i64 2]) ∧ Below W.heap.size W w' := by
  unfold shv cutv
  go_enter Try.func13, Try.ntmps13
  go_wp2_with fail
  refine (portion_arg l w h i v p st pt _ _ _ _ r hm hj).mono ?_
  rintro e wa ⟨rfl, hb⟩
  have B := below_two ((((Below.refl W.heap.size W).alloc (Nat.le_refl _) _).alloc (by simp) _).alloc (by simp; omega) _) hb
  have XC := (box_at (show W.heap.size + 1 + 1 = ((W.alloc _).alloc _).heap.size by simp) 29 #[Value.int .i64 0, .int .i64 0]).bel hb
  obtain ⟨d0, d1⟩ := two_cells XC
  have f0 := XC.frozen 0
  have f1 := XC.frozen 1
  clear hb XC
  go_wp2
  refine bodyPost_ret (v := .tuple #[twov 0 0, .int .i64 2]) (by simp [results, Try.results13, go_sem, d0, d1]) rfl ⟨rfl, ?_⟩
  repeat (refine Below.setCell ?_ (by simp; omega) _)
  exact B
theorem inner_yes (l w h i v p st pt : Int) (j n m : Nat) (W : World) (r : SaysR l w h i v p st pt true) (en : i = n) (em : pt = m) (hm : m ≤ 16) (hj : j < m) (hn : n ≤ 256) :
    Calls Try.prog 13 #[shv l w h i v p, cutv st pt, .int .i64 j] W fun e w' => e = .returned (.tuple #[twov (spanAt n m j) (spanAt n m (j + 1)), .int .i64 0]) ∧ Below W.heap.size W w' := by
  subst en em
  unfold shv cutv
  go_enter Try.func13, Try.ntmps13
  go_wp2_with fail
  refine (portion_yes _ _ _ _ _ _ _ _ j n m _ r hm hj hn).mono ?_
  rintro e wa ⟨rfl, hb⟩
  have B := below_two ((((Below.refl W.heap.size W).alloc (Nat.le_refl _) _).alloc (by simp) _).alloc (by simp; omega) _) hb
  have XC := (box_at (show W.heap.size + 1 + 1 = ((W.alloc _).alloc _).heap.size by simp) 29 #[Value.int .i64 0, .int .i64 0]).bel hb
  obtain ⟨d0, d1⟩ := two_cells XC
  have f0 := XC.frozen 0
  have f1 := XC.frozen 1
  clear hb XC
  go_wp2
  refine bodyPost_ret (v := .tuple #[twov (spanAt n m j) (spanAt n m (j + 1)), .int .i64 0]) (by simp [results, Try.results13, go_sem, d0, d1]) rfl ⟨rfl, ?_⟩
  repeat (refine Below.setCell ?_ (by simp; omega) _)
  exact B

def FitI (st pt : Int) : Prop := (1 ≤ st ∧ st ≤ 64) ∧ (1 ≤ pt ∧ pt ≤ 64)
theorem numb_yes (st pt : Int) (W : World) (ok : FitI st pt) : Calls Try.prog 26 #[cutv st pt] W fun e w' => e = .returned (.bool true) ∧ Below W.heap.size W w' := by
  obtain ⟨⟨s0, s1⟩, p0, p1⟩ := ok
  unfold cutv
  go_enter Try.func26, Try.ntmps26
  go_wp2_with (go_at_call 23; (first | (with_reducible refine (inside_yes _ _ _ _ (by omega) (by omega)).mono ?_) | (with_reducible refine (inside_no _ _ _ _ (by omega)).mono ?_)); rintro e w' ⟨rfl, rfl⟩)
  go_ret
  exact ⟨rfl, (Below.refl _ _).alloc (Nat.le_refl _) _⟩
theorem numb_no (st pt : Int) (W : World) (no : ¬ FitI st pt) : Calls Try.prog 26 #[cutv st pt] W fun e w' => e = .returned (.bool false) ∧ Below W.heap.size W w' := by
  unfold cutv
  by_cases hs : 1 ≤ st ∧ st ≤ 64
  · obtain ⟨s0, s1⟩ := hs
    have hp : pt < 1 ∨ 64 < pt := by
      apply Classical.byContradiction; intro c; exact no ⟨⟨s0, s1⟩, by omega, by omega⟩
    clear no
    go_enter Try.func26, Try.ntmps26
    go_wp2_with (go_at_call 23; (first | (with_reducible refine (inside_yes _ _ _ _ (by omega) (by omega)).mono ?_) | (with_reducible refine (inside_no _ _ _ _ (by omega)).mono ?_)); rintro e w' ⟨rfl, rfl⟩)
    go_ret
    exact ⟨rfl, (Below.refl _ _).alloc (Nat.le_refl _) _⟩
  · have hp : st < 1 ∨ 64 < st := by omega
    clear no hs
    go_enter Try.func26, Try.ntmps26
    go_wp2_with (go_at_call 23; (first | (with_reducible refine (inside_yes _ _ _ _ (by omega) (by omega)).mono ?_) | (with_reducible refine (inside_no _ _ _ _ (by omega)).mono ?_)); rintro e w' ⟨rfl, rfl⟩)
    go_ret
    exact ⟨rfl, (Below.refl _ _).alloc (Nat.le_refl _) _⟩

theorem fits_yes10 (st pt : Int) (W : World) (ok : FitI st pt) : Calls Try.prog 16 #[cutv st pt] W fun e w' => e = .returned (.bool true) ∧ Below W.heap.size W w' := by
  obtain ⟨⟨s0, s1⟩, p0, p1⟩ := ok
  unfold cutv
  go_enter Try.func16, Try.ntmps16
  go_wp2
  go_ret
  first | exact ⟨rfl, (Below.refl _ _).alloc (Nat.le_refl _) _⟩ | exact ⟨ret_bool (decide_eq_true (by omega)), (Below.refl _ _).alloc (Nat.le_refl _) _⟩
theorem fits_no10 (st pt : Int) (W : World) (no : ¬ FitI st pt) : Calls Try.prog 16 #[cutv st pt] W fun e w' => e = .returned (.bool false) ∧ Below W.heap.size W w' := by
  unfold cutv
  have hc : st < 1 ∨ (1 ≤ st ∧ 64 < st) ∨ ((1 ≤ st ∧ st ≤ 64) ∧ pt < 1) ∨ ((1 ≤ st ∧ st ≤ 64) ∧ (1 ≤ pt ∧ 64 < pt)) := by
    unfold FitI at no; omega
  clear no
  rcases hc with h | ⟨h, h2⟩ | ⟨⟨h, h2⟩, h3⟩ | ⟨⟨h, h2⟩, h3, h4⟩
  all_goals
    go_enter Try.func16, Try.ntmps16
    go_wp2
    go_ret
    first | exact ⟨rfl, (Below.refl _ _).alloc (Nat.le_refl _) _⟩ | exact ⟨ret_bool (decide_eq_false (by omega)), (Below.refl _ _).alloc (Nat.le_refl _) _⟩

set_option maxHeartbeats 800000 in
theorem dspan_any (j n m : Nat) (W : World) (hm : m ≤ 16) (hj : j < m) (hn : n ≤ 256) :
    Calls Try.prog 14 #[.int .i64 j, .int .i64 n, .int .i64 m] W fun e w' => e = .returned (twov (spanAt n m j) (spanAt n m (j + 1))) ∧ Below W.heap.size W w' := by
  obtain ⟨z, hz⟩ : ∃ z, z = j * n := ⟨_, rfl⟩
  obtain ⟨y, hy⟩ : ∃ y, y = (j + 1) * n := ⟨_, rfl⟩
  have e1 : (j : Int) * (n : Int) = (z : Int) := by rw [hz]; push_cast; rfl
  have e2 : ((j : Int) + 1) * (n : Int) = (y : Int) := by rw [hy]; push_cast; rfl
  have z1 : z ≤ 16 * 256 := by rw [hz]; exact Nat.mul_le_mul (by omega) hn
  have y1 : y ≤ 16 * 256 := by rw [hy]; exact Nat.mul_le_mul (by omega) hn
  obtain ⟨a, ha⟩ : ∃ a, a = z / m := ⟨_, rfl⟩
  obtain ⟨b, hb⟩ : ∃ b, b = y / m := ⟨_, rfl⟩
  have e3 : (z : Int) / (m : Int) = (a : Int) := by rw [ha]; push_cast; rfl
  have e4 : (y : Int) / (m : Int) = (b : Int) := by rw [hb]; push_cast; rfl
  have a1 : a ≤ z := by rw [ha]; exact Nat.div_le_self z m
  have b1 : b ≤ y := by rw [hb]; exact Nat.div_le_self y m
  have hs : spanAt n m j = a := by unfold spanAt; rw [← hz, ha]
  have hs2 : spanAt n m (j + 1) = b := by unfold spanAt; rw [← hy, hb]
  rw [hs, hs2]
  have hne : ¬ (m : Int) = 0 := by omega
  have XC := box_new W 29 #[Value.int .i64 0, .int .i64 0]
  obtain ⟨d0, d1⟩ := two_cells XC
  have f0 := XC.frozen 0
  have f1 := XC.frozen 1
  clear hz hy ha hb hs hs2 XC
  go_enter Try.func14, Try.ntmps14
  go_upto_region 1 with (fail)
  go_region
  go_wp2
  refine bodyPost_ret (v := twov a b) (by simp [results, Try.results14, go_sem]) rfl ⟨rfl, ?_⟩
  repeat (first | refine Below.setCell ?_ (by simp) _ | refine Below.drew ?_)
  exact (Below.refl W.heap.size W).alloc (Nat.le_refl _) _

theorem worker_bad (st pt s q : Int) (W : World) (bs : -9223372036854775808 ≤ st ∧ st ≤ 9223372036854775807) (bp : -9223372036854775808 ≤ pt ∧ pt ≤ 9223372036854775807) (no : ¬ (FitI st pt ∧ (0 ≤ s ∧ s < st) ∧ (0 ≤ q ∧ q < pt))) :
    Calls Try.prog 15 #[cutv st pt, .int .i64 s, .int .i64 q] W fun e w' => e = .returned (.tuple #[.int .i64 0, .bool false]) ∧ Below W.heap.size W w' := by
  by_cases hf : FitI st pt
  · have r := fun W => numb_yes st pt W hf
    have hc : (s < 0 ∨ st - 1 < s) ∨ ((0 ≤ s ∧ s ≤ st - 1) ∧ (q < 0 ∨ pt - 1 < q)) := by
      apply Classical.byContradiction; intro c; exact no ⟨hf, by omega, by omega⟩
    obtain ⟨⟨s0, s1⟩, p0, p1⟩ := hf
    clear no
    unfold cutv at r ⊢
    rcases hc with hc | ⟨⟨h1, h2⟩, hc⟩
    all_goals
      go_enter Try.func15, Try.ntmps15
      go_wp2_with fail
      refine (r _).mono ?_
      rintro e wa ⟨rfl, hb⟩
      have B := below_two ((Below.refl W.heap.size W).alloc (Nat.le_refl _) _) hb
      have XC := (box_new W _ _).bel hb
      obtain ⟨d0, d1⟩ := two_cells XC
      clear hb r XC
      go_wp2_with (go_at_call 23; (first | (with_reducible refine (inside_yes _ _ _ _ (by omega) (by omega)).mono ?_) | (with_reducible refine (inside_no _ _ _ _ (by omega)).mono ?_)); rintro e w' ⟨rfl, rfl⟩)
      go_ret2
      exact ⟨rfl, B⟩
  · have r := fun W => numb_no st pt W hf
    clear no hf
    unfold cutv at r ⊢
    go_enter Try.func15, Try.ntmps15
    go_wp2_with fail
    refine (r _).mono ?_
    rintro e wa ⟨rfl, hb⟩
    have B := below_two ((Below.refl W.heap.size W).alloc (Nat.le_refl _) _) hb
    clear hb r
    go_wp2
    go_ret2
    exact ⟨rfl, B⟩
theorem worker_yes (st pt s q : Nat) (W : World) (h1 : st ≤ 64) (h2 : pt ≤ 64) (hs : s < st) (hq : q < pt) :
    Calls Try.prog 15 #[cutv st pt, .int .i64 s, .int .i64 q] W fun e w' => e = .returned (.tuple #[.int .i64 ((s * pt + q : Nat) : Int), .bool true]) ∧ Below W.heap.size W w' := by
  have r := fun W => numb_yes st pt W ⟨⟨by omega, by omega⟩, by omega, by omega⟩
  obtain ⟨z, hz⟩ : ∃ z, z = s * pt := ⟨_, rfl⟩
  have e1 : (s : Int) * (pt : Int) = (z : Int) := by rw [hz]; push_cast; rfl
  have z1 : z ≤ 64 * 64 := by rw [hz]; exact Nat.mul_le_mul (by omega) (by omega)
  rw [← hz]
  clear hz
  unfold cutv at r ⊢
  go_enter Try.func15, Try.ntmps15
  go_wp2_with fail
  refine (r _).mono ?_
  rintro e wa ⟨rfl, hb⟩
  have B := below_two ((Below.refl W.heap.size W).alloc (Nat.le_refl _) _) hb
  have XC := (box_new W _ _).bel hb
  obtain ⟨d0, d1⟩ := two_cells XC
  clear hb r XC
  go_wp2_with (go_at_call 23; (first | (with_reducible refine (inside_yes _ _ _ _ (by omega) (by omega)).mono ?_) | (with_reducible refine (inside_no _ _ _ _ (by omega)).mono ?_)); rintro e w' ⟨rfl, rfl⟩)
  go_ret2
  first | exact ⟨rfl, B⟩ | exact ⟨by push_cast; rfl, B⟩

theorem where_bad (st pt n : Int) (W : World) (bs : -9223372036854775808 ≤ st ∧ st ≤ 9223372036854775807) (bp : -9223372036854775808 ≤ pt ∧ pt ≤ 9223372036854775807) (no : ¬ FitI st pt ∨ n < 0 ∨ st * pt ≤ n) :
    Calls Try.prog 17 #[cutv st pt, .int .i64 n] W fun e w' => e = .returned (.tuple #[twov 0 0, .bool false]) ∧ Below W.heap.size W w' := by
  have FIN : ∀ {W1 wa : World}, Below W.heap.size W W1 → Below W1.heap.size W1 wa → Below W.heap.size W wa := fun a b => below_two a b
  by_cases hf : FitI st pt
  · have r := fun W => numb_yes st pt W hf
    have hc : n < 0 ∨ st * pt ≤ n := by
      rcases no with h | h
      · exact absurd hf h
      · exact h
    obtain ⟨⟨s0, s1⟩, p0, p1⟩ := hf
    have b1 := Int.mul_le_mul s0 p0 (by omega) (by omega)
    have b2 := Int.mul_le_mul s1 p1 (by omega) (by omega)
    obtain ⟨z, hz⟩ : ∃ z, st * pt = z := ⟨_, rfl⟩
    rw [hz] at hc b1 b2
    clear no
    unfold cutv at r ⊢
    go_enter Try.func17, Try.ntmps17
    go_wp2_with fail
    refine (r _).mono ?_
    rintro e wa ⟨rfl, hb⟩
    have B := below_two (((Below.refl W.heap.size W).alloc (Nat.le_refl _) _).alloc (by simp) _) hb
    have XC := ((box_new W _ _).alloc _).bel hb
    obtain ⟨c0, c1⟩ := two_cells XC
    have XD := (box_at (show W.heap.size + 1 = (W.alloc _).heap.size by simp) 29 #[Value.int .i64 0, .int .i64 0]).bel hb
    obtain ⟨d0, d1⟩ := two_cells XD
    have f0 := XD.frozen 0
    have f1 := XD.frozen 1
    clear hb r XC XD
    go_wp2_with (go_at_call 23; (first | (with_reducible refine (inside_no _ _ _ _ (by omega)).mono ?_)); rintro e w' ⟨rfl, rfl⟩)
    refine bodyPost_ret (v := .tuple #[twov 0 0, .bool false]) (by simp [results, Try.results17, go_sem, d0, d1]) rfl ⟨rfl, ?_⟩
    repeat (refine Below.setCell ?_ (by simp) _)
    exact B
  · have r := fun W => numb_no st pt W hf
    clear no hf
    unfold cutv at r ⊢
    go_enter Try.func17, Try.ntmps17
    go_wp2_with fail
    refine (r _).mono ?_
    rintro e wa ⟨rfl, hb⟩
    have B := below_two (((Below.refl W.heap.size W).alloc (Nat.le_refl _) _).alloc (by simp) _) hb
    have XD := (box_at (show W.heap.size + 1 = (W.alloc _).heap.size by simp) 29 #[Value.int .i64 0, .int .i64 0]).bel hb
    obtain ⟨d0, d1⟩ := two_cells XD
    have f0 := XD.frozen 0
    have f1 := XD.frozen 1
    clear hb r XD
    go_wp2
    refine bodyPost_ret (v := .tuple #[twov 0 0, .bool false]) (by simp [results, Try.results17, go_sem, d0, d1]) rfl ⟨rfl, ?_⟩
    repeat (refine Below.setCell ?_ (by simp) _)
    exact B
set_option maxHeartbeats 800000 in
theorem where_yes (st pt n : Nat) (W : World) (h1 : st ≤ 64) (h2 : pt ≤ 64) (hn : n < st * pt) :
    Calls Try.prog 17 #[cutv st pt, .int .i64 n] W fun e w' => e = .returned (.tuple #[twov ((n / pt : Nat) : Int) ((n % pt : Nat) : Int), .bool true]) ∧ Below W.heap.size W w' := by
  have s0 : 1 ≤ st := by rcases Nat.eq_zero_or_pos st with e | e; (subst e; simp at hn); exact e
  have p0 : 1 ≤ pt := by rcases Nat.eq_zero_or_pos pt with e | e; (subst e; simp at hn); exact e
  have r := fun W => numb_yes st pt W ⟨⟨by omega, by omega⟩, by omega, by omega⟩
  obtain ⟨z, hz⟩ : ∃ z, z = st * pt := ⟨_, rfl⟩
  have e1 : (st : Int) * (pt : Int) = (z : Int) := by rw [hz]; push_cast; rfl
  have z1 : z ≤ 64 * 64 := by rw [hz]; exact Nat.mul_le_mul (by omega) (by omega)
  rw [← hz] at hn
  obtain ⟨a, ha⟩ : ∃ a, a = n / pt := ⟨_, rfl⟩
  obtain ⟨b, hb⟩ : ∃ b, b = n % pt := ⟨_, rfl⟩
  have e3 : (n : Int) / (pt : Int) = (a : Int) := by rw [ha]; push_cast; rfl
  have e4 : (n : Int) % (pt : Int) = (b : Int) := by rw [hb]; push_cast; rfl
  have a1 : a ≤ n := by rw [ha]; exact Nat.div_le_self n pt
  have b1 : b ≤ n := by rw [hb]; exact Nat.mod_le n pt
  rw [← ha, ← hb]
  have hne : ¬ (pt : Int) = 0 := by omega
  clear hz ha hb
  unfold cutv at r ⊢
  go_enter Try.func17, Try.ntmps17
  go_wp2_with fail
  refine (r _).mono ?_
  rintro e wa ⟨rfl, hb⟩
  have B := below_two (((Below.refl W.heap.size W).alloc (Nat.le_refl _) _).alloc (by simp) _) hb
  have XC := ((box_new W _ _).alloc _).bel hb
  obtain ⟨c0, c1⟩ := two_cells XC
  have XD := (box_at (show W.heap.size + 1 = (W.alloc _).heap.size by simp) 29 #[Value.int .i64 0, .int .i64 0]).bel hb
  obtain ⟨d0, d1⟩ := two_cells XD
  have f0 := XD.frozen 0
  have f1 := XD.frozen 1
  clear hb r XC XD
  go_upto_region 3 with (go_at_call 23; (first | (with_reducible refine (inside_yes _ _ _ _ (by omega) (by omega)).mono ?_)); rintro e w' ⟨rfl, rfl⟩)
  go_region
  go_wp2
  refine bodyPost_ret (v := .tuple #[twov a b, .bool true]) (by simp [results, Try.results17, go_sem, d0, d1]) rfl ⟨rfl, ?_⟩
  repeat (first | refine Below.setCell ?_ (by simp) _ | refine Below.drew ?_)
  exact B

end Go.Proofs.Ytledjabhbakdeaa
