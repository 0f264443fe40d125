/-
  Cuts: which are right (the document's Right and the code's), how many workers, where a worker is, what each stage and part has.
-/
import Derived.Test.YtledjabhbakdeaaShape
import Derived.Test.YtledjabhbakdeaaNew7
namespace Go.Proofs.Ytledjabhbakdeaa
open Go.RowKit
set_option linter.unusedVariables false

/-- two numbers as a cut -/
abbrev cutv (st pt : Int) : Value := .agg #[.int .i64 st, .int .i64 pt]
/-- a cut of a right shape is right -/
def OkC (l h i st pt : Int) : Prop := 1 ≤ st ∧ st ≤ l ∧ 1 ≤ pt ∧ h % pt = 0 ∧ i % pt = 0 ∧ st * pt ≤ 64
theorem OkC.pt_le {l h i st pt : Int} (hh : 1 ≤ h) (ok : OkC l h i st pt) : pt ≤ h := Int.le_of_dvd (by omega) (Int.dvd_of_emod_eq_zero ok.2.2.2.1)
theorem two_cells {w : World} {g : Nat} {T : TypeId} {v0 v1 : Value} (h : Box w g T #[v0, v1]) : w.cell? ⟨g, 0, none⟩ = some v0 ∧ w.cell? ⟨g, 1, none⟩ = some v1 := ⟨h.cell 0, h.cell 1⟩

theorem first_noC (l h i st pt : Int) (hh : 1 ≤ h) (no : ¬ OkC l h i st pt) : (st < 1) ∨ (1 ≤ st ∧ l < st) ∨ (1 ≤ st ∧ st ≤ l ∧ pt < 1) ∨ (1 ≤ st ∧ st ≤ l ∧ 1 ≤ pt ∧ h < pt ∧ h % pt ≠ 0) ∨ (1 ≤ st ∧ st ≤ l ∧ 1 ≤ pt ∧ pt ≤ h ∧ h % pt ≠ 0) ∨ (1 ≤ st ∧ st ≤ l ∧ 1 ≤ pt ∧ pt ≤ h ∧ h % pt = 0 ∧ i % pt ≠ 0) ∨ (1 ≤ st ∧ st ≤ l ∧ 1 ≤ pt ∧ pt ≤ h ∧ h % pt = 0 ∧ i % pt = 0 ∧ 64 < st * pt) := by
  by_cases c0 : st < 1
  · exact Or.inl c0
  refine Or.inr ?_
  by_cases c1 : l < st
  · exact Or.inl ⟨by omega, c1⟩
  refine Or.inr ?_
  by_cases c2 : pt < 1
  · exact Or.inl ⟨by omega, by omega, c2⟩
  refine Or.inr ?_
  by_cases c3 : h % pt = 0
  · have hp : pt ≤ h := Int.le_of_dvd (by omega) (Int.dvd_of_emod_eq_zero c3)
    refine Or.inr (Or.inr ?_)
    by_cases c4 : i % pt = 0
    · refine Or.inr ⟨by omega, by omega, by omega, hp, c3, c4, ?_⟩
      apply Classical.byContradiction
      intro c
      exact no ⟨by omega, by omega, by omega, c3, c4, by omega⟩
    · exact Or.inl ⟨by omega, by omega, by omega, hp, c3, c4⟩
  · by_cases c4 : h < pt
    · exact Or.inl ⟨by omega, by omega, by omega, c4, c3⟩
    · exact Or.inr (Or.inl ⟨by omega, by omega, by omega, by omega, c3⟩)
theorem prod16 {st pt : Int} (h0 : 1 ≤ st) (h1 : st ≤ 16) (h2 : 1 ≤ pt) (h3 : pt ≤ 16) : 1 ≤ st * pt ∧ st * pt ≤ 256 := by
  have a := Int.mul_le_mul h0 h2 (by omega) (by omega)
  have b := Int.mul_le_mul h1 h3 (by omega) (by omega)
  omega

theorem inside_yes (a n b : Int) (w : World) (h1 : a ≤ n) (h2 : n ≤ b) : Calls Try.prog 23 #[.int .i64 a, .int .i64 n, .int .i64 b] w fun e w' => e = .returned (.bool true) ∧ w = w' := by
  go_enter Try.func23, Try.ntmps23
  go_wp2
  go_ret
  exact ⟨rfl, rfl⟩
theorem inside_no (a n b : Int) (w : World) (h : n < a ∨ b < n) : Calls Try.prog 23 #[.int .i64 a, .int .i64 n, .int .i64 b] w fun e w' => e = .returned (.bool false) ∧ w = w' := by
  by_cases h1 : n < a
  · have h2 : ¬ a ≤ n := by omega
    clear h
    go_enter Try.func23, Try.ntmps23
    go_wp2
    go_ret
    exact ⟨rfl, rfl⟩
  · have h2 : a ≤ n := by omega
    have h3 : ¬ n ≤ b := by omega
    clear h
    go_enter Try.func23, Try.ntmps23
    go_wp2
    go_ret
    exact ⟨rfl, rfl⟩
theorem div_yes (p n : Int) (w : World) (h1 : 1 ≤ p) (h0 : 0 ≤ n) (b : n ≤ 256) (h2 : n % p = 0) : Calls Try.prog 24 #[.int .i64 p, .int .i64 n] w fun e w' => e = .returned (.bool true) ∧ w = w' := by
  have e0 : (n % p == 0) = true := by simp; omega
  clear h2
  go_enter Try.func24, Try.ntmps24
  go_wp2
  go_ret
  exact ⟨rfl, rfl⟩
theorem div_no (p n : Int) (w : World) (h1 : 1 ≤ p) (h0 : 0 ≤ n) (b : n ≤ 256) (h2 : n % p ≠ 0) : Calls Try.prog 24 #[.int .i64 p, .int .i64 n] w fun e w' => e = .returned (.bool false) ∧ w = w' := by
  have e0 : (n % p == 0) = false := by simp; omega
  clear h2
  go_enter Try.func24, Try.ntmps24
  go_wp2
  go_ret
  exact ⟨rfl, rfl⟩
theorem div_no0 (p n : Int) (w : World) (h1 : p < 1) : Calls Try.prog 24 #[.int .i64 p, .int .i64 n] w fun e w' => e = .returned (.bool false) ∧ w = w' := by
  go_enter Try.func24, Try.ntmps24
  go_wp2
  go_ret
  exact ⟨rfl, rfl⟩

set_option maxHeartbeats 1600000 in
theorem sright_bad (l w h i v p st pt : Int) (W : World) (b : (-9223372036854775808 ≤ l ∧ l ≤ 9223372036854775807) ∧ (-9223372036854775808 ≤ w ∧ w ≤ 9223372036854775807) ∧ (-9223372036854775808 ≤ h ∧ h ≤ 9223372036854775807)) (hno : ¬ OkI l w h i v p) :
    Calls Try.prog 9 #[shv l w h i v p, cutv st pt] W fun e w' => e = .returned (.bool false) ∧ Below W.heap.size W w' := by
  have c := fun W => right_no l w h i v p W b hno
  clear hno b
  unfold shv at c ⊢
  unfold cutv
  go_enter Try.func9, Try.ntmps9
  go_wp2_with fail
  refine (c _).mono ?_
  rintro e wa ⟨rfl, hb⟩
  have B := below_two (((Below.refl W.heap.size W).alloc (Nat.le_refl _) _).alloc (by simp) _) hb
  clear hb c
  go_wp2
  go_ret
  exact ⟨rfl, B⟩

set_option maxHeartbeats 3200000 in
theorem sright_yes (l w h i v p st pt : Int) (W : World) (ok : OkI l w h i v p) (oc : OkC l h i st pt) :
    Calls Try.prog 9 #[shv l w h i v p, cutv st pt] W fun e w' => e = .returned (.bool true) ∧ Below W.heap.size W w' := by
  have r := fun W => right_yes l w h i v p W ok
  obtain ⟨l0, l1, h0, h1, w0, w1, hm, i0, i1, v0, v1, p0, p1⟩ := ok
  obtain ⟨s0, s1, q0, q1, q2, q3⟩ := oc
  have pl : pt ≤ h := Int.le_of_dvd (by omega) (Int.dvd_of_emod_eq_zero q1)
  have pr := prod16 s0 (by omega) q0 (by omega)
  obtain ⟨z, hz⟩ : ∃ z, st * pt = z := ⟨_, rfl⟩
  rw [hz] at pr q3
  have H1 := Lib.hid q1
  clear q1
  have H2 := Lib.hid q2
  clear q2
  clear hm
  unfold shv at r ⊢
  unfold cutv
  go_enter Try.func9, Try.ntmps9
  go_wp2_with fail
  refine (r _).mono ?_
  rintro e wa ⟨rfl, hb⟩
  have XS := ((box_new W _ _).alloc _).bel hb
  have XC := (box_at (show W.heap.size + 1 = (W.alloc _).heap.size by simp) _ _).bel hb
  have B := below_two (((Below.refl W.heap.size W).alloc (Nat.le_refl _) _).alloc (by simp) _) hb
  obtain ⟨c0, c1, c2, c3, c4, c5⟩ := XS.cells6
  obtain ⟨d0, d1⟩ := two_cells XC
  clear hb r XS XC
  go_wp2_with (first | (go_at_call 23; (first | (with_reducible refine (inside_yes _ _ _ _ (by omega) (by omega)).mono ?_) | (with_reducible refine (inside_no _ _ _ _ (by omega)).mono ?_)); rintro e w' ⟨rfl, rfl⟩) | (go_at_call 24; (first | (with_reducible refine (div_no0 _ _ _ (by omega)).mono ?_) | (with_reducible refine (div_yes _ _ _ (by omega) (by omega) (by omega) (by first | exact H1.out | exact H2.out)).mono ?_) | (with_reducible refine (div_no _ _ _ (by omega) (by omega) (by omega) (by first | exact H1.out | exact H2.out)).mono ?_)); rintro e w' ⟨rfl, rfl⟩))
  go_ret
  first | exact ⟨rfl, B⟩ | exact ⟨ret_bool (decide_eq_true (by omega)), B⟩

set_option maxHeartbeats 6400000 in
theorem sright_no (l w h i v p st pt : Int) (W : World) (ok : OkI l w h i v p) (bs : -9223372036854775808 ≤ st ∧ st ≤ 9223372036854775807) (bp : -9223372036854775808 ≤ pt ∧ pt ≤ 9223372036854775807) (oc : ¬ OkC l h i st pt) :
    Calls Try.prog 9 #[shv l w h i v p, cutv st pt] W fun e w' => e = .returned (.bool false) ∧ Below W.heap.size W w' := by
  replace oc := first_noC l h i st pt ok.2.2.1 oc
  rcases oc with oc | oc | oc | oc | oc | oc | oc
  · have r := fun W => right_yes l w h i v p W ok
    obtain ⟨l0, l1, h0, h1, w0, w1, hm, i0, i1, v0, v1, p0, p1⟩ := ok
    have s0 := oc
    clear oc
    clear hm
    unfold shv at r ⊢
    unfold cutv
    go_enter Try.func9, Try.ntmps9
    go_wp2_with fail
    refine (r _).mono ?_
    rintro e wa ⟨rfl, hb⟩
    have XS := ((box_new W _ _).alloc _).bel hb
    have XC := (box_at (show W.heap.size + 1 = (W.alloc _).heap.size by simp) _ _).bel hb
    have B := below_two (((Below.refl W.heap.size W).alloc (Nat.le_refl _) _).alloc (by simp) _) hb
    obtain ⟨c0, c1, c2, c3, c4, c5⟩ := XS.cells6
    obtain ⟨d0, d1⟩ := two_cells XC
    clear hb r XS XC
    go_wp2_with (first | (go_at_call 23; (first | (with_reducible refine (inside_yes _ _ _ _ (by omega) (by omega)).mono ?_) | (with_reducible refine (inside_no _ _ _ _ (by omega)).mono ?_)); rintro e w' ⟨rfl, rfl⟩) | (go_at_call 24; (first | (with_reducible refine (div_no0 _ _ _ (by omega)).mono ?_) | (with_reducible refine (div_yes _ _ _ (by omega) (by omega) (by omega) (by first | exact H1.out | exact H2.out)).mono ?_) | (with_reducible refine (div_no _ _ _ (by omega) (by omega) (by omega) (by first | exact H1.out | exact H2.out)).mono ?_)); rintro e w' ⟨rfl, rfl⟩))
    go_ret
    first | exact ⟨rfl, B⟩ | exact ⟨ret_bool (decide_eq_false (by omega)), B⟩
  · have r := fun W => right_yes l w h i v p W ok
    obtain ⟨l0, l1, h0, h1, w0, w1, hm, i0, i1, v0, v1, p0, p1⟩ := ok
    obtain ⟨s0, s1⟩ := oc
    clear hm
    unfold shv at r ⊢
    unfold cutv
    go_enter Try.func9, Try.ntmps9
    go_wp2_with fail
    refine (r _).mono ?_
    rintro e wa ⟨rfl, hb⟩
    have XS := ((box_new W _ _).alloc _).bel hb
    have XC := (box_at (show W.heap.size + 1 = (W.alloc _).heap.size by simp) _ _).bel hb
    have B := below_two (((Below.refl W.heap.size W).alloc (Nat.le_refl _) _).alloc (by simp) _) hb
    obtain ⟨c0, c1, c2, c3, c4, c5⟩ := XS.cells6
    obtain ⟨d0, d1⟩ := two_cells XC
    clear hb r XS XC
    go_wp2_with (first | (go_at_call 23; (first | (with_reducible refine (inside_yes _ _ _ _ (by omega) (by omega)).mono ?_) | (with_reducible refine (inside_no _ _ _ _ (by omega)).mono ?_)); rintro e w' ⟨rfl, rfl⟩) | (go_at_call 24; (first | (with_reducible refine (div_no0 _ _ _ (by omega)).mono ?_) | (with_reducible refine (div_yes _ _ _ (by omega) (by omega) (by omega) (by first | exact H1.out | exact H2.out)).mono ?_) | (with_reducible refine (div_no _ _ _ (by omega) (by omega) (by omega) (by first | exact H1.out | exact H2.out)).mono ?_)); rintro e w' ⟨rfl, rfl⟩))
    go_ret
    first | exact ⟨rfl, B⟩ | exact ⟨ret_bool (decide_eq_false (by omega)), B⟩
  · have r := fun W => right_yes l w h i v p W ok
    obtain ⟨l0, l1, h0, h1, w0, w1, hm, i0, i1, v0, v1, p0, p1⟩ := ok
    obtain ⟨s0, s1, q0⟩ := oc
    clear hm
    unfold shv at r ⊢
    unfold cutv
    go_enter Try.func9, Try.ntmps9
    go_wp2_with fail
    refine (r _).mono ?_
    rintro e wa ⟨rfl, hb⟩
    have XS := ((box_new W _ _).alloc _).bel hb
    have XC := (box_at (show W.heap.size + 1 = (W.alloc _).heap.size by simp) _ _).bel hb
    have B := below_two (((Below.refl W.heap.size W).alloc (Nat.le_refl _) _).alloc (by simp) _) hb
    obtain ⟨c0, c1, c2, c3, c4, c5⟩ := XS.cells6
    obtain ⟨d0, d1⟩ := two_cells XC
    clear hb r XS XC
    go_wp2_with (first | (go_at_call 23; (first | (with_reducible refine (inside_yes _ _ _ _ (by omega) (by omega)).mono ?_) | (with_reducible refine (inside_no _ _ _ _ (by omega)).mono ?_)); rintro e w' ⟨rfl, rfl⟩) | (go_at_call 24; (first | (with_reducible refine (div_no0 _ _ _ (by omega)).mono ?_) | (with_reducible refine (div_yes _ _ _ (by omega) (by omega) (by omega) (by first | exact H1.out | exact H2.out)).mono ?_) | (with_reducible refine (div_no _ _ _ (by omega) (by omega) (by omega) (by first | exact H1.out | exact H2.out)).mono ?_)); rintro e w' ⟨rfl, rfl⟩))
    go_ret
    first | exact ⟨rfl, B⟩ | exact ⟨ret_bool (decide_eq_false (by omega)), B⟩
  · have r := fun W => right_yes l w h i v p W ok
    obtain ⟨l0, l1, h0, h1, w0, w1, hm, i0, i1, v0, v1, p0, p1⟩ := ok
    obtain ⟨s0, s1, q0, pl, q1⟩ := oc
    have H1 := Lib.hid q1
    clear q1
    clear hm
    unfold shv at r ⊢
    unfold cutv
    go_enter Try.func9, Try.ntmps9
    go_wp2_with fail
    refine (r _).mono ?_
    rintro e wa ⟨rfl, hb⟩
    have XS := ((box_new W _ _).alloc _).bel hb
    have XC := (box_at (show W.heap.size + 1 = (W.alloc _).heap.size by simp) _ _).bel hb
    have B := below_two (((Below.refl W.heap.size W).alloc (Nat.le_refl _) _).alloc (by simp) _) hb
    obtain ⟨c0, c1, c2, c3, c4, c5⟩ := XS.cells6
    obtain ⟨d0, d1⟩ := two_cells XC
    clear hb r XS XC
    go_wp2_with (first | (go_at_call 23; (first | (with_reducible refine (inside_yes _ _ _ _ (by omega) (by omega)).mono ?_) | (with_reducible refine (inside_no _ _ _ _ (by omega)).mono ?_)); rintro e w' ⟨rfl, rfl⟩) | (go_at_call 24; (first | (with_reducible refine (div_no0 _ _ _ (by omega)).mono ?_) | (with_reducible refine (div_yes _ _ _ (by omega) (by omega) (by omega) (by first | exact H1.out | exact H2.out)).mono ?_) | (with_reducible refine (div_no _ _ _ (by omega) (by omega) (by omega) (by first | exact H1.out | exact H2.out)).mono ?_)); rintro e w' ⟨rfl, rfl⟩))
    go_ret
    first | exact ⟨rfl, B⟩ | exact ⟨ret_bool (decide_eq_false (by omega)), B⟩
  · have r := fun W => right_yes l w h i v p W ok
    obtain ⟨l0, l1, h0, h1, w0, w1, hm, i0, i1, v0, v1, p0, p1⟩ := ok
    obtain ⟨s0, s1, q0, pl, q1⟩ := oc
    have H1 := Lib.hid q1
    clear q1
    clear hm
    unfold shv at r ⊢
    unfold cutv
    go_enter Try.func9, Try.ntmps9
    go_wp2_with fail
    refine (r _).mono ?_
    rintro e wa ⟨rfl, hb⟩
    have XS := ((box_new W _ _).alloc _).bel hb
    have XC := (box_at (show W.heap.size + 1 = (W.alloc _).heap.size by simp) _ _).bel hb
    have B := below_two (((Below.refl W.heap.size W).alloc (Nat.le_refl _) _).alloc (by simp) _) hb
    obtain ⟨c0, c1, c2, c3, c4, c5⟩ := XS.cells6
    obtain ⟨d0, d1⟩ := two_cells XC
    clear hb r XS XC
    go_wp2_with (first | (go_at_call 23; (first | (with_reducible refine (inside_yes _ _ _ _ (by omega) (by omega)).mono ?_) | (with_reducible refine (inside_no _ _ _ _ (by omega)).mono ?_)); rintro e w' ⟨rfl, rfl⟩) | (go_at_call 24; (first | (with_reducible refine (div_no0 _ _ _ (by omega)).mono ?_) | (with_reducible refine (div_yes _ _ _ (by omega) (by omega) (by omega) (by first | exact H1.out | exact H2.out)).mono ?_) | (with_reducible refine (div_no _ _ _ (by omega) (by omega) (by omega) (by first | exact H1.out | exact H2.out)).mono ?_)); rintro e w' ⟨rfl, rfl⟩))
    go_ret
    first | exact ⟨rfl, B⟩ | exact ⟨ret_bool (decide_eq_false (by omega)), B⟩
  · have r := fun W => right_yes l w h i v p W ok
    obtain ⟨l0, l1, h0, h1, w0, w1, hm, i0, i1, v0, v1, p0, p1⟩ := ok
    obtain ⟨s0, s1, q0, pl, q1, q2⟩ := oc
    have H1 := Lib.hid q1
    clear q1
    have H2 := Lib.hid q2
    clear q2
    clear hm
    unfold shv at r ⊢
    unfold cutv
    go_enter Try.func9, Try.ntmps9
    go_wp2_with fail
    refine (r _).mono ?_
    rintro e wa ⟨rfl, hb⟩
    have XS := ((box_new W _ _).alloc _).bel hb
    have XC := (box_at (show W.heap.size + 1 = (W.alloc _).heap.size by simp) _ _).bel hb
    have B := below_two (((Below.refl W.heap.size W).alloc (Nat.le_refl _) _).alloc (by simp) _) hb
    obtain ⟨c0, c1, c2, c3, c4, c5⟩ := XS.cells6
    obtain ⟨d0, d1⟩ := two_cells XC
    clear hb r XS XC
    go_wp2_with (first | (go_at_call 23; (first | (with_reducible refine (inside_yes _ _ _ _ (by omega) (by omega)).mono ?_) | (with_reducible refine (inside_no _ _ _ _ (by omega)).mono ?_)); rintro e w' ⟨rfl, rfl⟩) | (go_at_call 24; (first | (with_reducible refine (div_no0 _ _ _ (by omega)).mono ?_) | (with_reducible refine (div_yes _ _ _ (by omega) (by omega) (by omega) (by first | exact H1.out | exact H2.out)).mono ?_) | (with_reducible refine (div_no _ _ _ (by omega) (by omega) (by omega) (by first | exact H1.out | exact H2.out)).mono ?_)); rintro e w' ⟨rfl, rfl⟩))
    go_ret
    first | exact ⟨rfl, B⟩ | exact ⟨ret_bool (decide_eq_false (by omega)), B⟩
  · have r := fun W => right_yes l w h i v p W ok
    obtain ⟨l0, l1, h0, h1, w0, w1, hm, i0, i1, v0, v1, p0, p1⟩ := ok
    obtain ⟨s0, s1, q0, pl, q1, q2, q3⟩ := oc
    have pr := prod16 s0 (by omega) q0 (by omega)
    obtain ⟨z, hz⟩ : ∃ z, st * pt = z := ⟨_, rfl⟩
    rw [hz] at pr q3
    have H1 := Lib.hid q1
    clear q1
    have H2 := Lib.hid q2
    clear q2
    clear hm
    unfold shv at r ⊢
    unfold cutv
    go_enter Try.func9, Try.ntmps9
    go_wp2_with fail
    refine (r _).mono ?_
    rintro e wa ⟨rfl, hb⟩
    have XS := ((box_new W _ _).alloc _).bel hb
    have XC := (box_at (show W.heap.size + 1 = (W.alloc _).heap.size by simp) _ _).bel hb
    have B := below_two (((Below.refl W.heap.size W).alloc (Nat.le_refl _) _).alloc (by simp) _) hb
    obtain ⟨c0, c1, c2, c3, c4, c5⟩ := XS.cells6
    obtain ⟨d0, d1⟩ := two_cells XC
    clear hb r XS XC
    go_wp2_with (first | (go_at_call 23; (first | (with_reducible refine (inside_yes _ _ _ _ (by omega) (by omega)).mono ?_) | (with_reducible refine (inside_no _ _ _ _ (by omega)).mono ?_)); rintro e w' ⟨rfl, rfl⟩) | (go_at_call 24; (first | (with_reducible refine (div_no0 _ _ _ (by omega)).mono ?_) | (with_reducible refine (div_yes _ _ _ (by omega) (by omega) (by omega) (by first | exact H1.out | exact H2.out)).mono ?_) | (with_reducible refine (div_no _ _ _ (by omega) (by omega) (by omega) (by first | exact H1.out | exact H2.out)).mono ?_)); rintro e w' ⟨rfl, rfl⟩))
    go_ret
    first | exact ⟨rfl, B⟩ | exact ⟨ret_bool (decide_eq_false (by omega)), B⟩

set_option maxHeartbeats 1600000 in
theorem dcut_bad (l w h i v p st pt : Int) (W : World) (b : (-9223372036854775808 ≤ l ∧ l ≤ 9223372036854775807) ∧ (-9223372036854775808 ≤ w ∧ w ≤ 9223372036854775807) ∧ (-9223372036854775808 ≤ h ∧ h ≤ 9223372036854775807)) (hno : ¬ OkI l w h i v p) :
    Calls Try.prog 8 #[shv l w h i v p, cutv st pt] W fun e w' => e = .returned (.bool false) ∧ Below W.heap.size W w' := by
  have c := fun W => dright_no l w h i v p W b hno
  clear hno b
  unfold shv at c ⊢
  unfold cutv
  go_enter Try.func8, Try.ntmps8
  go_wp2_with fail
  refine (c _).mono ?_
  rintro e wa ⟨rfl, hb⟩
  have B := below_two (((Below.refl W.heap.size W).alloc (Nat.le_refl _) _).alloc (by simp) _) hb
  clear hb c
  go_wp2
  go_ret
  exact ⟨rfl, B⟩

set_option maxHeartbeats 3200000 in
theorem dcut_yes (l w h i v p st pt : Int) (W : World) (ok : OkI l w h i v p) (oc : OkC l h i st pt) :
    Calls Try.prog 8 #[shv l w h i v p, cutv st pt] W fun e w' => e = .returned (.bool true) ∧ Below W.heap.size W w' := by
  have r := fun W => dright_yes l w h i v p W ok
  obtain ⟨l0, l1, h0, h1, w0, w1, hm, i0, i1, v0, v1, p0, p1⟩ := ok
  obtain ⟨s0, s1, q0, q1, q2, q3⟩ := oc
  have pl : pt ≤ h := Int.le_of_dvd (by omega) (Int.dvd_of_emod_eq_zero q1)
  have pr := prod16 s0 (by omega) q0 (by omega)
  obtain ⟨z, hz⟩ : ∃ z, st * pt = z := ⟨_, rfl⟩
  rw [hz] at pr q3
  have e0 : (h % pt == 0) = true := by simp; omega
  have e1 : (h % pt != 0) = false := by simp; omega
  clear q1
  have e2 : (i % pt == 0) = true := by simp; omega
  have e3 : (i % pt != 0) = false := by simp; omega
  clear q2
  clear hm
  unfold shv at r ⊢
  unfold cutv
  go_enter Try.func8, Try.ntmps8
  go_wp2_with fail
  refine (r _).mono ?_
  rintro e wa ⟨rfl, hb⟩
  have XS := ((box_new W _ _).alloc _).bel hb
  have XC := (box_at (show W.heap.size + 1 = (W.alloc _).heap.size by simp) _ _).bel hb
  have B := below_two (((Below.refl W.heap.size W).alloc (Nat.le_refl _) _).alloc (by simp) _) hb
  obtain ⟨c0, c1, c2, c3, c4, c5⟩ := XS.cells6
  obtain ⟨d0, d1⟩ := two_cells XC
  clear hb r XS XC
  go_wp2_with fail
  go_ret
  first | exact ⟨rfl, B⟩ | exact ⟨ret_bool (decide_eq_true (by omega)), B⟩

set_option maxHeartbeats 6400000 in
theorem dcut_no (l w h i v p st pt : Int) (W : World) (ok : OkI l w h i v p) (bs : -9223372036854775808 ≤ st ∧ st ≤ 9223372036854775807) (bp : -9223372036854775808 ≤ pt ∧ pt ≤ 9223372036854775807) (oc : ¬ OkC l h i st pt) :
    Calls Try.prog 8 #[shv l w h i v p, cutv st pt] W fun e w' => e = .returned (.bool false) ∧ Below W.heap.size W w' := by
  replace oc := first_noC l h i st pt ok.2.2.1 oc
  rcases oc with oc | oc | oc | oc | oc | oc | oc
  · have r := fun W => dright_yes l w h i v p W ok
    obtain ⟨l0, l1, h0, h1, w0, w1, hm, i0, i1, v0, v1, p0, p1⟩ := ok
    have s0 := oc
    clear oc
    clear hm
    unfold shv at r ⊢
    unfold cutv
    go_enter Try.func8, Try.ntmps8
    go_wp2_with fail
    refine (r _).mono ?_
    rintro e wa ⟨rfl, hb⟩
    have XS := ((box_new W _ _).alloc _).bel hb
    have XC := (box_at (show W.heap.size + 1 = (W.alloc _).heap.size by simp) _ _).bel hb
    have B := below_two (((Below.refl W.heap.size W).alloc (Nat.le_refl _) _).alloc (by simp) _) hb
    obtain ⟨c0, c1, c2, c3, c4, c5⟩ := XS.cells6
    obtain ⟨d0, d1⟩ := two_cells XC
    clear hb r XS XC
    go_wp2_with fail
    go_ret
    first | exact ⟨rfl, B⟩ | exact ⟨ret_bool (decide_eq_false (by omega)), B⟩
  · have r := fun W => dright_yes l w h i v p W ok
    obtain ⟨l0, l1, h0, h1, w0, w1, hm, i0, i1, v0, v1, p0, p1⟩ := ok
    obtain ⟨s0, s1⟩ := oc
    clear hm
    unfold shv at r ⊢
    unfold cutv
    go_enter Try.func8, Try.ntmps8
    go_wp2_with fail
    refine (r _).mono ?_
    rintro e wa ⟨rfl, hb⟩
    have XS := ((box_new W _ _).alloc _).bel hb
    have XC := (box_at (show W.heap.size + 1 = (W.alloc _).heap.size by simp) _ _).bel hb
    have B := below_two (((Below.refl W.heap.size W).alloc (Nat.le_refl _) _).alloc (by simp) _) hb
    obtain ⟨c0, c1, c2, c3, c4, c5⟩ := XS.cells6
    obtain ⟨d0, d1⟩ := two_cells XC
    clear hb r XS XC
    go_wp2_with fail
    go_ret
    first | exact ⟨rfl, B⟩ | exact ⟨ret_bool (decide_eq_false (by omega)), B⟩
  · have r := fun W => dright_yes l w h i v p W ok
    obtain ⟨l0, l1, h0, h1, w0, w1, hm, i0, i1, v0, v1, p0, p1⟩ := ok
    obtain ⟨s0, s1, q0⟩ := oc
    clear hm
    unfold shv at r ⊢
    unfold cutv
    go_enter Try.func8, Try.ntmps8
    go_wp2_with fail
    refine (r _).mono ?_
    rintro e wa ⟨rfl, hb⟩
    have XS := ((box_new W _ _).alloc _).bel hb
    have XC := (box_at (show W.heap.size + 1 = (W.alloc _).heap.size by simp) _ _).bel hb
    have B := below_two (((Below.refl W.heap.size W).alloc (Nat.le_refl _) _).alloc (by simp) _) hb
    obtain ⟨c0, c1, c2, c3, c4, c5⟩ := XS.cells6
    obtain ⟨d0, d1⟩ := two_cells XC
    clear hb r XS XC
    go_wp2_with fail
    go_ret
    first | exact ⟨rfl, B⟩ | exact ⟨ret_bool (decide_eq_false (by omega)), B⟩
  · have r := fun W => dright_yes l w h i v p W ok
    obtain ⟨l0, l1, h0, h1, w0, w1, hm, i0, i1, v0, v1, p0, p1⟩ := ok
    obtain ⟨s0, s1, q0, pl, q1⟩ := oc
    have e0 : (h % pt == 0) = false := by simp; omega
    have e1 : (h % pt != 0) = true := by simp; omega
    clear q1
    clear hm
    unfold shv at r ⊢
    unfold cutv
    go_enter Try.func8, Try.ntmps8
    go_wp2_with fail
    refine (r _).mono ?_
    rintro e wa ⟨rfl, hb⟩
    have XS := ((box_new W _ _).alloc _).bel hb
    have XC := (box_at (show W.heap.size + 1 = (W.alloc _).heap.size by simp) _ _).bel hb
    have B := below_two (((Below.refl W.heap.size W).alloc (Nat.le_refl _) _).alloc (by simp) _) hb
    obtain ⟨c0, c1, c2, c3, c4, c5⟩ := XS.cells6
    obtain ⟨d0, d1⟩ := two_cells XC
    clear hb r XS XC
    go_wp2_with fail
    go_ret
    first | exact ⟨rfl, B⟩ | exact ⟨ret_bool (decide_eq_false (by omega)), B⟩
  · have r := fun W => dright_yes l w h i v p W ok
    obtain ⟨l0, l1, h0, h1, w0, w1, hm, i0, i1, v0, v1, p0, p1⟩ := ok
    obtain ⟨s0, s1, q0, pl, q1⟩ := oc
    have e0 : (h % pt == 0) = false := by simp; omega
    have e1 : (h % pt != 0) = true := by simp; omega
    clear q1
    clear hm
    unfold shv at r ⊢
    unfold cutv
    go_enter Try.func8, Try.ntmps8
    go_wp2_with fail
    refine (r _).mono ?_
    rintro e wa ⟨rfl, hb⟩
    have XS := ((box_new W _ _).alloc _).bel hb
    have XC := (box_at (show W.heap.size + 1 = (W.alloc _).heap.size by simp) _ _).bel hb
    have B := below_two (((Below.refl W.heap.size W).alloc (Nat.le_refl _) _).alloc (by simp) _) hb
    obtain ⟨c0, c1, c2, c3, c4, c5⟩ := XS.cells6
    obtain ⟨d0, d1⟩ := two_cells XC
    clear hb r XS XC
    go_wp2_with fail
    go_ret
    first | exact ⟨rfl, B⟩ | exact ⟨ret_bool (decide_eq_false (by omega)), B⟩
  · have r := fun W => dright_yes l w h i v p W ok
    obtain ⟨l0, l1, h0, h1, w0, w1, hm, i0, i1, v0, v1, p0, p1⟩ := ok
    obtain ⟨s0, s1, q0, pl, q1, q2⟩ := oc
    have e0 : (h % pt == 0) = true := by simp; omega
    have e1 : (h % pt != 0) = false := by simp; omega
    clear q1
    have e2 : (i % pt == 0) = false := by simp; omega
    have e3 : (i % pt != 0) = true := by simp; omega
    clear q2
    clear hm
    unfold shv at r ⊢
    unfold cutv
    go_enter Try.func8, Try.ntmps8
    go_wp2_with fail
    refine (r _).mono ?_
    rintro e wa ⟨rfl, hb⟩
    have XS := ((box_new W _ _).alloc _).bel hb
    have XC := (box_at (show W.heap.size + 1 = (W.alloc _).heap.size by simp) _ _).bel hb
    have B := below_two (((Below.refl W.heap.size W).alloc (Nat.le_refl _) _).alloc (by simp) _) hb
    obtain ⟨c0, c1, c2, c3, c4, c5⟩ := XS.cells6
    obtain ⟨d0, d1⟩ := two_cells XC
    clear hb r XS XC
    go_wp2_with fail
    go_ret
    first | exact ⟨rfl, B⟩ | exact ⟨ret_bool (decide_eq_false (by omega)), B⟩
  · have r := fun W => dright_yes l w h i v p W ok
    obtain ⟨l0, l1, h0, h1, w0, w1, hm, i0, i1, v0, v1, p0, p1⟩ := ok
    obtain ⟨s0, s1, q0, pl, q1, q2, q3⟩ := oc
    have pr := prod16 s0 (by omega) q0 (by omega)
    obtain ⟨z, hz⟩ : ∃ z, st * pt = z := ⟨_, rfl⟩
    rw [hz] at pr q3
    have e0 : (h % pt == 0) = true := by simp; omega
    have e1 : (h % pt != 0) = false := by simp; omega
    clear q1
    have e2 : (i % pt == 0) = true := by simp; omega
    have e3 : (i % pt != 0) = false := by simp; omega
    clear q2
    clear hm
    unfold shv at r ⊢
    unfold cutv
    go_enter Try.func8, Try.ntmps8
    go_wp2_with fail
    refine (r _).mono ?_
    rintro e wa ⟨rfl, hb⟩
    have XS := ((box_new W _ _).alloc _).bel hb
    have XC := (box_at (show W.heap.size + 1 = (W.alloc _).heap.size by simp) _ _).bel hb
    have B := below_two (((Below.refl W.heap.size W).alloc (Nat.le_refl _) _).alloc (by simp) _) hb
    obtain ⟨c0, c1, c2, c3, c4, c5⟩ := XS.cells6
    obtain ⟨d0, d1⟩ := two_cells XC
    clear hb r XS XC
    go_wp2_with fail
    go_ret
    first | exact ⟨rfl, B⟩ | exact ⟨ret_bool (decide_eq_false (by omega)), B⟩

end Go.Proofs.Ytledjabhbakdeaa
