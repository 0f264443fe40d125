/-
  Contract of Table: cosines and sines by place and pair, in a new map; what was in memory stays.
-/
import Derived.Test.YtbggklhnmkiamaaDoorPairMap
import Derived.Test.YtbggklhnmkiamaaDoorPairs
namespace Go.Proofs.YtbggklhnmkiamaaDoor
open Go.RowKit Go.Maps
set_option linter.unusedVariables false

theorem in_table (n : Int) (w : World) :
    Calls Tryd.prog 26 #[.int .i64 n] w fun e w' => e = .returned (.bool (decide (0 ≤ n ∧ n ≤ 256))) ∧ w = w' := by
  by_cases c0 : 0 ≤ n
  · by_cases c1 : n ≤ 256
    · go_enter Tryd.func26, Tryd.ntmps26
      go_wp2
      go_ret
      exact ⟨ret_bool (by simp; omega), rfl⟩
    · go_enter Tryd.func26, Tryd.ntmps26
      go_wp2
      go_ret
      exact ⟨ret_bool (by simp; omega), rfl⟩
  · go_enter Tryd.func26, Tryd.ntmps26
    go_wp2
    go_ret
    exact ⟨ret_bool (by simp; omega), rfl⟩
theorem in_yes (n : Int) (h : 0 ≤ n ∧ n ≤ 256) (w : World) : Calls Tryd.prog 26 #[.int .i64 n] w fun e w' => e = .returned (.bool true) ∧ w = w' := by
  have := in_table n w; rwa [decide_eq_true h] at this
theorem in_no (n : Int) (h : ¬ (0 ≤ n ∧ n ≤ 256)) (w : World) : Calls Tryd.prog 26 #[.int .i64 n] w fun e w' => e = .returned (.bool false) ∧ w = w' := by
  have := in_table n w; rwa [decide_eq_false h] at this

theorem table_no (p q : Int) (h : ¬ (0 ≤ p ∧ p ≤ 256) ∨ ¬ (0 ≤ q ∧ q ≤ 256)) (w : World) :
    Calls Tryd.prog 18 #[.int .i64 p, .int .i64 q] w fun e w' => e = .returned (.tuple #[.map none, .int .i64 2]) ∧ w = w' := by
  by_cases h1 : 0 ≤ p ∧ p ≤ 256
  · have h2 : ¬ (0 ≤ q ∧ q ≤ 256) := by omega
    have c1 := in_yes p h1
    have c2 := in_no q h2
    clear h h1 h2
    go_enter Tryd.func18, Tryd.ntmps18
    go_wp2_with (first
      | (go_at_call 26; (with_reducible refine (c1 _).mono ?_); rintro e w' ⟨rfl, rfl⟩)
      | (go_at_call 26; (with_reducible refine (c2 _).mono ?_); rintro e w' ⟨rfl, rfl⟩))
    go_ret2
    exact ⟨rfl, rfl⟩
  · have c1 := in_no p h1
    clear h h1
    go_enter Tryd.func18, Tryd.ntmps18
    go_wp2_with (first
      | (go_at_call 26; (with_reducible refine (c1 _).mono ?_); rintro e w' ⟨rfl, rfl⟩))
    go_ret2
    exact ⟨rfl, rfl⟩

/-- the cosine and the sine of a pair's angle at a place -/
def fC (p i : Nat) : Int := cosi (ang p i)
def fS (p i : Nat) : Int := sine (ang p i)

set_option maxHeartbeats 1000000 in
theorem table_yes (P Q : Nat) (hP : P ≤ 256) (hQ : Q ≤ 256) (w : World) (hT : STab w) :
    Calls Tryd.prog 18 #[.int .i64 P, .int .i64 Q] w fun e w' => (∃ b D, e = .returned (.tuple #[.map (some b), .int .i64 0]) ∧ Own2 w' b (P * Q) D ∧ TabD fC fS Q P 0 D) ∧ Below w.heap.size w w' := by
  have c1 := in_yes (P : Int) (by omega)
  have c2 := in_yes (Q : Int) (by omega)
  have hmm := run_makeMap_hint
  have hm : 0 ≤ (P : Int) * (Q : Int) ∧ (P : Int) * (Q : Int) ≤ 256 * 256 := ⟨Int.mul_nonneg (by omega) (by omega), Int.mul_le_mul (by omega) (by omega) (by omega) (by decide)⟩
  go_enter Tryd.func18, Tryd.ntmps18
  go_wp2_with (first
    | (go_at_call 26; (with_reducible refine (c1 _).mono ?_); rintro e w' ⟨rfl, rfl⟩)
    | (go_at_call 26; (with_reducible refine (c2 _).mono ?_); rintro e w' ⟨rfl, rfl⟩))
  clear c1 c2 hmm
  go_loopw [22] (fun x wr => ∃ (p : Nat) (D : DataW Unit), p ≤ P ∧ x = .int .i64 p ∧ Hid (Own2 wr w.heap.size (p * Q) D) ∧ Below w.heap.size w wr ∧ Hid (TabD fC fS Q p 0 D)) (fun x _ => P - (intOf x).toNat)
  case atStart => exact ⟨0, .map [], by omega, rfl, Lib.hid (by rw [Nat.zero_mul]; exact own2_made w rfl), (Below.refl _ _).alloc (Nat.le_refl _) _, Lib.hid (tabD_start _ _ _)⟩
  case round =>
    obtain ⟨p, D, hp, rfl, hown, hbel, htab⟩ := hrel
    by_cases hlt : p < P
    · go_wp2
      go_loopw [26] (fun x wq => ∃ (i : Nat) (D : DataW Unit), i ≤ Q ∧ x = .int .i64 i ∧ Hid (Own2 wq w.heap.size (p * Q + i) D) ∧ Below w.heap.size w wq ∧ Hid (TabD fC fS Q p i D)) (fun x _ => Q - (intOf x).toNat)
      case atStart => exact ⟨0, D, by omega, rfl, hown, hbel, htab⟩
      case round =>
        obtain ⟨i, E, hi, rfl, hown2, hbel2, htab2⟩ := hrel
        by_cases hlt2 : i < Q
        · have hTr := hT.below hbel2
          have hrow := row_any p i (by omega) (by omega) wr hTr
          have hkey := key_mk (p := p) (i := i) (by omega) (by omega)
          have hpq : p * Q ≤ 256 * 256 := Nat.mul_le_mul (by omega) hQ
          have hst := Lib.hid (tabD_step htab2.out hlt2 (by omega) (by omega))
          have e1 : fC p i = cosi (ang p i) := rfl
          have e2 : fS p i = sine (ang p i) := rfl
          rw [e1, e2] at hst
          clear e1 e2
          generalize cosi (ang p i) = c at hrow hst
          generalize sine (ang p i) = s at hrow hst
          clear hTr hT hm hown hbel htab htab2
          go_wp2_with fail
          refine hrow.mono ?_
          rintro e wa ⟨rfl, hb1⟩
          have ho := hown2.out.below hb1 hown2.out.lt
          have hbw := below_two hbel2 hb1
          clear hrow hown2 hbel2 hb1
          go_wp2_with (at_mapUpdate; refine wpList_mapUpdate_own _ rfl _ _ _ 33 rfl 38 36 law2 Tryd.underlying33 rowElem w.heap.size (p * Q + i) E rfl ho (by unfold maxLen; omega) _ _ _ rfl rfl hkey _ [] (rowElem_mk c s) ?_; intro w1 hown1 hgrow1)
          have hbz := hbw.grown hgrow1 hbw.size (fun k hk => by cases hk; exact Nat.le_refl _)
          have ho1 : Hid (Own2 w1 w.heap.size (p * Q + (i + 1)) (E.put (keyP p i) (rowD c s))) := Lib.hid hown1
          clear hgrow1 hbw ho hkey hown1
          go_roundw
          case rel => exact ⟨i + 1, _, by omega, by go_num, ho1, hbz, hst⟩
          case measure => simp [intOf]; omega
        · obtain rfl : i = Q := by omega
          have hn := Lib.hid (tabD_next htab2.out)
          have ho1 : Hid (Own2 wr w.heap.size ((p + 1) * i) E) := Lib.hid (by rw [Nat.succ_mul]; exact hown2.out)
          clear htab2 hown2 hT hown htab hbel
          go_wp2
          go_roundw
          case rel => exact ⟨p + 1, E, by omega, by go_num, ho1, hbel2, hn⟩
          case measure => simp [intOf]; omega
    · obtain rfl : p = P := by omega
      clear hT hm
      go_wp2
      go_ret2
      exact ⟨⟨_, D, rfl, hown.out, htab.out⟩, hbel⟩

end Go.Proofs.YtbggklhnmkiamaaDoor
