/-
  How many workers, where a worker is, what each stage and part has: the code's answers.
-/
import Derived.Test.YtledjabhbakdeaaCut10
import Derived.Test.YtledjabhbakdeaaSpans
import Derived.Deep.CutRange
import Derived.BigRegion
namespace Go.Proofs.Ytledjabhbakdeaa
open Go.RowKit
set_option linter.unusedVariables false

/-- what a call of slice.Right answers, whatever stands in memory -/
def SaysR (l w h i v p st pt : Int) (b : Bool) : Prop := ∀ W : World, Calls Try.prog 9 #[shv l w h i v p, cutv st pt] W fun e w' => e = .returned (.bool b) ∧ Below W.heap.size W w'
/-- a pair of numbers -/
abbrev twov (a b : Int) : Value := .agg #[.int .i64 a, .int .i64 b]

theorem right_any10 (l w h i v p st pt : Int) (bl : -9223372036854775808 ≤ l ∧ l ≤ 9223372036854775807) (bw : -9223372036854775808 ≤ w ∧ w ≤ 9223372036854775807) (bh : -9223372036854775808 ≤ h ∧ h ≤ 9223372036854775807) (bs : -9223372036854775808 ≤ st ∧ st ≤ 9223372036854775807) (bp : -9223372036854775808 ≤ pt ∧ pt ≤ 9223372036854775807) :
    (OkI l w h i v p ∧ OkC l h i st pt ∧ SaysR l w h i v p st pt true) ∨ (¬ (OkI l w h i v p ∧ OkC l h i st pt) ∧ SaysR l w h i v p st pt false) := by
  by_cases ok : OkI l w h i v p
  · by_cases oc : OkC l h i st pt
    · exact .inl ⟨ok, oc, fun W => sright_yes l w h i v p st pt W ok oc⟩
    · exact .inr ⟨fun hh => oc hh.2, fun W => sright_no l w h i v p st pt W ok bs bp oc⟩
  · exact .inr ⟨fun hh => ok hh.1, fun W => sright_bad l w h i v p st pt W ⟨bl, bw, bh⟩ ok⟩

theorem workers_no (l w h i v p st pt : Int) (W : World) (r : SaysR l w h i v p st pt false) :
    Calls Try.prog 10 #[shv l w h i v p, cutv st pt] W fun e w' => e = .returned (.int .i64 0) ∧ Below W.heap.size W w' := by
  unfold SaysR shv cutv at r
  unfold shv cutv
  go_enter Try.func10, Try.ntmps10
  go_wp2_with fail
  refine (r _).mono ?_
  rintro e wa ⟨rfl, hb⟩
  have B := below_two (((Below.refl W.heap.size W).alloc (Nat.le_refl _) _).alloc (by simp) _) hb
  clear hb r
  go_wp2
  go_ret
  exact ⟨rfl, B⟩
theorem workers_yes (l w h i v p st pt : Int) (W : World) (z : Nat) (hz : st * pt = z) (h64 : z ≤ 64) (r : SaysR l w h i v p st pt true) :
    Calls Try.prog 10 #[shv l w h i v p, cutv st pt] W fun e w' => e = .returned (.int .i64 z) ∧ Below W.heap.size W w' := by
  unfold SaysR shv cutv at r
  unfold shv cutv
  have z0 : (0 : Int) ≤ z := by omega
  have z1 : (z : Int) ≤ 64 := by omega
  go_enter Try.func10, Try.ntmps10
  go_wp2_with fail
  refine (r _).mono ?_
  rintro e wa ⟨rfl, hb⟩
  have B := below_two (((Below.refl W.heap.size W).alloc (Nat.le_refl _) _).alloc (by simp) _) hb
  have XC := (box_at (show W.heap.size + 1 = (W.alloc _).heap.size by simp) _ _).bel hb
  obtain ⟨d0, d1⟩ := two_cells XC
  clear hb r XC
  go_wp2
  go_ret
  exact ⟨rfl, B⟩

theorem portion_bad (l w h i v p st pt j n m : Int) (W : World) (r : SaysR l w h i v p st pt false) :
    Calls Try.prog 25 #[shv l w h i v p, cutv st pt, .int .i64 j, .int .i64 n, .int .i64 m] W fun e w' => e = .returned (.tuple #[twov 0 0, .int .i64 100]) ∧ Below W.heap.size W w' := by
  unfold SaysR shv cutv at r
  unfold shv cutv
  go_enter Try.func25, Try.ntmps25
  go_wp2_with fail
  refine (r _).mono ?_
  rintro e wa ⟨rfl, hb⟩
  have B := below_two ((((Below.refl W.heap.size W).alloc (Nat.le_refl _) _).alloc (by simp) _).alloc (by simp; omega) _) hb
  have XC := (box_at (show W.heap.size + 1 + 1 = ((W.alloc _).alloc _).heap.size by simp) 29 #[Value.int .i64 0, .int .i64 0]).bel hb
  obtain ⟨d0, d1⟩ := two_cells XC
  have f0 := XC.frozen 0
  have f1 := XC.frozen 1
  clear hb r XC
  go_wp2
  refine bodyPost_ret (v := .tuple #[twov 0 0, .int .i64 100]) (by simp [results, Try.results25, go_sem, d0, d1]) rfl ⟨rfl, ?_⟩
  repeat (refine Below.setCell ?_ (by simp; omega) _)
  exact B
theorem portion_arg (l w h i v p st pt j n m : Int) (W : World) (r : SaysR l w h i v p st pt true) (hm : 1 ≤ m ∧ m ≤ 16) (hj : j < 0 ∨ m ≤ j) :
    Calls Try.prog 25 #[shv l w h i v p, cutv st pt, .int .i64 j, .int .i64 n, .int .i64 m] W fun e w' => e = .returned (.tuple #[twov 0 0, .int .i64 2]) ∧ Below W.heap.size W w' := by
  unfold SaysR shv cutv at r
  unfold shv cutv
  obtain ⟨m0, m1⟩ := hm
  go_enter Try.func25, Try.ntmps25
  go_wp2_with fail
  refine (r _).mono ?_
  rintro e wa ⟨rfl, hb⟩
  have B := below_two ((((Below.refl W.heap.size W).alloc (Nat.le_refl _) _).alloc (by simp) _).alloc (by simp; omega) _) hb
  have XC := (box_at (show W.heap.size + 1 + 1 = ((W.alloc _).alloc _).heap.size by simp) 29 #[Value.int .i64 0, .int .i64 0]).bel hb
  obtain ⟨d0, d1⟩ := two_cells XC
  have f0 := XC.frozen 0
  have f1 := XC.frozen 1
  clear hb r XC
  go_wp2_with (go_at_call 23; (with_reducible refine (inside_no _ _ _ _ (by omega)).mono ?_); rintro e w' ⟨rfl, rfl⟩)
  refine bodyPost_ret (v := .tuple #[twov 0 0, .int .i64 2]) (by simp [results, Try.results25, go_sem, d0, d1]) rfl ⟨rfl, ?_⟩
  repeat (refine Below.setCell ?_ (by simp; omega) _)
  exact B
set_option maxHeartbeats 800000 in
theorem portion_yes (l w h i v p st pt : Int) (j n m : Nat) (W : World) (r : SaysR l w h i v p st pt true) (hm : m ≤ 16) (hj : j < m) (hn : n ≤ 256) :
    Calls Try.prog 25 #[shv l w h i v p, cutv st pt, .int .i64 j, .int .i64 n, .int .i64 m] W fun e w' => e = .returned (.tuple #[twov (spanAt n m j) (spanAt n m (j + 1)), .int .i64 0]) ∧ Below W.heap.size W w' := by
  unfold SaysR shv cutv at r
  unfold shv cutv
  obtain ⟨z, hz⟩ : ∃ z, z = j * n := ⟨_, rfl⟩
  obtain ⟨y, hy⟩ : ∃ y, y = (j + 1) * n := ⟨_, rfl⟩
  have e1 : (j : Int) * (n : Int) = (z : Int) := by rw [hz]; push_cast; rfl
  have e2 : ((j : Int) + 1) * (n : Int) = (y : Int) := by rw [hy]; push_cast; rfl
  have z1 : z ≤ 16 * 256 := by rw [hz]; exact Nat.mul_le_mul (by omega) hn
  have y1 : y ≤ 16 * 256 := by rw [hy]; exact Nat.mul_le_mul (by omega) hn
  obtain ⟨a, ha⟩ : ∃ a, a = z / m := ⟨_, rfl⟩
  obtain ⟨b, hb⟩ : ∃ b, b = y / m := ⟨_, rfl⟩
  have e3 : (z : Int) / (m : Int) = (a : Int) := by rw [ha]; push_cast; rfl
  have e4 : (y : Int) / (m : Int) = (b : Int) := by rw [hb]; push_cast; rfl
  have a1 : a ≤ z := by rw [ha]; exact Nat.div_le_self z m
  have b1 : b ≤ y := by rw [hb]; exact Nat.div_le_self y m
  have hs : spanAt n m j = a := by unfold spanAt; rw [← hz, ha]
  have hs2 : spanAt n m (j + 1) = b := by unfold spanAt; rw [← hy, hb]
  rw [hs, hs2]
  have hne : ¬ (m : Int) = 0 := by omega
  clear hz hy ha hb hs hs2
  go_enter Try.func25, Try.ntmps25
  go_wp2_with fail
  refine (r _).mono ?_
  rintro e wa ⟨rfl, hb⟩
  have B := below_two ((((Below.refl W.heap.size W).alloc (Nat.le_refl _) _).alloc (by simp) _).alloc (by simp; omega) _) hb
  have XC := (box_at (show W.heap.size + 1 + 1 = ((W.alloc _).alloc _).heap.size by simp) 29 #[Value.int .i64 0, .int .i64 0]).bel hb
  obtain ⟨d0, d1⟩ := two_cells XC
  have f0 := XC.frozen 0
  have f1 := XC.frozen 1
  clear hb r XC
  go_upto_region 5 with (go_at_call 23; (with_reducible refine (inside_yes _ _ _ _ (by omega) (by omega)).mono ?_); rintro e w' ⟨rfl, rfl⟩)
  go_region
  go_wp2
  refine bodyPost_ret (v := .tuple #[twov a b, .int .i64 0]) (by simp [results, Try.results25, go_sem, d0, d1]) rfl ⟨rfl, ?_⟩
  repeat (first | refine Below.setCell ?_ (by simp; omega) _ | refine Below.drew ?_)
  exact B

end Go.Proofs.Ytledjabhbakdeaa
