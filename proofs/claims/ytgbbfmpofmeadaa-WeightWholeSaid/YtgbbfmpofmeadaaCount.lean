/-
  The code's Count.
-/
import Derived.Test.YtgbbfmpofmeadaaShape
namespace Go.Proofs.Ytgbbfmpofmeadaa
open Go.RowKit
set_option linter.unusedVariables false

set_option maxHeartbeats 1600000 in
theorem count_yes (s : Sz) (W : World) (ok : s.Ok) :
    Calls Try.prog 12 #[s.val] W fun e w' => e = .returned (.int .i64 (cnt s : Nat)) ∧ Below W.heap.size W w' := by
  have hr := fun W => right_yes s.l s.w s.h s.i s.v s.p W ok
  obtain ⟨l, w, h, i, v, p⟩ := s
  obtain ⟨hl, hh, hw, hi, hv, hp⟩ := ok.bd
  simp only at hl hh hw hi hv hp hr
  have a1 := mul_bd hv.2 hw.2
  have a2 := mul_bd hw.2 hw.2
  have a3 := mul_bd hi.2 hw.2
  have a4 := mul_bd hl.2 (show 2 * w + 4 * (w * w) + 2 * (i * w) ≤ 131328 by omega)
  have q1 : 2 * (v : Int) * w = 2 * ((v * w : Nat) : Int) := by push_cast; rw [Int.mul_assoc]
  have q2 : 4 * (w : Int) * w = 4 * ((w * w : Nat) : Int) := by push_cast; rw [Int.mul_assoc]
  have q3 : 2 * (i : Int) * w = 2 * ((i * w : Nat) : Int) := by push_cast; rw [Int.mul_assoc]
  unfold cnt
  simp only
  generalize v * w = x1 at *
  generalize w * w = x2 at *
  generalize i * w = x3 at *
  have q4 : (l : Int) * (2 * w + 4 * x2 + 2 * x3) = ((l * (2 * w + 4 * x2 + 2 * x3) : Nat) : Int) := by push_cast; rfl
  generalize l * (2 * w + 4 * x2 + 2 * x3) = x4 at *
  have b1 : (0 : Int) ≤ (x4 : Int) ∧ (x4 : Int) ≤ 2101248 := by omega
  clear ok
  go_enter Try.func12, Try.ntmps12
  go_wp2_with (go_at_call 15; refine (hr _).mono ?_; rintro e w1 ⟨rfl, hb⟩; obtain ⟨hc, hf⟩ := bcell hb)
  go_ret
  exact ⟨ret_int (by push_cast; omega), ((Below.refl _ _).alloc (Nat.le_refl _) _).trans (hb.mono (by simp))⟩
theorem count_no (l w h i v p : Int) (W : World) (b : (-9223372036854775808 ≤ l ∧ l ≤ 9223372036854775807) ∧ (-9223372036854775808 ≤ w ∧ w ≤ 9223372036854775807) ∧ (-9223372036854775808 ≤ h ∧ h ≤ 9223372036854775807)) (hno : ¬ OkI l w h i v p) :
    Calls Try.prog 12 #[shv l w h i v p] W fun e w' => e = .returned (.int .i64 0) ∧ Below W.heap.size W w' := by
  have hr := fun W => right_no l w h i v p W b hno
  clear b hno
  go_enter Try.func12, Try.ntmps12
  go_wp2_with (go_at_call 15; refine (hr _).mono ?_; rintro e w1 ⟨rfl, hb⟩; obtain ⟨hc, hf⟩ := bcell hb)
  go_ret
  exact ⟨rfl, ((Below.refl _ _).alloc (Nat.le_refl _) _).trans (hb.mono (by simp))⟩

end Go.Proofs.Ytgbbfmpofmeadaa
