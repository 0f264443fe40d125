/-
  The code's closure that grows numbers.
-/
import Derived.Test.YtgbbfmpofmeadaaSeed
namespace Go.Proofs.Ytgbbfmpofmeadaa
open Go.RowKit
set_option linter.unusedVariables false

set_option maxHeartbeats 1600000 in
set_option maxRecDepth 100000 in
theorem grow1_true (c y : Nat) (w : World) (hc : Box w c 36 #[.int .u64 (y : Nat)]) :
    Calls Try.prog 17 #[.bool true, .pointer (some ⟨c, 0, none⟩)] w fun e w' => e = .returned (.int .i8 (numK true (nxt y))) ∧ w' = w.setCell ⟨c, 0, none⟩ (.int .u64 (nxt y : Nat)) := by
  have c0 : w.cell? ⟨c, 0, none⟩ = some (.int .u64 (y : Nat)) := hc.cell 0
  have f0 := hc.frozen 0
  have h1 := mulK_eq y
  have h2 := addK y
  obtain ⟨bb, hbb⟩ : ∃ bb : Nat, nxt y / 72057594037927936 = bb := ⟨_, Eq.refl _⟩
  have hb := top_le _ (nxt_lt y)
  rw [hbb] at hb
  have hNG := numK_true _ _ hbb
  have hbd := numK_bd true (nxt y) (nxt_lt y)
  have hdiv := top_cast _ _ hbb
  clear hbb
  generalize mulK y = m at h1 h2
  generalize numK true (nxt y) = res at *
  generalize nxt y = z at *
  obtain ⟨tt, htt⟩ : ∃ tt : Int, ((bb : Int) - 128).tdiv 16 = tt := ⟨_, Eq.refl _⟩
  rw [htt] at hNG
  have hbt : -128 ≤ tt + 16 ∧ tt + 16 ≤ 127 := by omega
  have HNG := Lib.hid hNG
  clear hc hNG hbd
  go_enter Try.func17, Try.ntmps17
  go_wp2
  go_ret
  exact ⟨ret_int HNG.out.symm, rfl⟩

set_option maxHeartbeats 1600000 in
set_option maxRecDepth 100000 in
theorem grow1_false (c y : Nat) (w : World) (hc : Box w c 36 #[.int .u64 (y : Nat)]) :
    Calls Try.prog 17 #[.bool false, .pointer (some ⟨c, 0, none⟩)] w fun e w' => e = .returned (.int .i8 (numK false (nxt y))) ∧ w' = w.setCell ⟨c, 0, none⟩ (.int .u64 (nxt y : Nat)) := by
  have c0 : w.cell? ⟨c, 0, none⟩ = some (.int .u64 (y : Nat)) := hc.cell 0
  have f0 := hc.frozen 0
  have h1 := mulK_eq y
  have h2 := addK y
  obtain ⟨bb, hbb⟩ : ∃ bb : Nat, nxt y / 72057594037927936 = bb := ⟨_, Eq.refl _⟩
  have hb := top_le _ (nxt_lt y)
  rw [hbb] at hb
  have hNG := numK_false _ _ hbb
  have hbd := numK_bd false (nxt y) (nxt_lt y)
  have hdiv := top_cast _ _ hbb
  clear hbb
  generalize mulK y = m at h1 h2
  generalize numK false (nxt y) = res at *
  generalize nxt y = z at *
  have hbt : -128 ≤ (bb : Int) - 128 ∧ (bb : Int) - 128 ≤ 127 := by omega
  have HNG := Lib.hid hNG
  clear hc hNG hbd
  go_enter Try.func17, Try.ntmps17
  go_wp2
  go_ret
  exact ⟨ret_int HNG.out.symm, rfl⟩

end Go.Proofs.Ytgbbfmpofmeadaa
