import Derived.Test.YtoeihigdndkjeaaGreatDoorJ11
/-
  The document's Rows: its contract.
-/
namespace Go.Proofs.YtoeihigdndkjeaaGreatDoor
open Go.RowKit
set_option linter.unusedVariables false

set_option maxHeartbeats 1600000 in
theorem doc_rows (s : Sz) (ok : s.Ok) (w : World) :
    Calls Tryz.prog 67 #[s.val] w fun e w' => (∃ a cap, e = .returned (.slice a (8 * s.l + 3 : Nat) cap) ∧ RowsAt w' a (8 * s.l + 3) (rowsL s)) ∧ Below w.heap.size w w' := by
  obtain ⟨hl, hh, hw, hi, hv, hp⟩ := ok.bd
  have a1 := mul_bd hv.2 hw.2
  have a2 := mul_bd hw.2 hw.2
  have a3 := mul_bd hi.2 hw.2
  have LEN := Lib.hid (rowsL_len s)
  have q1 : (s.v : Int) * s.w = ((s.v * s.w : Nat) : Int) := by push_cast; rfl
  have q2 : (s.w : Int) * s.w = ((s.w * s.w : Nat) : Int) := by push_cast; rfl
  have q3 : (s.i : Int) * s.w = ((s.i * s.w : Nat) : Int) := by push_cast; rfl
  have q4 : (s.w : Int) * s.i = ((s.w * s.i : Nat) : Int) := by push_cast; rfl
  have a4 := mul_bd hw.2 hi.2
  have R0 : Hid (rowsK s 0 = [(false, s.v * s.w)]) := Lib.hid rfl
  have RB : Hid (blk7 s = [(true, s.w), (false, s.w * s.w), (false, s.w * s.w), (false, s.w * s.w), (false, s.w * s.w), (true, s.w), (false, s.i * s.w), (false, s.w * s.i)]) := Lib.hid rfl
  have RK : Hid (∀ k, rowsK s (k + 1) = rowsK s k ++ blk7 s) := Lib.hid (rowsK_succ s)
  have RL : Hid (rowsL s = rowsK s s.l ++ [(true, s.w), (false, s.v * s.w)]) := Lib.hid rfl
  have RN : Hid (∀ k, (rowsK s k).length = 8 * k + 1) := Lib.hid (rowsK_len s)
  generalize rowsK s = RR at *
  generalize rowsL s = RA at *
  generalize blk7 s = B7 at *
  obtain ⟨l, W, h, i, v, p⟩ := s
  simp only at *
  generalize v * W = x1 at *
  generalize W * W = x2 at *
  generalize i * W = x3 at *
  generalize W * i = x4 at *
  clear ok hh hp
  go_enter Tryz.func67, Tryz.ntmps67
  go_wp2_with fail
  go_loopw [3, 4] (fun v' i' wr => ∃ k : Nat, k ≤ l ∧ i' = .int .i64 k ∧ Hid (wr.ownsRow (w.heap.size + 1) 140 2 v' (8 * k + 1) ((RR k).flatMap rcell)) ∧ Below (w.heap.size + 1) (w.alloc (.cells #[.int .i64 l, .int .i64 W, .int .i64 h, .int .i64 i, .int .i64 v, .int .i64 p] 45)) wr) (fun _ i' _ => l - (intOf i').toNat)
  case atStart =>
    refine ⟨0, by omega, rfl, Lib.hid ?_, (Below.refl _ _).alloc (by simp) _⟩
    rw [R0.out]
    have h0 := World.ownsRow_lit (e := 140) (size := 2) (base := w.heap.size + 1) (w.alloc (.cells #[.int .i64 l, .int .i64 W, .int .i64 h, .int .i64 i, .int .i64 v, .int .i64 p] 45)) #[.bool false, .int .i64 (x1 : Nat)] 1 (by simp) (by unfold maxLen; omega) rfl
    rw [World.size_alloc] at h0
    exact h0
  case round =>
    obtain ⟨k, hk, rfl, hown, hbel⟩ := hrel
    have cc : ∀ o, wr.cell? ⟨w.heap.size, o, none⟩ = (w.alloc (.cells #[.int .i64 l, .int .i64 W, .int .i64 h, .int .i64 i, .int .i64 v, .int .i64 p] 45)).cell? ⟨w.heap.size, o, none⟩ := fun o => hbel.cell (p := ⟨w.heap.size, o, none⟩) (by simp)
    have hsz : w.heap.size + 1 ≤ wr.heap.size := by have := hbel.size; simpa using this
    by_cases hlt : k < l
    · obtain ⟨v2, w2, hrun, hown2, hg⟩ := run_append_rows wr (w.heap.size + 1) _ (8 * k + 1) 8 (RR k) B7 #[.bool true, .int .i64 W, .bool false, .int .i64 x2, .bool false, .int .i64 x2, .bool false, .int .i64 x2, .bool false, .int .i64 x2, .bool true, .int .i64 W, .bool false, .int .i64 x3, .bool false, .int .i64 x4] (by rw [RB.out]; rfl) hown.out (by rw [RB.out]; rfl) (by omega) (by omega) (by omega)
      have HO : Hid (w2.ownsRow (w.heap.size + 1) 140 2 v2 (8 * (k + 1) + 1) ((RR (k + 1)).flatMap rcell)) := Lib.hid (by rw [RK.out, show 8 * (k + 1) + 1 = 8 * k + 1 + 8 by omega]; exact hown2)
      have HB := Lib.hid (hbel.grown hg (by omega) (fun b hb => (hown.out.lt b hb).1))
      clear hown2 hg
      go_wp2_with (at_builtin; refine wpList_append_at (by rfl) _ _ _ (by rfl) _ _ (by rfl) (by rfl) hrun ?_)
      clear hrun cc
      go_roundw
      case rel => exact ⟨k + 1, by omega, by go_num, HO, HB.out⟩
      case measure => simp [intOf]; omega
    · obtain rfl : k = l := by omega
      obtain ⟨v2, w2, hrun, hown2, hg⟩ := run_append_rows wr (w.heap.size + 1) _ (8 * k + 1) 2 (RR k) [(true, W), (false, x1)] #[.bool true, .int .i64 W, .bool false, .int .i64 x1] rfl hown.out rfl (by omega) (by omega) (by omega)
      have HB := Lib.hid (hbel.grown hg (by omega) (fun b hb => (hown.out.lt b hb).1))
      rw [← RL.out] at hown2
      obtain ⟨a, cap, hv2, hR, _⟩ := rowsAt_of_own hown2 (by omega)
      subst hv2
      have HR := Lib.hid hR
      clear hown2 hg hR
      go_wp2_with (at_builtin; refine wpList_append_at (by rfl) _ _ _ (by rfl) _ _ (by rfl) (by rfl) hrun ?_)
      go_ret
      exact ⟨⟨a, cap, rfl, HR.out⟩, ((Below.refl _ _).alloc (Nat.le_refl _) _).trans (HB.out.mono (by omega))⟩

end Go.Proofs.YtoeihigdndkjeaaGreatDoor
