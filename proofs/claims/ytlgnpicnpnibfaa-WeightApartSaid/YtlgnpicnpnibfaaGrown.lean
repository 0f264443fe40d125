/-
  The document's Grown: the numbers that grow out of a seed.
-/
import Derived.Test.YtlgnpicnpnibfaaDocRows
import Derived.Test.YtlgnpicnpnibfaaAppRow
import Derived.Test.YtlgnpicnpnibfaaSeed
import Derived.IntWalk
namespace Go.Proofs.Ytlgnpicnpnibfaa
open Go.RowKit
set_option linter.unusedVariables false

set_option maxHeartbeats 3200000 in
set_option maxRecDepth 100000 in
theorem doc_grown (s : Sz) (ok : s.Ok) (x : Nat) (hx : x < 18446744073709551616) (w : World) :
    Calls Try.prog 23 #[s.val, .int .u64 x] w fun e w' => (∃ v, e = .returned v ∧ w'.ownsRow w.heap.size 55 1 v (cnt s) ((grownL s x).map (.int .i8))) ∧ Below w.heap.size w w' := by
  have rw7 := fun W => doc_rows s ok W
  have hl := ok.bd.1
  have HOK := Lib.hid ok
  have HX := Lib.hid hx
  clear ok hx
  unfold Sz.val at rw7 ⊢
  go_enter Try.func23, Try.ntmps23
  go_wp2_with fail
  refine (rw7 _).mono ?_
  rintro e wa ⟨⟨ra, rcap, rfl, hR⟩, hb0⟩
  have hb := ((Below.refl w.heap.size w).alloc (Nat.le_refl _) (.cells #[.int .i64 s.l, .int .i64 s.w, .int .i64 s.h, .int .i64 s.i, .int .i64 s.v, .int .i64 s.p] 30)).trans (hb0.mono (by simp))
  obtain ⟨hlen, b, rfl, hblt, hat⟩ := hR
  have HAT := Lib.hid hat
  have HB := Lib.hid hb
  clear hb0 hb hlen hat rw7
  have O0 : Hid (off7 s 0 = 0) := Lib.hid rfl
  have OE : Hid (off7 s (8 * s.l + 3) = cnt s) := Lib.hid (off7_end s)
  have CL := Lib.hid (cnt_le HOK.out)
  have G0 : Hid ((List.range 0).map (grownF s x) = []) := Lib.hid rfl
  go_wp2_with fail
  go_loopw [5, 7, 8] (fun v y j' wr => ∃ (j q : Nat), j ≤ 8 * s.l + 3 ∧ j' = .int .i64 j ∧ y = .int .u64 q ∧ Hid (q = seedK x (off7 s j)) ∧ Hid (wr.ownsRow wa.heap.size 55 1 v (off7 s j) (((List.range (off7 s j)).map (grownF s x)).map (.int .i8))) ∧ Hid (Below wa.heap.size wa wr)) (fun _ _ j' _ => 8 * s.l + 3 - (intOf j').toNat)
  case atStart => exact ⟨0, x, by omega, rfl, rfl, Lib.hid rfl, Lib.hid (own_nil _ _ _), Lib.hid (Below.refl _ _)⟩
  case round =>
    obtain ⟨j, q, hj, rfl, rfl, hq, hown, hbel⟩ := hrel
    by_cases hlt : j < 8 * s.l + 3
    · obtain ⟨c0, c1⟩ := HAT.out j hlt
      have hsuc := Lib.hid (off7_succ s j hlt)
      have hgj := Lib.hid (fun i hi => gainK_at (rowsL s) j i (by rw [rowsL_len]; exact hlt) hi)
      have hlto := Lib.hid (fun i hi => off7_lt s j i hlt hi)
      have hN : ((rowsL s).getD j default).2 ≤ 2232448 := by
        rcases Nat.eq_zero_or_pos ((rowsL s).getD j default).2 with h0 | h0
        · omega
        · have h1 := hlto.out (((rowsL s).getD j default).2 - 1) (by show _ < ((rowsL s).getD j default).2; omega)
          have h2 := CL.out
          omega
      have hsuc2 : Hid (off7 s (j + 1) = off7 s j + ((rowsL s).getD j default).2) := Lib.hid hsuc.out
      have hlto2 : Hid (∀ i, i < ((rowsL s).getD j default).2 → off7 s j + i < cnt s) := Lib.hid hlto.out
      have hgj2 : Hid (∀ i, i < ((rowsL s).getD j default).2 → gainK (rowsL s) (off7 s j + i) = ((rowsL s).getD j default).1) := Lib.hid hgj.out
      clear hsuc hlto hgj
      generalize ((rowsL s).getD j default).2 = N at *
      generalize ((rowsL s).getD j default).1 = GA at *
      have C01 := Lib.hid (And.intro c0 c1)
      clear c0 c1
      have j1 : (j : Int) < 8 * (s.l : Int) + 3 := by omega
      go_wp2_with fail
      go_loopw [5, 7, 9, 10] (fun v y i' n' wr' => ∃ (i q' : Nat), i ≤ N ∧ i' = .int .i64 i ∧ y = .int .u64 q' ∧ Hid (q' = seedK x (off7 s j + i)) ∧ Hid (wr'.ownsRow wa.heap.size 55 1 v (off7 s j + i) (((List.range (off7 s j + i)).map (grownF s x)).map (.int .i8))) ∧ Hid (Below wa.heap.size wa wr')) (fun _ _ i' _ _ => N - (intOf i').toNat)
      case atStart => exact ⟨0, q, by omega, rfl, rfl, hq, hown, hbel⟩
      case round =>
        obtain ⟨i, y, hi, rfl, rfl, hY, hown2, hbel2⟩ := hrel
        have c0 : wr.cell? ⟨b, j * 2, none⟩ = some (.bool GA) := (hbel2.out.cell (p := ⟨b, j * 2, none⟩) hblt).trans C01.out.1
        have c1 : wr.cell? ⟨b, j * 2 + 1, none⟩ = some (.int .i64 (N : Nat)) := (hbel2.out.cell (p := ⟨b, j * 2 + 1, none⟩) hblt).trans C01.out.2
        by_cases hlt2 : i < N
        · have hz : nxt y < 18446744073709551616 := nxt_lt y
          have hZ : Hid (nxt y = seedK x (off7 s j + (i + 1))) := Lib.hid (by rw [hY.out]; rfl)
          have hNum : Hid (numK GA (nxt y) = grownF s x (off7 s j + i)) := Lib.hid (by unfold grownF; rw [hgj2.out i hlt2, hY.out]; rfl)
          have hbd := numK_bd GA (nxt y) hz
          have hP : off7 s j + i ≤ 16777216 := by have := hlto2.out i hlt2; have := CL.out; omega
          obtain ⟨v2, w2, hrun, ho2, hg2, _⟩ := run_append_lits (P := Try.prog) .i8 wr wa.heap.size 40 55 1 (by omega) Try.underlying40 info_i8 _ (off7 s j + i) 1 _ [numK GA (nxt y)] #[.int .i8 (numK GA (nxt y))] rfl rfl hown2.out hP (by omega) hbel2.out.size
          have HO : Hid (w2.ownsRow wa.heap.size 55 1 v2 (off7 s j + (i + 1)) (((List.range (off7 s j + (i + 1))).map (grownF s x)).map (.int .i8))) := Lib.hid (by
            rw [← Nat.add_assoc, List.range_succ, List.map_append, List.map_cons, List.map_nil, ← hNum.out]
            exact ho2)
          have HB2 := Lib.hid (hbel2.out.grown hg2 hbel2.out.size (fun k hk => (hown2.out.lt k hk).1))
          have hm1 := mulK_eq y
          have hm2 := addK y
          generalize mulK y = m1 at hm1 hm2
          clear ho2 hg2
          generalize hzz : nxt y = z at *
          clear hzz
          have hb255 : z / 72057594037927936 ≤ 255 := top_le z hz
          obtain ⟨bb, hbb⟩ : ∃ bb : Nat, z / 72057594037927936 = bb := ⟨_, Eq.refl _⟩
          rw [hbb] at hb255
          have hdiv := top_cast _ _ hbb
          have T0 := Lib.hid hbb
          have HBD := Lib.hid hbd
          clear hbb hbd hz
          cases GA with
          | true =>
            obtain ⟨tt, htt⟩ : ∃ tt : Int, ((bb : Int) - 128).tdiv 16 = tt := ⟨_, Eq.refl _⟩
            have htb : numK true z = tt + 16 := by rw [← htt]; exact numK_true _ _ T0.out
            have hbt : -144 ≤ tt ∧ tt ≤ 111 := by have := HBD.out; omega
            rw [htb] at hrun
            have HTB := Lib.hid htb
            clear htb
            go_wp2_with (at_builtin; refine wpList_append_at (by rfl) _ _ _ (by rfl) _ _ (by rfl) (by rfl) hrun ?_)
            clear hrun hm1 hm2 htt
            go_roundw
            case rel => exact ⟨i + 1, z, by omega, by go_num, rfl, hZ, HO, HB2⟩
            case measure => simp [intOf]; omega
          | false =>
            have htb : numK false z = (bb : Int) - 128 := numK_false _ _ T0.out
            rw [htb] at hrun
            clear htb
            go_wp2_with (at_builtin; refine wpList_append_at (by rfl) _ _ _ (by rfl) _ _ (by rfl) (by rfl) hrun ?_)
            clear hrun hm1 hm2
            go_roundw
            case rel => exact ⟨i + 1, z, by omega, by go_num, rfl, hZ, HO, HB2⟩
            case measure => simp [intOf]; omega
        · obtain rfl : i = N := by omega
          have HE : Hid (wr.ownsRow wa.heap.size 55 1 u5 (off7 s (j + 1)) (((List.range (off7 s (j + 1))).map (grownF s x)).map (.int .i8))) := Lib.hid (by rw [hsuc2.out]; exact hown2.out)
          have HY : Hid (y = seedK x (off7 s (j + 1))) := Lib.hid (by rw [hsuc2.out]; exact hY.out)
          go_wp2
          go_roundw
          case rel => exact ⟨j + 1, y, by omega, by go_num, rfl, HY, HE, hbel2⟩
          case measure => simp [intOf]; omega
    · obtain rfl : j = 8 * s.l + 3 := by omega
      have i2 : ¬ (8 * (s.l : Int) + 3 < 8 * (s.l : Int) + 3) := by omega
      have HF : Hid (wr.ownsRow w.heap.size 55 1 u5 (cnt s) ((grownL s x).map (.int .i8))) := Lib.hid (by
        have h := Go.Joins.ownsRow_le hown.out (show w.heap.size ≤ wa.heap.size from HB.out.size)
        rw [OE.out] at h
        exact h)
      have HB3 := Lib.hid (HB.out.trans (hbel.out.mono HB.out.size))
      go_wp2
      go_ret
      exact ⟨⟨_, rfl, HF.out⟩, HB3.out⟩

end Go.Proofs.Ytlgnpicnpnibfaa
