/-
  Contract of the document's Turn.
-/
import Derived.Test.YtocjcfblpifdhaaRefPart
namespace Go.Proofs.Ytocjcfblpifdhaa
open Go.RowKit
set_option linter.unusedVariables false

set_option maxHeartbeats 2000000 in
theorem ref_turn (R C : Nat) (a : Option Addr) (cap : Nat) (xs : List Int) (w : World) (h : Elems .i32 w a (R * C) xs) (hR : R ≤ 4096) (hC : C ≤ 4096) :
    Calls Try.prog 26 #[.agg #[.int .i64 R, .int .i64 C, .slice a (R * C : Nat) cap]] w fun e w' =>
      (∃ v, e = .returned v ∧ GridV w' C R (tab C R fun i j => xs.getD (j * C + i) 0) v) ∧ Below w.heap.size w w' := by
  have HE := Lib.hid h
  have hsz : C * R ≤ 4096 * 4096 := Nat.mul_le_mul hC hR
  clear h
  go_enter Try.func26, Try.ntmps26
  go_wp2_with fail
  go_loopw [4] (fun i wr => ∃ (i' : Nat) (u : Value), i' ≤ C ∧ i = .int .i64 i' ∧ Hid (OutInv w R C (.slice a (R * C : Nat) cap) C R u (pre R (fun i j => xs.getD (j * C + i) 0) i' 0) wr)) (fun i _ => C - (intOf i).toNat)
  case atStart => exact ⟨0, .slice none 0 0, by omega, rfl, Lib.hid (outInv_start w _ _ _ _ _ _ _ _)⟩
  case round =>
    obtain ⟨i', u, hi1, rfl, hinv⟩ := hrel
    obtain ⟨z1, y0, y1, y2, _, _, _⟩ := hinv.out.b1
    by_cases hlt : i' < C
    · go_wp2_with fail
      go_loopw [5] (fun j wr => ∃ (j' : Nat) (u : Value), j' ≤ R ∧ j = .int .i64 j' ∧ Hid (OutInv w R C (.slice a (R * C : Nat) cap) C R u (pre R (fun i j => xs.getD (j * C + i) 0) i' j') wr)) (fun j _ => R - (intOf j).toNat)
      case atStart => exact ⟨0, u, by omega, rfl, hinv⟩
      case round =>
        clear hinv y0 y1 y2 z1
        obtain ⟨j', u, hj1, rfl, hinv⟩ := hrel
        obtain ⟨h1, k0, k1, k2, f0, f1, f2⟩ := hinv.out.b1
        by_cases hlt2 : j' < R
        · have hcell := fun W (hb : Below w.heap.size w W) => ref_cell R C j' i' a cap xs W (HE.out.below hb) hR hC hlt2 hlt
          have hl : (pre R (fun i j => xs.getD (j * C + i) 0) i' j').length ≤ 16777216 := by
            rw [pre_length]
            have := row_lt hlt hlt2
            omega
          have hnx : ∀ x, x = xs.getD (j' * C + i') 0 → pre R (fun i j => xs.getD (j * C + i) 0) i' j' ++ [x] = pre R (fun i j => xs.getD (j * C + i) 0) i' (j' + 1) := fun x hx => by
            rw [pre_next, hx]
          have HL := Lib.hid hl
          have HNX := Lib.hid hnx
          obtain ⟨cs, hcs⟩ : ∃ cs, pre R (fun i j => xs.getD (j * C + i) 0) i' j' = cs := ⟨_, rfl⟩
          rw [hcs] at hinv HL HNX
          clear hl hnx hcs
          obtain ⟨x, hx⟩ : ∃ x, x = xs.getD (j' * C + i') 0 := ⟨_, rfl⟩
          rw [← hx] at hcell
          have HX := Lib.hid hx
          clear hx
          obtain ⟨h3, l0, l1, l2, g0, g1, g2⟩ := hinv.out.b3
          go_wp2_with fail
          go_region_law (first
            | (go_simp; go_at_call 17; (with_reducible refine (hcell _ hinv.out.bel.drew).mono ?_); rintro e wc ⟨rfl, hbc⟩
               obtain ⟨g, cap2, w2, hrun, ⟨_, m0, m1, m2, _, _, _⟩, ⟨_, n0, n1, n2, _, _, _⟩, ⟨_, p0, p1, p2, _, _, _⟩, ⟨_, q0, q1, q2, s0, s1, s2⟩, hnext⟩ := hinv.out.next (((Below.refl _ _).drew).trans hbc) x HL.out)
            | (refine step_append_run (by rfl) _ _ _ (by rfl) _ _ (by rfl) (by rfl) hrun ?_))
          all_goals go_wp2
          all_goals
            go_roundw
            case rel => exact ⟨j' + 1, _, by omega, by go_num, Lib.hid (by rw [← HNX.out x HX.out]; exact hnext)⟩
            case measure => simp [intOf]; omega
        · obtain rfl : j' = R := by omega
          have hnx := hinv.out
          rw [pre_row] at hnx
          have HNX := Lib.hid hnx
          clear hnx
          go_wp2
          go_roundw
          case rel => exact ⟨i' + 1, u, by omega, by go_num, HNX⟩
          case measure => simp [intOf]; omega
    · obtain rfl : i' = C := by omega
      have hnx := hinv.out
      rw [pre_tab] at hnx
      have hwf := tab_wf (r := i') (c := R) (f := fun i j => xs.getD (j * i' + i) 0) fun i j _ _ => getD_wf HE.out.2.2.1 rfl _
      have hlen := tab_length i' R fun i j => xs.getD (j * i' + i) 0
      obtain ⟨cs, hcs⟩ : ∃ cs, tab i' R (fun i j => xs.getD (j * i' + i) 0) = cs := ⟨_, rfl⟩
      rw [hcs] at hnx hwf hlen
      have HCS := Lib.hid hcs
      obtain ⟨h1, k0, k1, k2, f0, f1, f2⟩ := hnx.b2
      obtain ⟨h3, l0, l1, l2, g0, g1, g2⟩ := hnx.b3
      have hown := hnx.own
      have hbel := hnx.bel
      have hG := gridV_own (m := i') (n := R) hown (by omega) hwf
      obtain ⟨ua, ucap, hu, hE2, hca, hcb⟩ := hG
      obtain rfl : u = .slice ua cs.length ucap := by simpa using hu
      have hE3 := own_elems_set hown (by omega) hwf (b := w.heap.size + 1) (by omega) (.int .i64 i') (.int .i64 R) (.slice ua cs.length ucap)
      have hbr := below_res hbel (b := w.heap.size + 1) (by omega) (.int .i64 i') (.int .i64 R) (.slice ua cs.length ucap)
      clear hinv hnx hcs hown hlen hu hE2
      go_wp2
      exact bodyPost_ret (v := .agg #[.int .i64 i', .int .i64 R, .slice ua cs.length ucap]) (by simp [results, Try.results26, go_sem, k0, k1, k2]) rfl
        ⟨⟨_, rfl, by rw [HCS.out]; exact ⟨ua, ucap, rfl, hE3, hca, hcb⟩⟩, hbr⟩

end Go.Proofs.Ytocjcfblpifdhaa
