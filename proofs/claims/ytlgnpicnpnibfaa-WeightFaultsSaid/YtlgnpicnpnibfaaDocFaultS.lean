/-
  The document's Fault: too few bytes.
-/
import Derived.Test.YtlgnpicnpnibfaaDocFault
namespace Go.Proofs.Ytlgnpicnpnibfaa
open Go.RowKit
set_option linter.unusedVariables false

set_option maxHeartbeats 12800000 in
set_option maxRecDepth 100000 in
theorem dfault_few (b off n cap : Nat) (xs : List Int) (w : World) (h : Elems .u8 w (some ⟨b, off, none⟩) n xs) (hn : 24 ≤ n) (hcap : n ≤ cap) (hcap2 : cap ≤ 9223372036854775807) (hm : xs.take 8 = magicL) (ok : (sOf xs).Ok) (hnc : n < 24 + cnt (sOf xs)) :
    Calls Try.prog 27 #[.slice (some ⟨b, off, none⟩) n cap] w fun e w' => e = .returned (.tuple #[.int .i64 (faultN xs : Nat), .agg #[.int .i64 (hdN xs 0 : Nat), .int .i64 (hdN xs 1 : Nat), .int .i64 (hdN xs 2 : Nat), .int .i64 (hdN xs 3 : Nat), .int .i64 (hdN xs 4 : Nat), .int .i64 (hdN xs 5 : Nat)]]) ∧ Below w.heap.size w w' := by
  have hB : Below w.heap.size w (w.alloc (.cells zsh 30)) := (Below.refl _ _).alloc (Nat.le_refl _) _
  have h8 := (h.below hB).take 8 (by omega)
  have hb8 : ∀ x ∈ xs.take 8, 0 ≤ x ∧ x < 256 := by
    intro x hx
    have := wfu8 (h8.2.2.1 x hx)
    omega
  have hcv := run_convert_bytes_arg (P := Try.prog) (w.alloc (.cells zsh 30)) 24 5 Try.underlying24 Try.underlying5 b off 8 cap (xs.take 8) h8.1 (fun i hi => by
    obtain ⟨b', off', he, hc⟩ := h8.2.2.2 (by omega)
    cases he
    exact hc i hi) 9 Try.underlying9
  have hmt := magic_toList (xs.take 8) hb8
  rw [decide_eq_true hm] at hmt
  generalize hs : strOfNums (xs.take 8) = str at hcv hmt
  have HMT := Lib.hid hmt
  have HM := Lib.hid hm
  have HB := Lib.hid hB
  have HE := Lib.hid (h.below hB)
  clear h h8 hs hm hmt hb8 hB
  unfold zsh at hcv
  go_enter Try.func27, Try.ntmps27
  go_upto_region 4 with (fail)
  · rename_i hf _ _
    rw [HMT.out] at hf
    exact absurd hf (by decide)
  · generalize hwa : w.alloc _ = wa
    have HE2 : Hid (Elems .u8 wa (some ⟨b, off, none⟩) n xs) := by rw [← hwa]; exact HE
    have HB2 : Hid (Below w.heap.size w wa) := by rw [← hwa]; exact HB
    have XR : Hid (Box wa w.heap.size 30 zsh) := by rw [← hwa]; exact Lib.hid (box_new _ _ _)
    have hz : wa.heap.size = w.heap.size + 1 := by rw [← hwa]; simp
    clear hwa hcv HE HB
    rename_i hf _ _
    rw [hf]
    clear hf
    go_loopw [4, 5] (fun v i' wr => ∃ k : Nat, k ≤ 6 ∧ i' = .int .i64 k ∧ Hid (wr.ownsRow wa.heap.size 3 1 v k (((List.range k).map fun j => ((hdN xs j : Nat) : Int)).map (.int .i64))) ∧ Hid (Below wa.heap.size wa wr)) (fun _ i' _ => 6 - (intOf i').toNat)
    case atStart => exact ⟨0, by omega, rfl, Lib.hid (own_nil _ _ _), Lib.hid (Below.refl _ _)⟩
    case round =>
      obtain ⟨k, hk, rfl, hown, hbel⟩ := hrel
      by_cases hlt : k < 6
      · have hE := HE2.out.below hbel.out
        obtain ⟨j, hj⟩ : ∃ j : Nat, 8 + 2 * k = j := ⟨_, rfl⟩
        have hl := hE.1
        obtain ⟨x0, hx0⟩ : ∃ x, xs.getD j 0 = x := ⟨_, rfl⟩
        obtain ⟨x1, hx1⟩ : ∃ x, xs.getD (j + 1) 0 = x := ⟨_, rfl⟩
        have b0 := wfu8 (hE.2.2.1 _ (getD_mem (show j < xs.length by omega)))
        have b1 := wfu8 (hE.2.2.1 _ (getD_mem (show j + 1 < xs.length by omega)))
        rw [hx0] at b0
        rw [hx1] at b1
        obtain ⟨b', off', heq, hcell⟩ := hE.2.2.2 (by omega)
        cases heq
        have c0 := hcell j (by omega)
        have c1 := hcell (j + 1) (by omega)
        rw [hx0] at c0
        rw [hx1] at c1
        have hnum : Hid (((hdN xs k : Nat) : Int) = x0 * 256 + x1) := Lib.hid (by
          unfold hdN n16
          rw [hj, List.getD_eq_getElem?_getD, List.getD_eq_getElem?_getD, List.getElem?_drop, List.getElem?_drop, ← List.getD_eq_getElem?_getD, ← List.getD_eq_getElem?_getD, Nat.add_zero, hx0, hx1]
          omega)
        obtain ⟨v2, w2, hrun0, ho2, hg2, _⟩ := run_append_lits (P := Try.prog) .i64 wr.drew wa.heap.size 75 3 8 (by omega) Try.underlying75 info_int _ k 1 _ [x0 * 256 + x1] #[.int .i64 (x0 * 256 + x1)] rfl rfl hown.out (by omega) (by omega) hbel.out.size
        have hrun : Sem.run Try.prog (Builtin.append_ #[75, 75] 75 #[u4, .slice (some ⟨wr.heap.size, 0, none⟩) 1 1]) ((wr.alloc (.cells #[.int .i64 (x0 * 256 + x1)] 3)).drew) = .ok v2 w2 := hrun0
        have HO : Hid (w2.ownsRow wa.heap.size 3 1 v2 (k + 1) (((List.range (k + 1)).map fun j => ((hdN xs j : Nat) : Int)).map (.int .i64))) := Lib.hid (by
          rw [List.range_succ, List.map_append, List.map_cons, List.map_nil, hnum.out]
          exact ho2)
        have HB3 : Hid (Below wa.heap.size wa w2) := Lib.hid (hbel.out.drew.grown hg2 hbel.out.size (fun q hq => (hown.out.lt q hq).1))
        have e1 : 8 + 2 * (k : Int) = (j : Int) := by omega
        have e2 : 9 + 2 * (k : Int) = ((j + 1 : Nat) : Int) := by omega
        have w0 : IntKind.i64.wrap (2 * (k : Int)) = 2 * (k : Int) := IntWalk.i64_in _ (by omega)
        have w3 : IntKind.i64.wrap (j : Int) = (j : Int) := IntWalk.i64_in _ (by omega)
        have w4 : IntKind.i64.wrap ((j : Int) + 1) = (j : Int) + 1 := IntWalk.i64_in _ (by omega)
        have w9 : ((j : Int) + 1).toNat = j + 1 := by omega
        have wa1 : 0 ≤ (j : Int) + 1 := by omega
        have wa2 : (j : Int) + 1 < (n : Int) := by omega
        have w5 : IntKind.i64.wrap (x0 * 256) = x0 * 256 := IntWalk.i64_in _ (by omega)
        have w6 : IntKind.i64.wrap (x0 * 256 + x1) = x0 * 256 + x1 := IntWalk.i64_in _ (by omega)
        have w7 : IntKind.i64.wrap x0 = x0 := IntWalk.i64_in _ (by omega)
        have w8 : IntKind.i64.wrap x1 = x1 := IntWalk.i64_in _ (by omega)
        have hjn : j < n := by omega
        have hjn1 : j + 1 < n := by omega
        clear hrun0 ho2 hg2 hcell hE hx0 hx1 hl
        go_wp2_with fail
        go_region_law ((refine step_append_run (by rfl) _ _ _ (by rfl) _ _ (by rfl) (by rfl) hrun ?_))
        all_goals go_wp2
        all_goals
          go_roundw
          case rel => exact ⟨k + 1, by omega, by go_num, HO, HB3⟩
          case measure => simp [intOf]; omega
      · obtain rfl : k = 6 := by omega
        have hE := HE2.out.below hbel.out
        have h16 : ∀ q, q < 6 → ((hdN xs q : Nat) : Int) ≤ 65535 := by
          intro q hq
          have := n16_le (kd := .u8) (hE.drop (8 + 2 * q) (by omega))
          unfold hdN
          omega
        have hw2 := hown.out
        clear hown
        obtain ⟨_, hnil | ⟨g, cap6, cur, rfl, hg, hcur, hc6, _, _, _⟩⟩ := id hw2
        · exact absurd hnil.2 (by decide)
        have hcell := fun q (hq : q < 6) => hw2.cellAt q (by simpa using hq)
        have c0 : wr.cell? ⟨g, 0, none⟩ = some (.int .i64 (hdN xs 0 : Nat)) := hcell 0 (by decide)
        have c1 : wr.cell? ⟨g, 1, none⟩ = some (.int .i64 (hdN xs 1 : Nat)) := hcell 1 (by decide)
        have c2 : wr.cell? ⟨g, 2, none⟩ = some (.int .i64 (hdN xs 2 : Nat)) := hcell 2 (by decide)
        have c3 : wr.cell? ⟨g, 3, none⟩ = some (.int .i64 (hdN xs 3 : Nat)) := hcell 3 (by decide)
        have c4 : wr.cell? ⟨g, 4, none⟩ = some (.int .i64 (hdN xs 4 : Nat)) := hcell 4 (by decide)
        have c5 : wr.cell? ⟨g, 5, none⟩ = some (.int .i64 (hdN xs 5 : Nat)) := hcell 5 (by decide)
        have hgl : g < wr.heap.size := World.block_lt_of_cell? _ _ c0
        have hA : Below wr.heap.size wr ((wr.alloc (.cells #[.int .i64 0, .int .i64 0, .int .i64 0, .int .i64 0, .int .i64 0, .int .i64 0] 30)).drew) := ((Below.refl _ _).alloc (Nat.le_refl _) _).drew
        have d0 := (hA.cell (p := ⟨g, 0, none⟩) hgl).trans c0
        have d1 := (hA.cell (p := ⟨g, 1, none⟩) hgl).trans c1
        have d2 := (hA.cell (p := ⟨g, 2, none⟩) hgl).trans c2
        have d3 := (hA.cell (p := ⟨g, 3, none⟩) hgl).trans c3
        have d4 := (hA.cell (p := ⟨g, 4, none⟩) hgl).trans c4
        have d5 := (hA.cell (p := ⟨g, 5, none⟩) hgl).trans c5
        clear hcell hw2 hcur
        have hsz := hbel.out.size
        have XR2 := Lib.hid (XR.out.below hbel.out (by omega))
        have HBr := Lib.hid (HB2.out.trans (hbel.out.mono (by omega)))
        have HE3 := Lib.hid hE
        clear hE hbel
        go_upto_region 10 with fail
        go_cut [6] from 43 (fun v wx => v = .pointer (some ⟨wr.heap.size, 0, none⟩) ∧ Hid (Box wx wr.heap.size 30 #[.int .i64 (hdN xs 0 : Nat), .int .i64 (hdN xs 1 : Nat), .int .i64 (hdN xs 2 : Nat), .int .i64 (hdN xs 3 : Nat), .int .i64 (hdN xs 4 : Nat), .int .i64 (hdN xs 5 : Nat)]) ∧ Hid (Below wr.heap.size wr wx))
        case first =>
          go_region
          all_goals go_wp2_with fail
          all_goals go_meet
          all_goals (case rel => exact ⟨rfl, Lib.hid (box_new _ _ _).drew, Lib.hid (((Below.refl _ _).alloc (Nat.le_refl _) _).drew)⟩)
        case rest =>
          obtain ⟨rfl, hbx, hbelx⟩ := hcut
          have XRx := Lib.hid (XR2.out.below hbelx.out (by omega))
          have HBx := Lib.hid (HBr.out.trans (hbelx.out.mono (by omega)))
          have HEx := Lib.hid (HE3.out.below hbelx.out)
          have hbs := hbx.out
          have hxs := hbelx.out.size
          clear XR2 HBr HE3 hbelx c0 c1 c2 c3 c4 c5 d0 d1 d2 d3 d4 d5 hA
          have XR0 := XRx.out
          go_wp2_with (refine wpList_load_row rfl 30 _ rfl wr.heap.size rfl 30 _ (0, 0) _ hbs Try.underlying30 rfl (by kernel_rfl) ?_)
          have hl16 := ok.bd.1
          have r1 := dright_yes (hdN xs 0 : Nat) (hdN xs 1 : Nat) (hdN xs 2 : Nat) (hdN xs 3 : Nat) (hdN xs 4 : Nat) (hdN xs 5 : Nat) wc ok
          have r4 : ∀ W, Calls Try.prog 14 #[.agg #[.int .i64 (hdN xs 0 : Nat), .int .i64 (hdN xs 1 : Nat), .int .i64 (hdN xs 2 : Nat), .int .i64 (hdN xs 3 : Nat), .int .i64 (hdN xs 4 : Nat), .int .i64 (hdN xs 5 : Nat)]] W fun e w' => (∃ a cap, e = .returned (.slice a (8 * (sOf xs).l + 3 : Nat) cap) ∧ RowsAt w' a (8 * (sOf xs).l + 3) (rowsL (sOf xs))) ∧ Below W.heap.size W w' := fun W => doc_rows (sOf xs) ok W
          have CN := Lib.hid (cnt_le ok)
          have TT := Lib.hid (tot_rows (sOf xs))
          have HF := Lib.hid (show faultN xs = if n < 24 + cnt (sOf xs) then 70 else if 24 + cnt (sOf xs) < n then 72
              else if csum (xs.take (20 + cnt (sOf xs))) ≠ n32 (xs.drop (20 + cnt (sOf xs))) then 73 else 0 by
            unfold faultN
            rw [HEx.out.1, if_neg (by omega), if_neg (by simp [HM.out]), if_neg (by simp [ok])])
          generalize sOf xs = s at *
          refine r1.mono ?_
          rintro e w2 ⟨rfl, hb2⟩
          have HB3 := Lib.hid (HBx.out.trans (hb2.mono HBx.out.size))
          have XS := hbs.bel hb2
          have XRr := XR0.bel hb2
          have HEy := Lib.hid (HEx.out.below hb2)
          obtain ⟨c0, c1, c2, c3, c4, c5⟩ := XS.cells6
          clear hbs XR0 h16 hbx HBx HEx ok r1 hb2
          go_wp2_with fail
          refine (r4 _).mono ?_
          rintro e w3 ⟨⟨ra, rcap, rfl, hR⟩, hb3⟩
          have HB4 := Lib.hid (HB3.out.trans (hb3.mono HB3.out.size))
          have HXS := Lib.hid (XS.bel hb3)
          have HXR := Lib.hid (XRr.bel hb3)
          have HEz := Lib.hid (HEy.out.below hb3)
          clear c0 c1 c2 c3 c4 c5 XS XRr HB3 HEy hb3 r4
          obtain ⟨hlen, rb, rfl, hblt, hat⟩ := hR
          have HL := Lib.hid hlen
          have HA := Lib.hid hat
          have T0 : Hid (24 = 24 + tot ((rowsL s).take 0)) := Lib.hid rfl
          have TS := Lib.hid (fun k (hk : k < 8 * s.l + 3) => tot_step (rowsL s) k (by rw [hlen]; exact hk))
          have TL := Lib.hid (fun k => tot_take_le (rowsL s) k)
          clear hlen hat
          go_wp2_with fail
          go_loop [7, 9] (fun t i => ∃ k t' : Nat, k ≤ 8 * s.l + 3 ∧ i = .int .i64 k ∧ t = .int .i64 t' ∧ Hid (t' = 24 + tot ((rowsL s).take k))) (fun _ i => 8 * s.l + 3 - (intOf i).toNat)
          case atStart => exact ⟨0, 24, by omega, rfl, rfl, T0⟩
          case round =>
            obtain ⟨k, t, hk, rfl, rfl, ht⟩ := hrel
            have t1 : t ≤ 2232472 := by have h1 := TL.out k; have h2 := CN.out; have h3 := ht.out; rw [TT.out] at h1; omega
            by_cases hlt : k < 8 * s.l + 3
            · obtain ⟨c6, c7⟩ := HA.out k hlt
              have hst := TS.out k hlt
              have t2 : t + ((rowsL s).getD k default).2 ≤ 2232472 := by have h1 := TL.out (k + 1); have h2 := CN.out; have h3 := ht.out; rw [TT.out, hst] at h1; omega
              have HT2 : Hid (t + ((rowsL s).getD k default).2 = 24 + tot ((rowsL s).take (k + 1))) := Lib.hid (by rw [hst, ht.out]; omega)
              generalize ((rowsL s).getD k default).2 = m at *
              clear hst c6
              have i1 : (k : Int) < 8 * (s.l : Int) + 3 := by omega
              have e1 : (k : Int) * 2 = ((k * 2 : Nat) : Int) := by omega
              go_wp2
              go_round
              case rel => exact ⟨k + 1, t + m, by omega, by go_num, by go_num, HT2⟩
              case measure => simp [intOf]; omega
            · obtain rfl : k = 8 * s.l + 3 := by omega
              have ET : t = 24 + cnt s := by rw [ht.out, List.take_of_length_le (by rw [HL.out]; omega), TT.out]
              have i2 : ¬ (8 * (s.l : Int) + 3 < 8 * (s.l : Int) + 3) := by omega
              clear ht hk hlt
              have hnt : n < t := by omega
              have EF : faultN xs = 70 := by rw [HF.out, if_pos (by omega)]
              clear ET
              have hnt2 : (n : Int) < (t : Int) := by omega
              obtain ⟨c0, c1, c2, c3, c4, c5⟩ := HXS.out.cells6
              obtain ⟨d0, d1, d2, d3, d4, d5⟩ := HXR.out.cells6
              have HXR := HXR
              have HBB := Lib.hid HB4.out
              have HEE := Lib.hid EF
              have fr := fun o => HXR.out.frozen o
              clear EF
              go_wp2_with fail
              go_region
              all_goals go_wp2_with fail
              all_goals exact bodyPost_ret (v := .tuple #[.int .i64 70, .agg #[.int .i64 (hdN xs 0 : Nat), .int .i64 (hdN xs 1 : Nat), .int .i64 (hdN xs 2 : Nat), .int .i64 (hdN xs 3 : Nat), .int .i64 (hdN xs 4 : Nat), .int .i64 (hdN xs 5 : Nat)]]) (results_tmp_row rfl rfl ((HXR.out.six _ _ _ _ _ _).drew) Try.underlying30 rfl (by kernel_rfl) rfl) rfl ⟨by rw [HEE.out]; rfl, by
                refine Below.drew ?_
                repeat (refine Below.setCell ?_ (by simp) _)
                exact HBB.out⟩


end Go.Proofs.Ytlgnpicnpnibfaa
