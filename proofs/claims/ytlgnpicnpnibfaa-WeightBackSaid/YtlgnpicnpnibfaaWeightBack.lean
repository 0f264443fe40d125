/-
  Proved: for any six numbers, any row of numbers of 8 bits and any seed WeightBack returns true (the document's file of right weights, whatever their numbers, is parsed as these weights, and the code's Bytes of them is the file again) and nothing that was in memory turns. No condition.
-/
import Derived.Test.YtlgnpicnpnibfaaRows
import Derived.WalkKit
import Derived.ProofKit
import Derived.OpenShut
import Derived.ShutString
import Derived.ChangeOld
import Derived.Below
import Derived.Test.YtlgnpicnpnibfaaShapeRow
import Derived.Test.YtlgnpicnpnibfaaAwake7
import Derived.Test.YtlgnpicnpnibfaaTiny
import Derived.Test.YtlgnpicnpnibfaaGrown
import Derived.Test.YtlgnpicnpnibfaaFile
import Derived.Test.YtlgnpicnpnibfaaFileBack
import Derived.Test.YtlgnpicnpnibfaaDocWhole
import Derived.Test.YtlgnpicnpnibfaaBytes7
import Derived.Test.YtlgnpicnpnibfaaOwnCut
namespace Go.Proofs.Ytlgnpicnpnibfaa.weightBack
open Go.ChangeShapes Go.WideShapes Go.ChangeAt Go.RowKit
open Go.ChangeMaps (open_string shut_string)
set_option linter.unusedVariables false

theorem own : ownKnob Try.prog.godebug = none := by kernel_rfl
theorem laidOut : laidOutB Try.prog = true := by kernel_rfl

set_option maxHeartbeats 6400000 in
set_option maxRecDepth 100000 in
theorem walk (sl0 sw0 sh0 si0 sv0 sp0 : Int) (q1 : Rw) (a2 : Int) (w : World) (h0 : Six sl0 sw0 sh0 si0 sv0 sp0) (h1 : q1.In .i8 w) (h2 : (Lit.int .u64 a2).wf = true) :
    Calls Try.prog 6 #[.agg #[.int .i64 sl0, .int .i64 sw0, .int .i64 sh0, .int .i64 si0, .int .i64 sv0, .int .i64 sp0], .slice q1.a q1.n q1.cap, .int .u64 a2] w fun e w' => e = .returned (.bool true) ∧ Below w.heap.size w w' := by
  obtain ⟨hE1, hc1, hm1, hs1⟩ := h1
  have HE1 := Lib.hid hE1
  have n1 := hE1.2.1
  obtain ⟨X, rfl⟩ : ∃ X : Nat, a2 = X := ⟨a2.toNat, by have := wfu64 h2; omega⟩
  have hX : X < 18446744073709551616 := by have := wfu64 h2; omega
  have HX := Lib.hid hX
  clear h0 hE1 hs1 h2 hX
  by_cases h3000 : 3000 < q1.n
  · clear HE1
    go_enter Try.func6, Try.ntmps6
    go_wp2_with fail
    refine (awake7 _).mono ?_
    rintro e w1 ⟨rfl, hb1⟩
    have HX1 : Hid (Box w1 w.heap.size 37 #[.int .i64 sl0, .int .i64 sw0, .int .i64 sh0, .int .i64 si0, .int .i64 sv0, .int .i64 sp0]) := Lib.hid ((box_new w _ _).bel hb1)
    have HB1 := Lib.hid (below_two ((Below.refl w.heap.size w).alloc (Nat.le_refl _) _) hb1)
    clear hb1
    go_wp2_with fail
    refine (awake7 _).mono ?_
    rintro e w2 ⟨rfl, hb2⟩
    have B := Lib.hid (below_two HB1.out hb2)
    clear hb2
    go_wp2_with fail
    go_ret
    exact ⟨rfl, B.out⟩
  · skip
    go_enter Try.func6, Try.ntmps6
    go_wp2_with fail
    refine (awake7 _).mono ?_
    rintro e w1 ⟨rfl, hb1⟩
    have HX1 : Hid (Box w1 w.heap.size 37 #[.int .i64 sl0, .int .i64 sw0, .int .i64 sh0, .int .i64 si0, .int .i64 sv0, .int .i64 sp0]) := Lib.hid ((box_new w _ _).bel hb1)
    have HB1 := Lib.hid (below_two ((Below.refl w.heap.size w).alloc (Nat.le_refl _) _) hb1)
    clear hb1
    obtain ⟨z0, z1, z2, z3, z4, z5⟩ := HX1.out.cells6
    go_wp2_with fail
    refine (tiny_any sl0 sw0 sh0 si0 sv0 sp0 _).mono ?_
    rintro e w5 ⟨⟨s, hs, rfl⟩, hb⟩
    have HB5 := Lib.hid (below_two HB1.out hb)
    have ok := hs.1
    have HTN := Lib.hid hs
    have hcn := cnt_le ok
    have HG := fun V => doc_grown s ok X HX.out V
    have HF := fun a cap l V (hl : Elems .i8 V a (cnt s) l) => doc_file s ok a (cnt s) cap l V hl (by omega)
    have HOK := Lib.hid ok
    have HGL := Lib.hid (grownL_wf s X HX.out)
    have HLL := Lib.hid (grownL_len s X)
    unfold Sz.val at HG HF
    clear hb z0 z1 z2 z3 z4 z5 HX1 hs ok
    go_upto_region 4 with fail
    generalize hw6 : World.alloc _ _ = w6
    have hb6 : Below w5.heap.size w5 w6 := by rw [← hw6]; exact (Below.refl _ _).alloc (Nat.le_refl _) _
    have X6 : Box w6 w5.heap.size 30 #[.int .i64 s.l, .int .i64 s.w, .int .i64 s.h, .int .i64 s.i, .int .i64 s.v, .int .i64 s.p] := by rw [← hw6]; exact box_new _ _ _
    have HB6 := Lib.hid (below_two HB5.out hb6)
    have HX6 := Lib.hid X6
    obtain ⟨k0, k1, k2, k3, k4, k5⟩ := X6.cells6
    clear hw6 hb6 X6 HB5
    go_wp2_with fail
    refine (HG _).mono ?_
    rintro e w7 ⟨⟨v7, rfl, ho7⟩, hb7⟩
    have HB7 := Lib.hid (below_two HB6.out hb7)
    have HB67 := Lib.hid hb7
    clear hb7 HG k0 k1 k2 k3 k4 k5
    generalize hgl : grownL s X = gl at *
    clear hgl
    have hlg := HLL.out
    obtain ⟨ga, gcap, rfl, hE7, _, _, _, hga⟩ := own_lies ho7 HGL.out (by omega)
    have hc24 : 0 < cnt s := by have := HOK.out.bd; unfold cnt; omega
    obtain ⟨fg, rfl⟩ := hga hc24
    have HO7 : Hid (w7.ownsRow w6.heap.size 55 1 (.slice (some ⟨fg, 0, none⟩) (cnt s) gcap) (cnt s) ((q1.v.take 0 ++ gl.drop 0).map (.int .i8))) := Lib.hid (by simpa using ho7)
    have HLG := Lib.hid hlg
    clear ho7 hE7 hga hlg HLL
    obtain ⟨C, hC⟩ : ∃ C, cnt s = C := ⟨_, rfl⟩
    have HCC := Lib.hid hC
    rw [hC] at HO7 hcn hc24 HF HLG
    rw [hC]
    clear hC
    go_wp2_with fail
    go_loopw [9] (fun i' wr => ∃ k : Nat, k ≤ C ∧ k ≤ q1.n ∧ i' = .int .i64 k ∧ Hid (wr.ownsRow w6.heap.size 55 1 (.slice (some ⟨fg, 0, none⟩) C gcap) C ((q1.v.take k ++ gl.drop k).map (.int .i8))) ∧ Hid (Below w6.heap.size w6 wr)) (fun i' _ => C - (intOf i').toNat)
    case atStart => exact ⟨0, by omega, by omega, rfl, HO7, HB67⟩
    case round =>
      obtain ⟨k, hk1, hk2, rfl, hown, hbel⟩ := hrel
      have hBw := HB6.out.trans (hbel.out.mono HB6.out.size)
      by_cases hlt : k < C ∧ k < q1.n
      · obtain ⟨hl1, hl2⟩ := hlt
        have hE := HE1.out.below hBw
        obtain ⟨b, off, x, hqa, hc, hx, wx⟩ := hE.at_ hl2
        have fz : wr.frozen? ⟨fg, k, none⟩ = false := hown.out.frozenAt k
        have hfg := (hown.out.lt fg rfl).1
        have hll := hE.1
        have HON : Hid ((wr.setCell ⟨fg, k, none⟩ (.int .i8 x)).ownsRow w6.heap.size 55 1 (.slice (some ⟨fg, 0, none⟩) C gcap) C ((q1.v.take (k + 1) ++ gl.drop (k + 1)).map (.int .i8))) := Lib.hid (by
          have h := own_store hown.out k x
          rw [take_drop_set q1.v gl k x hx.out (by omega) (by have := HLG.out; omega)] at h
          exact h)
        have HBN : Hid (Below w6.heap.size w6 (wr.setCell ⟨fg, k, none⟩ (.int .i8 x))) := Lib.hid (hbel.out.setCell (p := ⟨fg, k, none⟩) hfg _)
        obtain ⟨_, _, e0, _, hg1, hg2, _⟩ := own_lies hown.out (take_drop_wf HE1.out.2.2.1 HGL.out k) (by omega)
        cases e0
        have i1 : (k : Int) < (C : Int) := by omega
        have i2 : (k : Int) < (q1.n : Int) := by omega
        have e1 : decide (k < C) = true := by simp; omega
        have e2 : decide (k < q1.n) = true := by simp; omega
        rw [hqa]
        have cfg : wr.cell? ⟨fg, k, none⟩ = some (.int .i8 ((q1.v.take k ++ gl.drop k).getD k 0)) := by
          have hlen : k < (q1.v.take k ++ gl.drop k).length := by have := HLG.out; simp; omega
          rw [hown.out.cellAt k (by omega), List.getElem?_map, List.getD_eq_getElem?_getD, List.getElem?_eq_getElem hlen]; rfl
        clear hx wx hE hll hown hbel hqa hfg hBw
        go_wp2_with fail
        go_roundw
        case rel => exact ⟨k + 1, by omega, by omega, by go_num, HON, HBN⟩
        case measure => simp [intOf]; omega
      · have hwf0 := take_drop_wf HE1.out.2.2.1 HGL.out k
        have hlen0 : (q1.v.take k ++ gl.drop k).length = C := by have := hown.out.1; simpa using this
        obtain ⟨a9, cap9, e9, hE9, h91, h92, _⟩ := own_lies hown.out hwf0 (by omega)
        cases e9
        have HW9 := Lib.hid hwf0
        have HLN := Lib.hid hlen0
        have HO9 := hown
        have HBX := Lib.hid hBw
        have HX9 := Lib.hid (HX6.out.bel hbel.out)
        have hF9 := HF (some ⟨fg, 0, none⟩) gcap _ wr hE9
        have HE9 := Lib.hid hE9
        generalize q1.v.take k ++ gl.drop k = fl at *
        have e1 : (decide (k < C) && decide (k < q1.n)) = false := by rw [← Bool.decide_and]; exact decide_eq_false hlt
        obtain ⟨k0, k1, k2, k3, k4, k5⟩ := HX9.out.cells6
        clear hwf0 hlen0 hE9 hown hbel hBw hk1 hk2
        by_cases hl1 : k < C
        · have hl2 : ¬ k < q1.n := fun h => hlt ⟨hl1, h⟩
          clear hlt e1
          go_wp2_with fail
          refine hF9.mono ?_
          rintro e w10 ⟨⟨v10, rfl, ho10⟩, hb10⟩
          have HB10 := Lib.hid (below_two HBX.out hb10)
          have HX10 := Lib.hid (HX9.out.bel hb10)
          have HE10 := Lib.hid (HE9.out.below hb10)
          have hwfF := fileL_wf s HOK.out fl
          obtain ⟨ba, bcap, rfl, hEb, hb1, hb2, _, hba⟩ := own_lies ho10 hwfF (by omega)
          obtain ⟨bg, rfl⟩ := hba (by omega)
          have hbl := hEb.1
          have hownL : (w10.alloc (.cells #[] 5)).ownsRow w10.heap.size 5 1 (.slice (some ⟨w10.heap.size, 0, none⟩) 0 0) 0 (([] : List Int).map (.int .u8)) := World.ownsRow_lit (e := 5) (size := 1) w10 #[] 0 (Nat.le_refl _) (by unfold maxLen; omega) rfl
          obtain ⟨v11, w11, hrun, ho11, hg11, _⟩ := run_append_elems (P := Try.prog) .u8 (w10.alloc (.cells #[] 5)) w10.heap.size 24 5 1 (by omega) Try.underlying24 info_u8 _ 0 [] hownL (some ⟨bg, 0, none⟩) (24 + C) bcap (fileL s fl) (hEb.below ((Below.refl _ _).alloc (Nat.le_refl _) _)) (by intro h; cases h) (by omega) (by omega) (by simp)
          have hb11 : Below w10.heap.size w10 w11 := ((Below.refl _ _).alloc (Nat.le_refl _) _).grown hg11 (by simp) (fun k hk => (hownL.lt k hk).1)
          rw [Nat.zero_add, List.nil_append] at ho11
          obtain ⟨pa, pcap, rfl, hEp, hp1, hp2, _, hpa⟩ := own_lies ho11 hwfF (by omega)
          obtain ⟨pg, rfl⟩ := hpa (by omega)
          have HP := parse_right s HOK.out fl (by rw [HLN.out, HCC.out]) HW9.out pg (24 + C) pcap w11 hEp hp1 hp2
          have HB11 := Lib.hid (below_two HB10.out hb11)
          have HX11 := Lib.hid (HX10.out.bel hb11)
          have HE11 := Lib.hid (HE10.out.below hb11)
          have HEB := Lib.hid (hEb.below hb11)
          have HWF := Lib.hid hwfF
          clear hF9 ho10 hb10 hEb hba hownL ho11 hg11 hb11 hEp hpa k0 k1 k2 k3 k4 k5 HX9 HE9 HX10 HE10 hwfF hbl
          go_wp2_with (at_builtin; refine wpList_append_at (by rfl) _ _ _ (by rfl) _ _ (by rfl) (by rfl) hrun ?_)
          refine HP.mono ?_
          rintro e w12 ⟨⟨W, he, hR⟩, hb12⟩
          have HWC : Hid (W.cells = #[.int .i64 s.l, .int .i64 s.w, .int .i64 s.h, .int .i64 s.i, .int .i64 s.v, .int .i64 s.p, .int .i64 W.e.r, .int .i64 W.e.c, .slice W.e.a W.e.n W.e.cap, .slice W.ba W.bn W.bcap, .slice W.t.a W.t.n W.t.cap, .int .i64 W.hd.r, .int .i64 W.hd.c, .slice W.hd.a W.hd.n W.hd.cap]) := Lib.hid (by obtain ⟨e1, e2, e3, e4, e5, e6⟩ := hR.2.1; unfold Wt7.cells; rw [e1, e2, e3, e4, e5, e6])
          rw [HWC.out] at he
          subst he
          have HR := Lib.hid hR
          have HB12 := Lib.hid (below_two HB11.out hb12)
          have HX12 := Lib.hid (HX11.out.bel hb12)
          have HE12 := Lib.hid (HE11.out.below hb12)
          have HEB2 := Lib.hid (HEB.out.below hb12)
          have HON1 := Lib.hid (wt_one7 W)
          rw [HWC.out] at HON1
          clear hb12 HP hrun hR HX11 HE11 HEB
          go_upto_region 11 with (refine wpList_store_row rfl 45 _ _ rfl w12.heap.size #[.int .i64 s.l, .int .i64 s.w, .int .i64 s.h, .int .i64 s.i, .int .i64 s.v, .int .i64 s.p, .int .i64 W.e.r, .int .i64 W.e.c, .slice W.e.a W.e.n W.e.cap, .slice W.ba W.bn W.bcap, .slice W.t.a W.t.n W.t.cap, .int .i64 W.hd.r, .int .i64 W.hd.c, .slice W.hd.a W.hd.n W.hd.cap] rfl rfl 45 _ (box_new _ _ _) (by kernel_rfl) rfl HON1.out ?_)
          generalize hw13 : World.setRow _ w12.heap.size _ = w13
          have hb13 : Below w12.heap.size w12 w13 := by rw [← hw13]; exact below_setRow ((Below.refl _ _).alloc (Nat.le_refl _) _) (Nat.le_refl _) (by simp)
          have XW : Box w13 w12.heap.size 45 #[.int .i64 s.l, .int .i64 s.w, .int .i64 s.h, .int .i64 s.i, .int .i64 s.v, .int .i64 s.p, .int .i64 W.e.r, .int .i64 W.e.c, .slice W.e.a W.e.n W.e.cap, .slice W.ba W.bn W.bcap, .slice W.t.a W.t.n W.t.cap, .int .i64 W.hd.r, .int .i64 W.hd.c, .slice W.hd.a W.hd.n W.hd.cap] := by rw [← hw13]; exact (box_new _ _ _).setRow
          have HB13 := Lib.hid (below_two HB12.out hb13)
          have HX13 := Lib.hid (HX12.out.bel hb13)
          have HE13 := Lib.hid (HE12.out.below hb13)
          have HEB3 := Lib.hid (HEB2.out.below hb13)
          have HR13 := Lib.hid (HR.out.bel hb13)
          have HXW := Lib.hid XW
          obtain ⟨z0, z1, z2, z3, z4, z5, z6, z7, z8, z9, z10, z11, z12, z13⟩ : w13.cell? ⟨w12.heap.size, 0, none⟩ = some (.int .i64 s.l) ∧ w13.cell? ⟨w12.heap.size, 1, none⟩ = some (.int .i64 s.w) ∧ w13.cell? ⟨w12.heap.size, 2, none⟩ = some (.int .i64 s.h) ∧ w13.cell? ⟨w12.heap.size, 3, none⟩ = some (.int .i64 s.i) ∧ w13.cell? ⟨w12.heap.size, 4, none⟩ = some (.int .i64 s.v) ∧ w13.cell? ⟨w12.heap.size, 5, none⟩ = some (.int .i64 s.p) ∧ w13.cell? ⟨w12.heap.size, 6, none⟩ = some (.int .i64 W.e.r) ∧ w13.cell? ⟨w12.heap.size, 7, none⟩ = some (.int .i64 W.e.c) ∧ w13.cell? ⟨w12.heap.size, 8, none⟩ = some (.slice W.e.a W.e.n W.e.cap) ∧ w13.cell? ⟨w12.heap.size, 9, none⟩ = some (.slice W.ba W.bn W.bcap) ∧ w13.cell? ⟨w12.heap.size, 10, none⟩ = some (.slice W.t.a W.t.n W.t.cap) ∧ w13.cell? ⟨w12.heap.size, 11, none⟩ = some (.int .i64 W.hd.r) ∧ w13.cell? ⟨w12.heap.size, 12, none⟩ = some (.int .i64 W.hd.c) ∧ w13.cell? ⟨w12.heap.size, 13, none⟩ = some (.slice W.hd.a W.hd.n W.hd.cap) := ⟨XW.cell 0, XW.cell 1, XW.cell 2, XW.cell 3, XW.cell 4, XW.cell 5, XW.cell 6, XW.cell 7, XW.cell 8, XW.cell 9, XW.cell 10, XW.cell 11, XW.cell 12, XW.cell 13⟩
          obtain ⟨k0, k1, k2, k3, k4, k5⟩ := HX13.out.cells6
          have D1 := doc_whole s HOK.out W w13 HR13.out.1 HR13.out.2.1 HR13.out.2.2.1
          rw [HWC.out] at D1
          clear hw13 hb13 XW HX12 HE12 HEB2 HR
          go_wp2_with fail
          refine D1.mono ?_
          rintro e w14 ⟨rfl, hb14⟩
          have HB14 := Lib.hid (below_two HB13.out hb14)
          have HE14 := Lib.hid (HE13.out.below hb14)
          have HEB4 := Lib.hid (HEB3.out.below hb14)
          have HR14 := Lib.hid (HR13.out.bel hb14)
          have XW14 := HXW.out.bel hb14
          have HXW14 := Lib.hid XW14
          clear hb14 D1 z0 z1 z2 z3 z4 z5 z6 z7 z8 z9 z10 z11 z12 z13 k0 k1 k2 k3 k4 k5 HE13 HEB3 HR13 HX13 HXW
          obtain ⟨z0, z1, z2, z3, z4, z5, z6, z7, z8, z9, z10, z11, z12, z13⟩ : w14.cell? ⟨w12.heap.size, 0, none⟩ = some (.int .i64 s.l) ∧ w14.cell? ⟨w12.heap.size, 1, none⟩ = some (.int .i64 s.w) ∧ w14.cell? ⟨w12.heap.size, 2, none⟩ = some (.int .i64 s.h) ∧ w14.cell? ⟨w12.heap.size, 3, none⟩ = some (.int .i64 s.i) ∧ w14.cell? ⟨w12.heap.size, 4, none⟩ = some (.int .i64 s.v) ∧ w14.cell? ⟨w12.heap.size, 5, none⟩ = some (.int .i64 s.p) ∧ w14.cell? ⟨w12.heap.size, 6, none⟩ = some (.int .i64 W.e.r) ∧ w14.cell? ⟨w12.heap.size, 7, none⟩ = some (.int .i64 W.e.c) ∧ w14.cell? ⟨w12.heap.size, 8, none⟩ = some (.slice W.e.a W.e.n W.e.cap) ∧ w14.cell? ⟨w12.heap.size, 9, none⟩ = some (.slice W.ba W.bn W.bcap) ∧ w14.cell? ⟨w12.heap.size, 10, none⟩ = some (.slice W.t.a W.t.n W.t.cap) ∧ w14.cell? ⟨w12.heap.size, 11, none⟩ = some (.int .i64 W.hd.r) ∧ w14.cell? ⟨w12.heap.size, 12, none⟩ = some (.int .i64 W.hd.c) ∧ w14.cell? ⟨w12.heap.size, 13, none⟩ = some (.slice W.hd.a W.hd.n W.hd.cap) := ⟨XW14.cell 0, XW14.cell 1, XW14.cell 2, XW14.cell 3, XW14.cell 4, XW14.cell 5, XW14.cell 6, XW14.cell 7, XW14.cell 8, XW14.cell 9, XW14.cell 10, XW14.cell 11, XW14.cell 12, XW14.cell 13⟩
          have D2 := doc_flat W w14 HR14.out.1 HR14.out.2.2.2.1 HR14.out.2.2.2.2.1
          rw [HWC.out, HR14.out.2.2.2.2.2] at D2
          clear XW14
          go_wp2_with fail
          refine D2.mono ?_
          rintro e w15 ⟨⟨v15, n15, rfl, ho15, hn15⟩, hb15⟩
          obtain ⟨fa, fcap, rfl, hEf, _⟩ := own_lies ho15 HW9.out (by omega)
          have hnn := hEf.1
          rw [HLN.out] at hnn
          subst hnn
          have D3 := bytes_yes fa (some ⟨fg, 0, none⟩) C fcap gcap fl w15 hEf (HE14.out.below hb15)
          have HB15 := Lib.hid (below_two HB14.out hb15)
          have HEB5 := Lib.hid (HEB4.out.below hb15)
          have HR15 := Lib.hid (HR14.out.bel hb15)
          have HXW15 := Lib.hid (HXW14.out.bel hb15)
          clear hb15 D2 z0 z1 z2 z3 z4 z5 z6 z7 z8 z9 z10 z11 z12 z13 ho15 hEf HE14 HEB4 HR14 HXW14
          go_wp2_with fail
          refine D3.mono ?_
          rintro e w16 ⟨rfl, d, rfl⟩
          generalize hw16 : w15.drewN d = w16
          have hb16 : Below w15.heap.size w15 w16 := by rw [← hw16]; exact below_drewN (Below.refl _ _) d
          have HB16 := Lib.hid (below_two HB15.out hb16)
          have HEB6 := Lib.hid (HEB5.out.below hb16)
          have HR16 := Lib.hid (HR15.out.bel hb16)
          have XW16 := HXW15.out.bel hb16
          have D4 := file_yes s HOK.out W w16 HR16.out.1 HR16.out.2.2.2.1 (by rw [HR16.out.2.2.2.2.2, HLN.out]; omega) HR16.out.2.1 HR16.out.2.2.1
          rw [HWC.out, HR16.out.2.2.2.2.2, HLN.out] at D4
          clear hw16 hb16 D3 HEB5 HR15 HXW15
          go_wp2_with (refine wpList_load_row rfl 45 _ rfl w12.heap.size rfl 45 _ (0, 0) _ XW16 Try.underlying45 rfl (by kernel_rfl) ?_)
          refine D4.mono ?_
          rintro e w17 ⟨⟨v17, rfl, ho17⟩, hb17⟩
          obtain ⟨ca, ccap, rfl, hEc, _, _, _, hca⟩ := own_lies ho17 HWF.out (by omega)
          obtain ⟨cg, rfl⟩ := hca (by omega)
          have HB17 := Lib.hid (below_two HB16.out hb17)
          have hE17 := HEB6.out.below hb17
          have hcv1 := run_convert_bytes_arg (P := Try.prog) w17 24 5 Try.underlying24 Try.underlying5 cg 0 (24 + C) ccap (fileL s fl) hEc.1 (fun i hi => by
            obtain ⟨b', off', he, hc⟩ := hEc.2.2.2 (by omega)
            cases he
            exact hc i hi) 9 Try.underlying9
          have hcv2 := run_convert_bytes_arg (P := Try.prog) w17 24 5 Try.underlying24 Try.underlying5 bg 0 (24 + C) bcap (fileL s fl) hE17.1 (fun i hi => by
            obtain ⟨b', off', he, hc⟩ := hE17.2.2.2 (by omega)
            cases he
            exact hc i hi) 9 Try.underlying9
          generalize strOfNums (fileL s fl) = str at *
          clear hb17 D4 ho17 hEc hca hE17 HEB6 HR16 XW16
          go_wp2_with fail
          go_ret
          exact ⟨ret_bool (by simp), HB17.out⟩
        · clear hlt e1
          go_wp2_with fail
          refine hF9.mono ?_
          rintro e w10 ⟨⟨v10, rfl, ho10⟩, hb10⟩
          have HB10 := Lib.hid (below_two HBX.out hb10)
          have HX10 := Lib.hid (HX9.out.bel hb10)
          have HE10 := Lib.hid (HE9.out.below hb10)
          have hwfF := fileL_wf s HOK.out fl
          obtain ⟨ba, bcap, rfl, hEb, hb1, hb2, _, hba⟩ := own_lies ho10 hwfF (by omega)
          obtain ⟨bg, rfl⟩ := hba (by omega)
          have hbl := hEb.1
          have hownL : (w10.alloc (.cells #[] 5)).ownsRow w10.heap.size 5 1 (.slice (some ⟨w10.heap.size, 0, none⟩) 0 0) 0 (([] : List Int).map (.int .u8)) := World.ownsRow_lit (e := 5) (size := 1) w10 #[] 0 (Nat.le_refl _) (by unfold maxLen; omega) rfl
          obtain ⟨v11, w11, hrun, ho11, hg11, _⟩ := run_append_elems (P := Try.prog) .u8 (w10.alloc (.cells #[] 5)) w10.heap.size 24 5 1 (by omega) Try.underlying24 info_u8 _ 0 [] hownL (some ⟨bg, 0, none⟩) (24 + C) bcap (fileL s fl) (hEb.below ((Below.refl _ _).alloc (Nat.le_refl _) _)) (by intro h; cases h) (by omega) (by omega) (by simp)
          have hb11 : Below w10.heap.size w10 w11 := ((Below.refl _ _).alloc (Nat.le_refl _) _).grown hg11 (by simp) (fun k hk => (hownL.lt k hk).1)
          rw [Nat.zero_add, List.nil_append] at ho11
          obtain ⟨pa, pcap, rfl, hEp, hp1, hp2, _, hpa⟩ := own_lies ho11 hwfF (by omega)
          obtain ⟨pg, rfl⟩ := hpa (by omega)
          have HP := parse_right s HOK.out fl (by rw [HLN.out, HCC.out]) HW9.out pg (24 + C) pcap w11 hEp hp1 hp2
          have HB11 := Lib.hid (below_two HB10.out hb11)
          have HX11 := Lib.hid (HX10.out.bel hb11)
          have HE11 := Lib.hid (HE10.out.below hb11)
          have HEB := Lib.hid (hEb.below hb11)
          have HWF := Lib.hid hwfF
          clear hF9 ho10 hb10 hEb hba hownL ho11 hg11 hb11 hEp hpa k0 k1 k2 k3 k4 k5 HX9 HE9 HX10 HE10 hwfF hbl
          go_wp2_with (at_builtin; refine wpList_append_at (by rfl) _ _ _ (by rfl) _ _ (by rfl) (by rfl) hrun ?_)
          refine HP.mono ?_
          rintro e w12 ⟨⟨W, he, hR⟩, hb12⟩
          have HWC : Hid (W.cells = #[.int .i64 s.l, .int .i64 s.w, .int .i64 s.h, .int .i64 s.i, .int .i64 s.v, .int .i64 s.p, .int .i64 W.e.r, .int .i64 W.e.c, .slice W.e.a W.e.n W.e.cap, .slice W.ba W.bn W.bcap, .slice W.t.a W.t.n W.t.cap, .int .i64 W.hd.r, .int .i64 W.hd.c, .slice W.hd.a W.hd.n W.hd.cap]) := Lib.hid (by obtain ⟨e1, e2, e3, e4, e5, e6⟩ := hR.2.1; unfold Wt7.cells; rw [e1, e2, e3, e4, e5, e6])
          rw [HWC.out] at he
          subst he
          have HR := Lib.hid hR
          have HB12 := Lib.hid (below_two HB11.out hb12)
          have HX12 := Lib.hid (HX11.out.bel hb12)
          have HE12 := Lib.hid (HE11.out.below hb12)
          have HEB2 := Lib.hid (HEB.out.below hb12)
          have HON1 := Lib.hid (wt_one7 W)
          rw [HWC.out] at HON1
          clear hb12 HP hrun hR HX11 HE11 HEB
          go_upto_region 11 with (refine wpList_store_row rfl 45 _ _ rfl w12.heap.size #[.int .i64 s.l, .int .i64 s.w, .int .i64 s.h, .int .i64 s.i, .int .i64 s.v, .int .i64 s.p, .int .i64 W.e.r, .int .i64 W.e.c, .slice W.e.a W.e.n W.e.cap, .slice W.ba W.bn W.bcap, .slice W.t.a W.t.n W.t.cap, .int .i64 W.hd.r, .int .i64 W.hd.c, .slice W.hd.a W.hd.n W.hd.cap] rfl rfl 45 _ (box_new _ _ _) (by kernel_rfl) rfl HON1.out ?_)
          generalize hw13 : World.setRow _ w12.heap.size _ = w13
          have hb13 : Below w12.heap.size w12 w13 := by rw [← hw13]; exact below_setRow ((Below.refl _ _).alloc (Nat.le_refl _) _) (Nat.le_refl _) (by simp)
          have XW : Box w13 w12.heap.size 45 #[.int .i64 s.l, .int .i64 s.w, .int .i64 s.h, .int .i64 s.i, .int .i64 s.v, .int .i64 s.p, .int .i64 W.e.r, .int .i64 W.e.c, .slice W.e.a W.e.n W.e.cap, .slice W.ba W.bn W.bcap, .slice W.t.a W.t.n W.t.cap, .int .i64 W.hd.r, .int .i64 W.hd.c, .slice W.hd.a W.hd.n W.hd.cap] := by rw [← hw13]; exact (box_new _ _ _).setRow
          have HB13 := Lib.hid (below_two HB12.out hb13)
          have HX13 := Lib.hid (HX12.out.bel hb13)
          have HE13 := Lib.hid (HE12.out.below hb13)
          have HEB3 := Lib.hid (HEB2.out.below hb13)
          have HR13 := Lib.hid (HR.out.bel hb13)
          have HXW := Lib.hid XW
          obtain ⟨z0, z1, z2, z3, z4, z5, z6, z7, z8, z9, z10, z11, z12, z13⟩ : w13.cell? ⟨w12.heap.size, 0, none⟩ = some (.int .i64 s.l) ∧ w13.cell? ⟨w12.heap.size, 1, none⟩ = some (.int .i64 s.w) ∧ w13.cell? ⟨w12.heap.size, 2, none⟩ = some (.int .i64 s.h) ∧ w13.cell? ⟨w12.heap.size, 3, none⟩ = some (.int .i64 s.i) ∧ w13.cell? ⟨w12.heap.size, 4, none⟩ = some (.int .i64 s.v) ∧ w13.cell? ⟨w12.heap.size, 5, none⟩ = some (.int .i64 s.p) ∧ w13.cell? ⟨w12.heap.size, 6, none⟩ = some (.int .i64 W.e.r) ∧ w13.cell? ⟨w12.heap.size, 7, none⟩ = some (.int .i64 W.e.c) ∧ w13.cell? ⟨w12.heap.size, 8, none⟩ = some (.slice W.e.a W.e.n W.e.cap) ∧ w13.cell? ⟨w12.heap.size, 9, none⟩ = some (.slice W.ba W.bn W.bcap) ∧ w13.cell? ⟨w12.heap.size, 10, none⟩ = some (.slice W.t.a W.t.n W.t.cap) ∧ w13.cell? ⟨w12.heap.size, 11, none⟩ = some (.int .i64 W.hd.r) ∧ w13.cell? ⟨w12.heap.size, 12, none⟩ = some (.int .i64 W.hd.c) ∧ w13.cell? ⟨w12.heap.size, 13, none⟩ = some (.slice W.hd.a W.hd.n W.hd.cap) := ⟨XW.cell 0, XW.cell 1, XW.cell 2, XW.cell 3, XW.cell 4, XW.cell 5, XW.cell 6, XW.cell 7, XW.cell 8, XW.cell 9, XW.cell 10, XW.cell 11, XW.cell 12, XW.cell 13⟩
          obtain ⟨k0, k1, k2, k3, k4, k5⟩ := HX13.out.cells6
          have D1 := doc_whole s HOK.out W w13 HR13.out.1 HR13.out.2.1 HR13.out.2.2.1
          rw [HWC.out] at D1
          clear hw13 hb13 XW HX12 HE12 HEB2 HR
          go_wp2_with fail
          refine D1.mono ?_
          rintro e w14 ⟨rfl, hb14⟩
          have HB14 := Lib.hid (below_two HB13.out hb14)
          have HE14 := Lib.hid (HE13.out.below hb14)
          have HEB4 := Lib.hid (HEB3.out.below hb14)
          have HR14 := Lib.hid (HR13.out.bel hb14)
          have XW14 := HXW.out.bel hb14
          have HXW14 := Lib.hid XW14
          clear hb14 D1 z0 z1 z2 z3 z4 z5 z6 z7 z8 z9 z10 z11 z12 z13 k0 k1 k2 k3 k4 k5 HE13 HEB3 HR13 HX13 HXW
          obtain ⟨z0, z1, z2, z3, z4, z5, z6, z7, z8, z9, z10, z11, z12, z13⟩ : w14.cell? ⟨w12.heap.size, 0, none⟩ = some (.int .i64 s.l) ∧ w14.cell? ⟨w12.heap.size, 1, none⟩ = some (.int .i64 s.w) ∧ w14.cell? ⟨w12.heap.size, 2, none⟩ = some (.int .i64 s.h) ∧ w14.cell? ⟨w12.heap.size, 3, none⟩ = some (.int .i64 s.i) ∧ w14.cell? ⟨w12.heap.size, 4, none⟩ = some (.int .i64 s.v) ∧ w14.cell? ⟨w12.heap.size, 5, none⟩ = some (.int .i64 s.p) ∧ w14.cell? ⟨w12.heap.size, 6, none⟩ = some (.int .i64 W.e.r) ∧ w14.cell? ⟨w12.heap.size, 7, none⟩ = some (.int .i64 W.e.c) ∧ w14.cell? ⟨w12.heap.size, 8, none⟩ = some (.slice W.e.a W.e.n W.e.cap) ∧ w14.cell? ⟨w12.heap.size, 9, none⟩ = some (.slice W.ba W.bn W.bcap) ∧ w14.cell? ⟨w12.heap.size, 10, none⟩ = some (.slice W.t.a W.t.n W.t.cap) ∧ w14.cell? ⟨w12.heap.size, 11, none⟩ = some (.int .i64 W.hd.r) ∧ w14.cell? ⟨w12.heap.size, 12, none⟩ = some (.int .i64 W.hd.c) ∧ w14.cell? ⟨w12.heap.size, 13, none⟩ = some (.slice W.hd.a W.hd.n W.hd.cap) := ⟨XW14.cell 0, XW14.cell 1, XW14.cell 2, XW14.cell 3, XW14.cell 4, XW14.cell 5, XW14.cell 6, XW14.cell 7, XW14.cell 8, XW14.cell 9, XW14.cell 10, XW14.cell 11, XW14.cell 12, XW14.cell 13⟩
          have D2 := doc_flat W w14 HR14.out.1 HR14.out.2.2.2.1 HR14.out.2.2.2.2.1
          rw [HWC.out, HR14.out.2.2.2.2.2] at D2
          clear XW14
          go_wp2_with fail
          refine D2.mono ?_
          rintro e w15 ⟨⟨v15, n15, rfl, ho15, hn15⟩, hb15⟩
          obtain ⟨fa, fcap, rfl, hEf, _⟩ := own_lies ho15 HW9.out (by omega)
          have hnn := hEf.1
          rw [HLN.out] at hnn
          subst hnn
          have D3 := bytes_yes fa (some ⟨fg, 0, none⟩) C fcap gcap fl w15 hEf (HE14.out.below hb15)
          have HB15 := Lib.hid (below_two HB14.out hb15)
          have HEB5 := Lib.hid (HEB4.out.below hb15)
          have HR15 := Lib.hid (HR14.out.bel hb15)
          have HXW15 := Lib.hid (HXW14.out.bel hb15)
          clear hb15 D2 z0 z1 z2 z3 z4 z5 z6 z7 z8 z9 z10 z11 z12 z13 ho15 hEf HE14 HEB4 HR14 HXW14
          go_wp2_with fail
          refine D3.mono ?_
          rintro e w16 ⟨rfl, d, rfl⟩
          generalize hw16 : w15.drewN d = w16
          have hb16 : Below w15.heap.size w15 w16 := by rw [← hw16]; exact below_drewN (Below.refl _ _) d
          have HB16 := Lib.hid (below_two HB15.out hb16)
          have HEB6 := Lib.hid (HEB5.out.below hb16)
          have HR16 := Lib.hid (HR15.out.bel hb16)
          have XW16 := HXW15.out.bel hb16
          have D4 := file_yes s HOK.out W w16 HR16.out.1 HR16.out.2.2.2.1 (by rw [HR16.out.2.2.2.2.2, HLN.out]; omega) HR16.out.2.1 HR16.out.2.2.1
          rw [HWC.out, HR16.out.2.2.2.2.2, HLN.out] at D4
          clear hw16 hb16 D3 HEB5 HR15 HXW15
          go_wp2_with (refine wpList_load_row rfl 45 _ rfl w12.heap.size rfl 45 _ (0, 0) _ XW16 Try.underlying45 rfl (by kernel_rfl) ?_)
          refine D4.mono ?_
          rintro e w17 ⟨⟨v17, rfl, ho17⟩, hb17⟩
          obtain ⟨ca, ccap, rfl, hEc, _, _, _, hca⟩ := own_lies ho17 HWF.out (by omega)
          obtain ⟨cg, rfl⟩ := hca (by omega)
          have HB17 := Lib.hid (below_two HB16.out hb17)
          have hE17 := HEB6.out.below hb17
          have hcv1 := run_convert_bytes_arg (P := Try.prog) w17 24 5 Try.underlying24 Try.underlying5 cg 0 (24 + C) ccap (fileL s fl) hEc.1 (fun i hi => by
            obtain ⟨b', off', he, hc⟩ := hEc.2.2.2 (by omega)
            cases he
            exact hc i hi) 9 Try.underlying9
          have hcv2 := run_convert_bytes_arg (P := Try.prog) w17 24 5 Try.underlying24 Try.underlying5 bg 0 (24 + C) bcap (fileL s fl) hE17.1 (fun i hi => by
            obtain ⟨b', off', he, hc⟩ := hE17.2.2.2 (by omega)
            cases he
            exact hc i hi) 9 Try.underlying9
          generalize strOfNums (fileL s fl) = str at *
          clear hb17 D4 ho17 hEc hca hE17 HEB6 HR16 XW16
          go_wp2_with fail
          go_ret
          exact ⟨ret_bool (by simp), HB17.out⟩

set_option maxRecDepth 100000 in
theorem lifted (os : Os) (started : os.Started) (H : Type) (enc : TypeId × Value → H) :
    ReturnsInHanded {} Try.checked os 6 .any (Rows.weightBackSpec.pre6 enc Try.prog Try.f6 Rows.weightBackRow.domain false) (Rows.weightBackSpec.post enc Try.prog Try.f6 false true false false) := by
  refine returnsInHanded_of_change (C := Try.checked) own started (by kernel_rfl) Try.func6
    (ChangeSpec.witness6 (enc := enc) (C := Try.checked) false ⟨#[], #[.agg #[.int .i64 0, .int .i64 0, .int .i64 0, .int .i64 0, .int .i64 0, .int .i64 0], .slice none 0 0, .int .u64 0], []⟩ 8 (by kernel_rfl) (by kernel_rfl) (by kernel_rfl) (by kernel_rfl)) ?_
  intro W base args ds gs before hval0 hW hcnd _
  have hval : ∀ (j : Nat) t v, Try.f6.params[j]? = some t → args[j]? = some v → Value.okWide Try.prog W .any base t v := hval0
  have hW' := hW
  obtain ⟨p, q, hA0, hV, rfl, hfz, hnd⟩ := hW
  have hA : DataW.TrodAll enc Try.prog W 0 (fun _ => true) true Try.f6.params.toList args.toList ds p := hA0
  rw [Try.params6] at hA hval
  obtain ⟨v0, vs0, d0, ds0, p0, q0, hargs, rfl, rfl, h0, r0⟩ := trodAll_cons hA
  obtain ⟨v1, vs1, d1, ds1, p1, q1, rfl, rfl, rfl, h1, r1⟩ := trodAll_cons r0
  obtain ⟨v2, vs2, d2, ds2, p2, q2, rfl, rfl, rfl, h2, r2⟩ := trodAll_cons r1
  obtain ⟨rfl, rfl, rfl⟩ := trodAll_nil r2
  obtain rfl : args = #[v0, v1, v2] := by cases args; simp_all
  obtain ⟨rfl, rfl⟩ := trodVars_none hV
  have k0 := h0
  have lt0 : ∀ x ∈ p0, x.block < W.heap.size := by obtain ⟨m, hm⟩ := k0; exact DataW.trod_lt m _ _ _ hm
  obtain ⟨xl0, xw0, xh0, xi0, xv0, xp0, rfl, w0⟩ := open_six (hval 0 37 v0 rfl rfl) h0
  have k1 := h1
  have lt1 : ∀ x ∈ p1, x.block < W.heap.size := by obtain ⟨m, hm⟩ := k1; exact DataW.trod_lt m _ _ _ hm
  obtain ⟨q1, rfl, w1⟩ := open_rw Try.underlying40 Try.underlying55 (by kernel_rfl) (hval 1 40 v1 rfl rfl) h1
  obtain ⟨a2, rfl, rfl, rfl, w2⟩ := open_int Try.underlying38 (hval 2 38 v2 rfl rfl) h2
  clear hA0 hval0
  refine (walk xl0 xw0 xh0 xi0 xv0 xp0 q1 a2 W w0 w1 w2).mono fun e W' ⟨he, bel⟩ => ?_
  subst he
  exact ⟨_, rfl, _, _, _, [], _, [], hW', trodAll_mk1 (shut_bool Try.underlying4 _), (trodAll_cons_mk (Below.trod laidOut (by kernel_rfl) (of_decide_eq_true (by kernel_rfl)) k0 bel lt0) (trodAll_cons_mk (Below.trod laidOut (by kernel_rfl) (of_decide_eq_true (by kernel_rfl)) k1 bel lt1) (trodAll_cons_mk (shut_int Try.underlying38 w2) trodAll_mk0))), rfl, bel.frame _, fun h => by cases h⟩

theorem over : Rows.weightBackRow.holds Try.pinned (OpenSpec.ofChange Rows.weightBackSpec) :=
  OpenClaim.holds_of_wide 6 Try.f6 rfl rfl rfl rfl rfl rfl rfl ⟨rfl, rfl, rfl, rfl, rfl⟩ rfl rfl rfl rfl rfl (by kernel_rfl) Try.func6 (by kernel_rfl)
    (of_decide_eq_true (by kernel_rfl)) (by unfold Func.isWrapper; first | (rw [if_pos (by decide +kernel)]; kernel_rfl) | (rw [if_neg (by decide +kernel)]; exact ⟨rfl, rfl⟩))
    (fun os started H enc _ => lifted os started H enc)

/-- ████ THE STATEMENT ████ -/
theorem proved : Rows.WeightBackSaid := over
#print axioms proved
end Go.Proofs.Ytlgnpicnpnibfaa.weightBack
