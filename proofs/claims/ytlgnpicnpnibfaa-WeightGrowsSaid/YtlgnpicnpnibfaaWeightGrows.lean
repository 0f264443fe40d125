/-
  Proved: for any six numbers, any seed and any shape WeightGrows returns true (weights that are grown out of a seed have the shape, are right for the code and for the document, and have the document's numbers; a shape that isn't right is refused) and nothing that was in memory turns. No condition.
-/
import Derived.Test.YtlgnpicnpnibfaaRows
import Derived.WalkKit
import Derived.ProofKit
import Derived.OpenShut
import Derived.ShutString
import Derived.ChangeOld
import Derived.Below
import Derived.Test.YtlgnpicnpnibfaaShapeRow
import Derived.Test.YtlgnpicnpnibfaaAwake7
import Derived.Test.YtlgnpicnpnibfaaTiny
import Derived.Test.YtlgnpicnpnibfaaGrown
import Derived.Test.YtlgnpicnpnibfaaFileBack
import Derived.Test.YtlgnpicnpnibfaaDocWhole
import Derived.Test.YtlgnpicnpnibfaaOwnCut
import Derived.Deep.RegionHeld3
namespace Go.Proofs.Ytlgnpicnpnibfaa.weightGrows
open Go.ChangeShapes Go.WideShapes Go.ChangeAt Go.RowKit
open Go.ChangeMaps (open_string shut_string)
set_option linter.unusedVariables false

theorem own : ownKnob Try.prog.godebug = none := by kernel_rfl
theorem laidOut : laidOutB Try.prog = true := by kernel_rfl

set_option maxHeartbeats 6400000 in
set_option maxRecDepth 100000 in
theorem walk (sl0 sw0 sh0 si0 sv0 sp0 : Int) (a1 : Int) (sl2 sw2 sh2 si2 sv2 sp2 : Int) (w : World) (h0 : Six sl0 sw0 sh0 si0 sv0 sp0) (h1 : (Lit.int .u64 a1).wf = true) (h2 : Six sl2 sw2 sh2 si2 sv2 sp2) :
    Calls Try.prog 5 #[.agg #[.int .i64 sl0, .int .i64 sw0, .int .i64 sh0, .int .i64 si0, .int .i64 sv0, .int .i64 sp0], .int .u64 a1, .agg #[.int .i64 sl2, .int .i64 sw2, .int .i64 sh2, .int .i64 si2, .int .i64 sv2, .int .i64 sp2]] w fun e w' => e = .returned (.bool true) ∧ Below w.heap.size w w' := by
  obtain ⟨w1, w2, w3, _⟩ := h2
  have b1 := wf64 w1
  have b2 := wf64 w2
  have b3 := wf64 w3
  obtain ⟨X, rfl⟩ : ∃ X : Nat, a1 = X := ⟨a1.toNat, by have := wfu64 h1; omega⟩
  have hX : X < 18446744073709551616 := by have := wfu64 h1; omega
  have HX := Lib.hid hX
  have HB64 := Lib.hid (And.intro b1 (And.intro b2 b3))
  clear h0 h1 hX w1 w2 w3 b1 b2 b3
  go_enter Try.func5, Try.ntmps5
  go_wp2_with fail
  refine (awake7 _).mono ?_
  rintro e w1 ⟨rfl, hb1⟩
  have HX1 : Hid (Box w1 w.heap.size 37 #[.int .i64 sl0, .int .i64 sw0, .int .i64 sh0, .int .i64 si0, .int .i64 sv0, .int .i64 sp0]) := Lib.hid (((box_new w _ _).alloc _).bel hb1)
  have HO1 : Hid (Box w1 (w.heap.size + 1) 30 #[.int .i64 sl2, .int .i64 sw2, .int .i64 sh2, .int .i64 si2, .int .i64 sv2, .int .i64 sp2]) := Lib.hid ((box_at (by simp) _ _).bel hb1)
  have HB1 := Lib.hid (below_two (((Below.refl w.heap.size w).alloc (Nat.le_refl _) _).alloc (by simp) _) hb1)
  clear hb1
  obtain ⟨z0, z1, z2, z3, z4, z5⟩ := HX1.out.cells6
  go_wp2_with fail
  refine (tiny_any sl0 sw0 sh0 si0 sv0 sp0 _).mono ?_
  rintro e w5 ⟨⟨s, hs, rfl⟩, hb⟩
  have HB5 := Lib.hid (below_two HB1.out hb)
  have HO5 := Lib.hid (HO1.out.bel hb)
  have ok := hs.1
  have hcn := cnt_le ok
  have HG := fun V => doc_grown s ok X HX.out V
  have HGR := fun V => grow_right s ok X HX.out V
  have HOK := Lib.hid ok
  have HGL := Lib.hid (grownL_wf s X HX.out)
  have HLL := Lib.hid (grownL_len s X)
  unfold Sz.val at HG HGR
  clear hb z0 z1 z2 z3 z4 z5 HX1 HO1 hs ok
  generalize hgl : grownL s X = gl at *
  clear hgl
  go_upto_region 4 with fail
  generalize hw6 : World.alloc _ _ = w6
  have hb6 : Below w5.heap.size w5 w6 := by rw [← hw6]; exact (Below.refl _ _).alloc (Nat.le_refl _) _
  have X6 : Box w6 w5.heap.size 30 #[.int .i64 s.l, .int .i64 s.w, .int .i64 s.h, .int .i64 s.i, .int .i64 s.v, .int .i64 s.p] := by rw [← hw6]; exact box_new _ _ _
  have HB6 := Lib.hid (below_two HB5.out hb6)
  have HX6 := Lib.hid X6
  have HO6 := Lib.hid (HO5.out.bel hb6)
  obtain ⟨k0, k1, k2, k3, k4, k5⟩ := X6.cells6
  clear hw6 hb6 X6 HB5 HO5
  go_wp2_with fail
  refine (HGR _).mono ?_
  rintro e w12 ⟨⟨W, he, hR⟩, hb12⟩
  have HWC : Hid (W.cells = #[.int .i64 s.l, .int .i64 s.w, .int .i64 s.h, .int .i64 s.i, .int .i64 s.v, .int .i64 s.p, .int .i64 W.e.r, .int .i64 W.e.c, .slice W.e.a W.e.n W.e.cap, .slice W.ba W.bn W.bcap, .slice W.t.a W.t.n W.t.cap, .int .i64 W.hd.r, .int .i64 W.hd.c, .slice W.hd.a W.hd.n W.hd.cap]) := Lib.hid (by obtain ⟨e1, e2, e3, e4, e5, e6⟩ := hR.2.1; unfold Wt7.cells; rw [e1, e2, e3, e4, e5, e6])
  rw [HWC.out] at he
  subst he
  have HR := Lib.hid hR
  have HB12 := Lib.hid (below_two HB6.out hb12)
  have HX12 := Lib.hid (HX6.out.bel hb12)
  have HO12 := Lib.hid (HO6.out.bel hb12)
  have HON1 := Lib.hid (wt_one7 W)
  rw [HWC.out] at HON1
  clear hb12 HGR hR HX6 HO6 k0 k1 k2 k3 k4 k5
  go_upto_region 5 with (refine wpList_store_row rfl 45 _ _ rfl w12.heap.size #[.int .i64 s.l, .int .i64 s.w, .int .i64 s.h, .int .i64 s.i, .int .i64 s.v, .int .i64 s.p, .int .i64 W.e.r, .int .i64 W.e.c, .slice W.e.a W.e.n W.e.cap, .slice W.ba W.bn W.bcap, .slice W.t.a W.t.n W.t.cap, .int .i64 W.hd.r, .int .i64 W.hd.c, .slice W.hd.a W.hd.n W.hd.cap] rfl rfl 45 _ (box_new _ _ _) (by kernel_rfl) rfl HON1.out ?_)
  generalize hw13 : World.setRow _ w12.heap.size _ = w13
  have hb13 : Below w12.heap.size w12 w13 := by rw [← hw13]; exact below_setRow ((Below.refl _ _).alloc (Nat.le_refl _) _) (Nat.le_refl _) (by simp)
  have XW : Box w13 w12.heap.size 45 #[.int .i64 s.l, .int .i64 s.w, .int .i64 s.h, .int .i64 s.i, .int .i64 s.v, .int .i64 s.p, .int .i64 W.e.r, .int .i64 W.e.c, .slice W.e.a W.e.n W.e.cap, .slice W.ba W.bn W.bcap, .slice W.t.a W.t.n W.t.cap, .int .i64 W.hd.r, .int .i64 W.hd.c, .slice W.hd.a W.hd.n W.hd.cap] := by rw [← hw13]; exact (box_new _ _ _).setRow
  have HB13 := Lib.hid (below_two HB12.out hb13)
  have HX13 := Lib.hid (HX12.out.bel hb13)
  have HO13 := Lib.hid (HO12.out.bel hb13)
  have HR13 := Lib.hid (HR.out.bel hb13)
  have HXW := Lib.hid XW
  obtain ⟨z0, z1, z2, z3, z4, z5, z6, z7, z8, z9, z10, z11, z12, z13⟩ : w13.cell? ⟨w12.heap.size, 0, none⟩ = some (.int .i64 s.l) ∧ w13.cell? ⟨w12.heap.size, 1, none⟩ = some (.int .i64 s.w) ∧ w13.cell? ⟨w12.heap.size, 2, none⟩ = some (.int .i64 s.h) ∧ w13.cell? ⟨w12.heap.size, 3, none⟩ = some (.int .i64 s.i) ∧ w13.cell? ⟨w12.heap.size, 4, none⟩ = some (.int .i64 s.v) ∧ w13.cell? ⟨w12.heap.size, 5, none⟩ = some (.int .i64 s.p) ∧ w13.cell? ⟨w12.heap.size, 6, none⟩ = some (.int .i64 W.e.r) ∧ w13.cell? ⟨w12.heap.size, 7, none⟩ = some (.int .i64 W.e.c) ∧ w13.cell? ⟨w12.heap.size, 8, none⟩ = some (.slice W.e.a W.e.n W.e.cap) ∧ w13.cell? ⟨w12.heap.size, 9, none⟩ = some (.slice W.ba W.bn W.bcap) ∧ w13.cell? ⟨w12.heap.size, 10, none⟩ = some (.slice W.t.a W.t.n W.t.cap) ∧ w13.cell? ⟨w12.heap.size, 11, none⟩ = some (.int .i64 W.hd.r) ∧ w13.cell? ⟨w12.heap.size, 12, none⟩ = some (.int .i64 W.hd.c) ∧ w13.cell? ⟨w12.heap.size, 13, none⟩ = some (.slice W.hd.a W.hd.n W.hd.cap) := ⟨XW.cell 0, XW.cell 1, XW.cell 2, XW.cell 3, XW.cell 4, XW.cell 5, XW.cell 6, XW.cell 7, XW.cell 8, XW.cell 9, XW.cell 10, XW.cell 11, XW.cell 12, XW.cell 13⟩
  obtain ⟨k0, k1, k2, k3, k4, k5⟩ := HX13.out.cells6
  have D1 : ∀ V, Below w13.heap.size w13 V → Calls Try.prog 19 #[.agg #[.int .i64 s.l, .int .i64 s.w, .int .i64 s.h, .int .i64 s.i, .int .i64 s.v, .int .i64 s.p, .int .i64 W.e.r, .int .i64 W.e.c, .slice W.e.a W.e.n W.e.cap, .slice W.ba W.bn W.bcap, .slice W.t.a W.t.n W.t.cap, .int .i64 W.hd.r, .int .i64 W.hd.c, .slice W.hd.a W.hd.n W.hd.cap]] V fun e w' => e = .returned (.bool true) ∧ Below V.heap.size V w' := fun V hV => by
    have D := doc_whole s HOK.out W V (HR13.out.1.bel hV) HR13.out.2.1 HR13.out.2.2.1
    rw [HWC.out] at D
    exact D
  have D2 : ∀ V T, Below w13.heap.size w13 V → Calls Try.prog 20 #[.slice (some ⟨V.heap.size, 0, none⟩) 2 2] (V.alloc (.cells #[.int .i64 s.l, .int .i64 s.w, .int .i64 s.h, .int .i64 s.i, .int .i64 s.v, .int .i64 s.p, .int .i64 W.e.r, .int .i64 W.e.c, .slice W.e.a W.e.n W.e.cap, .slice W.ba W.bn W.bcap, .slice W.t.a W.t.n W.t.cap, .int .i64 W.hd.r, .int .i64 W.hd.c, .slice W.hd.a W.hd.n W.hd.cap, .int .i64 s.l, .int .i64 s.w, .int .i64 s.h, .int .i64 s.i, .int .i64 s.v, .int .i64 s.p, .int .i64 W.e.r, .int .i64 W.e.c, .slice W.e.a W.e.n W.e.cap, .slice W.ba W.bn W.bcap, .slice W.t.a W.t.n W.t.cap, .int .i64 W.hd.r, .int .i64 W.hd.c, .slice W.hd.a W.hd.n W.hd.cap] T)) fun e w' => e = .returned (.bool true) ∧ Below V.heap.size V w' := fun V T hV => by
    have D := code_whole V.heap.size 2 2 [W, W] _ (wts_two (T := T) W W (HR13.out.1.bel hV) (HR13.out.1.bel hV))
    simp only [List.all_cons, List.all_nil, wholeB_ok HOK.out HR13.out.2.1, HR13.out.2.2.1, HWC.out, Bool.and_true] at D
    exact D.mono fun e w' ⟨h1, h2⟩ => ⟨h1, ((Below.refl _ _).alloc (Nat.le_refl _) _).trans (h2.mono (by simp))⟩
  have D3 : ∀ V, Below w13.heap.size w13 V → Calls Try.prog 22 #[.agg #[.int .i64 s.l, .int .i64 s.w, .int .i64 s.h, .int .i64 s.i, .int .i64 s.v, .int .i64 s.p, .int .i64 W.e.r, .int .i64 W.e.c, .slice W.e.a W.e.n W.e.cap, .slice W.ba W.bn W.bcap, .slice W.t.a W.t.n W.t.cap, .int .i64 W.hd.r, .int .i64 W.hd.c, .slice W.hd.a W.hd.n W.hd.cap]] V fun e w' => OwnI8 V.heap.size gl e w' ∧ Below V.heap.size V w' := fun V hV => by
    have D := doc_flat W V (HR13.out.1.bel hV) HR13.out.2.2.2.1 HR13.out.2.2.2.2.1
    rw [HWC.out, HR13.out.2.2.2.2.2] at D
    exact D
  clear hw13 hb13 XW HX12 HO12 HR
  go_region_held3 (fun V => V.cell? ⟨w12.heap.size, 0, none⟩ = some (.int .i64 s.l) ∧ V.cell? ⟨w12.heap.size, 1, none⟩ = some (.int .i64 s.w) ∧ V.cell? ⟨w12.heap.size, 2, none⟩ = some (.int .i64 s.h) ∧ V.cell? ⟨w12.heap.size, 3, none⟩ = some (.int .i64 s.i) ∧ V.cell? ⟨w12.heap.size, 4, none⟩ = some (.int .i64 s.v) ∧ V.cell? ⟨w12.heap.size, 5, none⟩ = some (.int .i64 s.p) ∧ V.cell? ⟨w12.heap.size, 6, none⟩ = some (.int .i64 W.e.r) ∧ V.cell? ⟨w12.heap.size, 7, none⟩ = some (.int .i64 W.e.c) ∧ V.cell? ⟨w12.heap.size, 8, none⟩ = some (.slice W.e.a W.e.n W.e.cap) ∧ V.cell? ⟨w12.heap.size, 9, none⟩ = some (.slice W.ba W.bn W.bcap) ∧ V.cell? ⟨w12.heap.size, 10, none⟩ = some (.slice W.t.a W.t.n W.t.cap) ∧ V.cell? ⟨w12.heap.size, 11, none⟩ = some (.int .i64 W.hd.r) ∧ V.cell? ⟨w12.heap.size, 12, none⟩ = some (.int .i64 W.hd.c) ∧ V.cell? ⟨w12.heap.size, 13, none⟩ = some (.slice W.hd.a W.hd.n W.hd.cap) ∧ V.cell? ⟨w5.heap.size, 0, none⟩ = some (.int .i64 s.l) ∧ V.cell? ⟨w5.heap.size, 1, none⟩ = some (.int .i64 s.w) ∧ V.cell? ⟨w5.heap.size, 2, none⟩ = some (.int .i64 s.h) ∧ V.cell? ⟨w5.heap.size, 3, none⟩ = some (.int .i64 s.i) ∧ V.cell? ⟨w5.heap.size, 4, none⟩ = some (.int .i64 s.v) ∧ V.cell? ⟨w5.heap.size, 5, none⟩ = some (.int .i64 s.p)) (first | go_keep | (go_split_ands; refine ⟨?_, ?_, ?_, ?_, ?_, ?_, ?_, ?_, ?_, ?_, ?_, ?_, ?_, ?_, ?_, ?_, ?_, ?_, ?_, ?_⟩ <;> assumption))
    (first
    | (go_at_call 19; (with_reducible refine (D1 _ ((Below.refl _ _).drew)).mono ?_); rintro e v1 ⟨rfl, hv1⟩
       have HH0 : Hid (Below w13.heap.size w13 w13.drew) := Lib.hid ((Below.refl _ _).drew)
       have HH1 := Lib.hid (below_two HH0.out hv1)
       have XX := HXW.out.bel HH1.out
       have YY := HX13.out.bel HH1.out
       obtain ⟨p1_0, p1_1, p1_2, p1_3, p1_4, p1_5, p1_6, p1_7, p1_8, p1_9, p1_10, p1_11, p1_12, p1_13⟩ : v1.cell? ⟨w12.heap.size, 0, none⟩ = some (.int .i64 s.l) ∧ v1.cell? ⟨w12.heap.size, 1, none⟩ = some (.int .i64 s.w) ∧ v1.cell? ⟨w12.heap.size, 2, none⟩ = some (.int .i64 s.h) ∧ v1.cell? ⟨w12.heap.size, 3, none⟩ = some (.int .i64 s.i) ∧ v1.cell? ⟨w12.heap.size, 4, none⟩ = some (.int .i64 s.v) ∧ v1.cell? ⟨w12.heap.size, 5, none⟩ = some (.int .i64 s.p) ∧ v1.cell? ⟨w12.heap.size, 6, none⟩ = some (.int .i64 W.e.r) ∧ v1.cell? ⟨w12.heap.size, 7, none⟩ = some (.int .i64 W.e.c) ∧ v1.cell? ⟨w12.heap.size, 8, none⟩ = some (.slice W.e.a W.e.n W.e.cap) ∧ v1.cell? ⟨w12.heap.size, 9, none⟩ = some (.slice W.ba W.bn W.bcap) ∧ v1.cell? ⟨w12.heap.size, 10, none⟩ = some (.slice W.t.a W.t.n W.t.cap) ∧ v1.cell? ⟨w12.heap.size, 11, none⟩ = some (.int .i64 W.hd.r) ∧ v1.cell? ⟨w12.heap.size, 12, none⟩ = some (.int .i64 W.hd.c) ∧ v1.cell? ⟨w12.heap.size, 13, none⟩ = some (.slice W.hd.a W.hd.n W.hd.cap) := ⟨XX.cell 0, XX.cell 1, XX.cell 2, XX.cell 3, XX.cell 4, XX.cell 5, XX.cell 6, XX.cell 7, XX.cell 8, XX.cell 9, XX.cell 10, XX.cell 11, XX.cell 12, XX.cell 13⟩
       obtain ⟨q1_0, q1_1, q1_2, q1_3, q1_4, q1_5⟩ := YY.cells6
       clear XX YY hv1)
    | (go_at_call 20; (with_reducible refine (D2 v1 _ HH1.out).mono ?_); rintro e v2 ⟨rfl, hv2⟩
       have HH2 := Lib.hid (below_two HH1.out hv2)
       have XX := HXW.out.bel HH2.out
       have YY := HX13.out.bel HH2.out
       obtain ⟨p2_0, p2_1, p2_2, p2_3, p2_4, p2_5, p2_6, p2_7, p2_8, p2_9, p2_10, p2_11, p2_12, p2_13⟩ : v2.cell? ⟨w12.heap.size, 0, none⟩ = some (.int .i64 s.l) ∧ v2.cell? ⟨w12.heap.size, 1, none⟩ = some (.int .i64 s.w) ∧ v2.cell? ⟨w12.heap.size, 2, none⟩ = some (.int .i64 s.h) ∧ v2.cell? ⟨w12.heap.size, 3, none⟩ = some (.int .i64 s.i) ∧ v2.cell? ⟨w12.heap.size, 4, none⟩ = some (.int .i64 s.v) ∧ v2.cell? ⟨w12.heap.size, 5, none⟩ = some (.int .i64 s.p) ∧ v2.cell? ⟨w12.heap.size, 6, none⟩ = some (.int .i64 W.e.r) ∧ v2.cell? ⟨w12.heap.size, 7, none⟩ = some (.int .i64 W.e.c) ∧ v2.cell? ⟨w12.heap.size, 8, none⟩ = some (.slice W.e.a W.e.n W.e.cap) ∧ v2.cell? ⟨w12.heap.size, 9, none⟩ = some (.slice W.ba W.bn W.bcap) ∧ v2.cell? ⟨w12.heap.size, 10, none⟩ = some (.slice W.t.a W.t.n W.t.cap) ∧ v2.cell? ⟨w12.heap.size, 11, none⟩ = some (.int .i64 W.hd.r) ∧ v2.cell? ⟨w12.heap.size, 12, none⟩ = some (.int .i64 W.hd.c) ∧ v2.cell? ⟨w12.heap.size, 13, none⟩ = some (.slice W.hd.a W.hd.n W.hd.cap) := ⟨XX.cell 0, XX.cell 1, XX.cell 2, XX.cell 3, XX.cell 4, XX.cell 5, XX.cell 6, XX.cell 7, XX.cell 8, XX.cell 9, XX.cell 10, XX.cell 11, XX.cell 12, XX.cell 13⟩
       obtain ⟨q2_0, q2_1, q2_2, q2_3, q2_4, q2_5⟩ := YY.cells6
       clear XX YY hv2)
    | (go_at_call 22; (with_reducible refine (D3 v2 HH2.out).mono ?_); rintro e v3 ⟨⟨f3, n3, rfl, ho3, hn3⟩, hv3⟩
       obtain ⟨fa, fcap, rfl, hEf, _⟩ := own_lies ho3 HGL.out (by omega)
       have HEF := Lib.hid hEf
       have hnn := hEf.1
       rw [HLL.out] at hnn
       have HNN := Lib.hid hnn
       clear ho3 hEf hnn
       have HH3 := Lib.hid (below_two HH2.out hv3)
       have XX := HXW.out.bel HH3.out
       have YY := HX13.out.bel HH3.out
       obtain ⟨p3_0, p3_1, p3_2, p3_3, p3_4, p3_5, p3_6, p3_7, p3_8, p3_9, p3_10, p3_11, p3_12, p3_13⟩ : v3.cell? ⟨w12.heap.size, 0, none⟩ = some (.int .i64 s.l) ∧ v3.cell? ⟨w12.heap.size, 1, none⟩ = some (.int .i64 s.w) ∧ v3.cell? ⟨w12.heap.size, 2, none⟩ = some (.int .i64 s.h) ∧ v3.cell? ⟨w12.heap.size, 3, none⟩ = some (.int .i64 s.i) ∧ v3.cell? ⟨w12.heap.size, 4, none⟩ = some (.int .i64 s.v) ∧ v3.cell? ⟨w12.heap.size, 5, none⟩ = some (.int .i64 s.p) ∧ v3.cell? ⟨w12.heap.size, 6, none⟩ = some (.int .i64 W.e.r) ∧ v3.cell? ⟨w12.heap.size, 7, none⟩ = some (.int .i64 W.e.c) ∧ v3.cell? ⟨w12.heap.size, 8, none⟩ = some (.slice W.e.a W.e.n W.e.cap) ∧ v3.cell? ⟨w12.heap.size, 9, none⟩ = some (.slice W.ba W.bn W.bcap) ∧ v3.cell? ⟨w12.heap.size, 10, none⟩ = some (.slice W.t.a W.t.n W.t.cap) ∧ v3.cell? ⟨w12.heap.size, 11, none⟩ = some (.int .i64 W.hd.r) ∧ v3.cell? ⟨w12.heap.size, 12, none⟩ = some (.int .i64 W.hd.c) ∧ v3.cell? ⟨w12.heap.size, 13, none⟩ = some (.slice W.hd.a W.hd.n W.hd.cap) := ⟨XX.cell 0, XX.cell 1, XX.cell 2, XX.cell 3, XX.cell 4, XX.cell 5, XX.cell 6, XX.cell 7, XX.cell 8, XX.cell 9, XX.cell 10, XX.cell 11, XX.cell 12, XX.cell 13⟩
       obtain ⟨q3_0, q3_1, q3_2, q3_3, q3_4, q3_5⟩ := YY.cells6
       clear XX YY hv3)
    | (go_at_call 23; (with_reducible refine (HG v3).mono ?_); rintro e v4 ⟨⟨f4, rfl, ho4⟩, hv4⟩
       obtain ⟨ga, gcap, rfl, hEg, _⟩ := own_lies ho4 HGL.out (by omega)
       have hE3 := HEF.out.below hv4
       rw [← HNN.out] at hE3
       have D5 := bytes_yes fa ga (cnt s) fcap gcap gl v4 hE3 hEg
       have hNN := HNN.out
       subst hNN
       clear ho4 hEg hE3
       have HH4 := Lib.hid (below_two HH3.out hv4)
       have XX := HXW.out.bel HH4.out
       have YY := HX13.out.bel HH4.out
       obtain ⟨p4_0, p4_1, p4_2, p4_3, p4_4, p4_5, p4_6, p4_7, p4_8, p4_9, p4_10, p4_11, p4_12, p4_13⟩ : v4.cell? ⟨w12.heap.size, 0, none⟩ = some (.int .i64 s.l) ∧ v4.cell? ⟨w12.heap.size, 1, none⟩ = some (.int .i64 s.w) ∧ v4.cell? ⟨w12.heap.size, 2, none⟩ = some (.int .i64 s.h) ∧ v4.cell? ⟨w12.heap.size, 3, none⟩ = some (.int .i64 s.i) ∧ v4.cell? ⟨w12.heap.size, 4, none⟩ = some (.int .i64 s.v) ∧ v4.cell? ⟨w12.heap.size, 5, none⟩ = some (.int .i64 s.p) ∧ v4.cell? ⟨w12.heap.size, 6, none⟩ = some (.int .i64 W.e.r) ∧ v4.cell? ⟨w12.heap.size, 7, none⟩ = some (.int .i64 W.e.c) ∧ v4.cell? ⟨w12.heap.size, 8, none⟩ = some (.slice W.e.a W.e.n W.e.cap) ∧ v4.cell? ⟨w12.heap.size, 9, none⟩ = some (.slice W.ba W.bn W.bcap) ∧ v4.cell? ⟨w12.heap.size, 10, none⟩ = some (.slice W.t.a W.t.n W.t.cap) ∧ v4.cell? ⟨w12.heap.size, 11, none⟩ = some (.int .i64 W.hd.r) ∧ v4.cell? ⟨w12.heap.size, 12, none⟩ = some (.int .i64 W.hd.c) ∧ v4.cell? ⟨w12.heap.size, 13, none⟩ = some (.slice W.hd.a W.hd.n W.hd.cap) := ⟨XX.cell 0, XX.cell 1, XX.cell 2, XX.cell 3, XX.cell 4, XX.cell 5, XX.cell 6, XX.cell 7, XX.cell 8, XX.cell 9, XX.cell 10, XX.cell 11, XX.cell 12, XX.cell 13⟩
       obtain ⟨q4_0, q4_1, q4_2, q4_3, q4_4, q4_5⟩ := YY.cells6
       clear XX YY hv4)
    | (go_at_call 21; (with_reducible refine D5.mono ?_); rintro e v5 ⟨rfl, d, rfl⟩)
    | (exact (0 : Nat)))
  generalize hu0 : v4.drewN d = u0
  have hbu : Below w13.heap.size w13 u0 := by rw [← hu0]; exact below_drewN HH4.out d
  have HBU := Lib.hid (below_two HB13.out hbu)
  have HOU := Lib.hid (HO13.out.bel hbu)
  clear hu0 hbu z0 z1 z2 z3 z4 z5 z6 z7 z8 z9 z10 z11 z12 z13 k0 k1 k2 k3 k4 k5 D1 D2 D3 D5 HG HX13 HXW HR13 HO13
  clear p1_0 p1_1 p1_2 p1_3 p1_4 p1_5 p1_6 p1_7 p1_8 p1_9 p1_10 p1_11 p1_12 p1_13 q1_0 q1_1 q1_2 q1_3 q1_4 q1_5
  clear p2_0 p2_1 p2_2 p2_3 p2_4 p2_5 p2_6 p2_7 p2_8 p2_9 p2_10 p2_11 p2_12 p2_13 q2_0 q2_1 q2_2 q2_3 q2_4 q2_5
  clear p3_0 p3_1 p3_2 p3_3 p3_4 p3_5 p3_6 p3_7 p3_8 p3_9 p3_10 p3_11 p3_12 p3_13 q3_0 q3_1 q3_2 q3_3 q3_4 q3_5
  clear p4_0 p4_1 p4_2 p4_3 p4_4 p4_5 p4_6 p4_7 p4_8 p4_9 p4_10 p4_11 p4_12 p4_13 q4_0 q4_1 q4_2 q4_3 q4_4 q4_5
  obtain ⟨c0, c1, c2, c3, c4, c5⟩ := HOU.out.cells6
  by_cases ok2 : OkI sl2 sw2 sh2 si2 sv2 sp2
  · have r1 := fun V => dright_yes sl2 sw2 sh2 si2 sv2 sp2 V ok2
    unfold shv at r1
    clear ok2
    go_wp2_with fail
    refine (r1 _).mono ?_
    rintro e u1 ⟨rfl, hb⟩
    have B := Lib.hid (below_two HBU.out hb)
    clear r1 hb c0 c1 c2 c3 c4 c5
    go_wp2_with fail
    go_ret
    exact ⟨rfl, B.out⟩
  · have r1 := fun V => dright_no sl2 sw2 sh2 si2 sv2 sp2 V HB64.out ok2
    have r2 := fun V => grow_no sl2 sw2 sh2 si2 sv2 sp2 X V HB64.out ok2
    have r3 := wholeB_no (W := zeroW sl2 sw2 sh2 si2 sv2 sp2) ok2
    unfold shv at r1 r2
    have R3 := Lib.hid r3
    clear ok2 r3
    go_wp2_with fail
    refine (r1 _).mono ?_
    rintro e u1 ⟨rfl, hb⟩
    have HB1u := Lib.hid (below_two HBU.out hb)
    have HO1u := Lib.hid (HOU.out.bel hb)
    clear r1 hb c0 c1 c2 c3 c4 c5 HOU
    obtain ⟨c0, c1, c2, c3, c4, c5⟩ := HO1u.out.cells6
    go_wp2_with fail
    refine (r2 _).mono ?_
    rintro e u2 ⟨rfl, hb⟩
    have HB2u := Lib.hid (below_two HB1u.out hb)
    have HO2u := Lib.hid (HO1u.out.bel hb)
    clear r2 hb c0 c1 c2 c3 c4 c5 HO1u
    unfold zwts
    go_upto_region 10 with fail
    generalize hu3 : World.alloc _ _ = u3
    have hb3 : Below u2.heap.size u2 u3 := by rw [← hu3]; exact (Below.refl _ _).alloc (Nat.le_refl _) _
    have y9 : u3.cell? ⟨u2.heap.size, 9, none⟩ = some (.slice none 0 0) := by rw [← hu3]; exact (box_new _ _ _).cell 9
    have HB3u := Lib.hid (below_two HB2u.out hb3)
    have HO3u := HO2u.out.bel hb3
    obtain ⟨c0, c1, c2, c3, c4, c5⟩ := HO3u.cells6
    have D6 : ∀ T, Calls Try.prog 20 #[.slice (some ⟨u3.heap.size, 0, none⟩) 1 1] (u3.alloc (.cells (zeroW sl2 sw2 sh2 si2 sv2 sp2).cells T)) fun e w' => e = .returned (.bool false) ∧ Below u3.heap.size u3 w' := fun T => by
      have h := code_whole u3.heap.size 1 1 [zeroW sl2 sw2 sh2 si2 sv2 sp2] _ (wts_one (T := T) _ (zeroW_in u3 HB64.out))
      simp only [List.all_cons, List.all_nil, R3.out, Bool.and_true] at h
      exact h.mono fun e w' ⟨h1, h2⟩ => ⟨h1, ((Below.refl _ _).alloc (Nat.le_refl _) _).trans (h2.mono (by simp))⟩
    unfold Wt7.cells zeroW at D6
    clear hu3 hb3 HO3u HO2u
    go_wp2_with fail
    refine (D6 _).mono ?_
    rintro e u4 ⟨rfl, hb⟩
    have B := Lib.hid (below_two HB3u.out hb)
    clear D6 hb c0 c1 c2 c3 c4 c5 y9
    go_wp2_with fail
    go_ret
    exact ⟨rfl, B.out⟩

set_option maxRecDepth 100000 in
theorem lifted (os : Os) (started : os.Started) (H : Type) (enc : TypeId × Value → H) :
    ReturnsInHanded {} Try.checked os 5 .any (Rows.weightGrowsSpec.pre6 enc Try.prog Try.f5 Rows.weightGrowsRow.domain false) (Rows.weightGrowsSpec.post enc Try.prog Try.f5 false true false false) := by
  refine returnsInHanded_of_change (C := Try.checked) own started (by kernel_rfl) Try.func5
    (ChangeSpec.witness6 (enc := enc) (C := Try.checked) false ⟨#[], #[.agg #[.int .i64 0, .int .i64 0, .int .i64 0, .int .i64 0, .int .i64 0, .int .i64 0], .int .u64 0, .agg #[.int .i64 0, .int .i64 0, .int .i64 0, .int .i64 0, .int .i64 0, .int .i64 0]], []⟩ 8 (by kernel_rfl) (by kernel_rfl) (by kernel_rfl) (by kernel_rfl)) ?_
  intro W base args ds gs before hval0 hW hcnd _
  have hval : ∀ (j : Nat) t v, Try.f5.params[j]? = some t → args[j]? = some v → Value.okWide Try.prog W .any base t v := hval0
  have hW' := hW
  obtain ⟨p, q, hA0, hV, rfl, hfz, hnd⟩ := hW
  have hA : DataW.TrodAll enc Try.prog W 0 (fun _ => true) true Try.f5.params.toList args.toList ds p := hA0
  rw [Try.params5] at hA hval
  obtain ⟨v0, vs0, d0, ds0, p0, q0, hargs, rfl, rfl, h0, r0⟩ := trodAll_cons hA
  obtain ⟨v1, vs1, d1, ds1, p1, q1, rfl, rfl, rfl, h1, r1⟩ := trodAll_cons r0
  obtain ⟨v2, vs2, d2, ds2, p2, q2, rfl, rfl, rfl, h2, r2⟩ := trodAll_cons r1
  obtain ⟨rfl, rfl, rfl⟩ := trodAll_nil r2
  obtain rfl : args = #[v0, v1, v2] := by cases args; simp_all
  obtain ⟨rfl, rfl⟩ := trodVars_none hV
  have k0 := h0
  have lt0 : ∀ x ∈ p0, x.block < W.heap.size := by obtain ⟨m, hm⟩ := k0; exact DataW.trod_lt m _ _ _ hm
  obtain ⟨xl0, xw0, xh0, xi0, xv0, xp0, rfl, w0⟩ := open_six (hval 0 37 v0 rfl rfl) h0
  obtain ⟨a1, rfl, rfl, rfl, w1⟩ := open_int Try.underlying38 (hval 1 38 v1 rfl rfl) h1
  have k2 := h2
  have lt2 : ∀ x ∈ p2, x.block < W.heap.size := by obtain ⟨m, hm⟩ := k2; exact DataW.trod_lt m _ _ _ hm
  obtain ⟨xl2, xw2, xh2, xi2, xv2, xp2, rfl, w2⟩ := open_shape (hval 2 30 v2 rfl rfl) h2
  clear hA0 hval0
  refine (walk xl0 xw0 xh0 xi0 xv0 xp0 a1 xl2 xw2 xh2 xi2 xv2 xp2 W w0 w1 w2).mono fun e W' ⟨he, bel⟩ => ?_
  subst he
  exact ⟨_, rfl, _, _, _, [], _, [], hW', trodAll_mk1 (shut_bool Try.underlying4 _), (trodAll_cons_mk (Below.trod laidOut (by kernel_rfl) (of_decide_eq_true (by kernel_rfl)) k0 bel lt0) (trodAll_cons_mk (shut_int Try.underlying38 w1) (trodAll_cons_mk (Below.trod laidOut (by kernel_rfl) (of_decide_eq_true (by kernel_rfl)) k2 bel lt2) trodAll_mk0))), rfl, bel.frame _, fun h => by cases h⟩

theorem over : Rows.weightGrowsRow.holds Try.pinned (OpenSpec.ofChange Rows.weightGrowsSpec) :=
  OpenClaim.holds_of_wide 5 Try.f5 rfl rfl rfl rfl rfl rfl rfl ⟨rfl, rfl, rfl, rfl, rfl⟩ rfl rfl rfl rfl rfl (by kernel_rfl) Try.func5 (by kernel_rfl)
    (of_decide_eq_true (by kernel_rfl)) (by unfold Func.isWrapper; first | (rw [if_pos (by decide +kernel)]; kernel_rfl) | (rw [if_neg (by decide +kernel)]; exact ⟨rfl, rfl⟩))
    (fun os started H enc _ => lifted os started H enc)

/-- ████ THE STATEMENT ████ -/
theorem proved : Rows.WeightGrowsSaid := over
#print axioms proved
end Go.Proofs.Ytlgnpicnpnibfaa.weightGrows
