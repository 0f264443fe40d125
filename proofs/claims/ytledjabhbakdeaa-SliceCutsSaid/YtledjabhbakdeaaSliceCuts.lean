/-
  Proved: for any shape, cut and number SliceCuts returns true (the same cuts are right for the code and for the document, with as many workers, and each stage and part has what the document says, or is refused as it says) and nothing that was in memory turns. No condition.
-/
import Derived.Test.YtledjabhbakdeaaRows
import Derived.WalkKit
import Derived.ProofKit
import Derived.OpenShut
import Derived.ShutString
import Derived.ChangeOld
import Derived.Below
import Derived.Test.YtledjabhbakdeaaCutRow
import Derived.Test.YtledjabhbakdeaaAwake10
import Derived.Deep.RegionHeld3
import Derived.IntWalk
namespace Go.Proofs.Ytledjabhbakdeaa.sliceCuts
open Go.ChangeShapes Go.WideShapes Go.ChangeAt Go.RowKit
open Go.ChangeMaps (open_string shut_string)
set_option linter.unusedVariables false

theorem own : ownKnob Try.prog.godebug = none := by kernel_rfl
theorem laidOut : laidOutB Try.prog = true := by kernel_rfl

set_option maxHeartbeats 6400000 in
set_option maxRecDepth 100000 in
theorem walk (sl0 sw0 sh0 si0 sv0 sp0 : Int) (s1 q1 : Int) (a2 : Int) (w : World) (h0 : Six sl0 sw0 sh0 si0 sv0 sp0) (h1 : (Lit.int .i64 s1).wf = true ∧ (Lit.int .i64 q1).wf = true) (h2 : (Lit.int .i64 a2).wf = true) :
    Calls Try.prog 3 #[.agg #[.int .i64 sl0, .int .i64 sw0, .int .i64 sh0, .int .i64 si0, .int .i64 sv0, .int .i64 sp0], .agg #[.int .i64 s1, .int .i64 q1], .int .i64 a2] w fun e w' => e = .returned (.bool true) ∧ Below w.heap.size w w' := by
  obtain ⟨w1, w2, w3, w4, w5, w6⟩ := h0
  obtain ⟨v1, v2⟩ := h1
  have b1 := wf64 w1
  have b2 := wf64 w2
  have b3 := wf64 w3
  have bs := wf64 v1
  have bp := wf64 v2
  have bi := wf64 h2
  clear w1 w2 w3 w4 w5 w6 v1 v2 h2
  rcases rights10 sl0 sw0 sh0 si0 sv0 sp0 s1 q1 b1 b2 b3 bs bp with ⟨ok, oc, r, d⟩ | ⟨no, r, d⟩
  · obtain ⟨s, hok, rfl, rfl, rfl, rfl, rfl, rfl⟩ := Sz.of ok
    obtain ⟨bl, bh, bw, bii, bv, bpl⟩ := hok.bd
    have pl := oc.pt_le ok.2.2.1
    obtain ⟨s0, s1x, p0, p1, p2, p3⟩ := oc
    obtain ⟨st, rfl⟩ : ∃ x : Nat, s1 = x := ⟨s1.toNat, by omega⟩
    obtain ⟨pt, rfl⟩ : ∃ x : Nat, q1 = x := ⟨q1.toNat, by omega⟩
    obtain ⟨z, hz⟩ : ∃ z : Nat, z = st * pt := ⟨_, rfl⟩
    have e1 : (st : Int) * (pt : Int) = (z : Int) := by rw [hz]; push_cast; rfl
    have z64 : z ≤ 64 := by rw [e1] at p3; omega
    have nw := fun W => workers_yes _ _ _ _ _ _ _ _ W z e1 z64 r
    have LA := fun W hj => layers_arg s.l s.w s.h s.i s.v s.p st pt a2 W r (by omega) hj
    have HA := fun W hj => heads_arg s.l s.w s.h s.i s.v s.p st pt a2 W r (by omega) hj
    have IA := fun W hj => inner_arg s.l s.w s.h s.i s.v s.p st pt a2 W r (by omega) hj
    have LY := fun W (j : Nat) hj => layers_yes s.l s.w s.h s.i s.v s.p st pt j s.l st W r rfl rfl (by omega) hj (by omega)
    have HY := fun W (j : Nat) hj => heads_yes s.l s.w s.h s.i s.v s.p st pt j s.h pt W r rfl rfl (by omega) hj (by omega)
    have IY := fun W (j : Nat) hj => inner_yes s.l s.w s.h s.i s.v s.p st pt j s.i pt W r rfl rfl (by omega) hj (by omega)
    have SY := fun W (j n m : Nat) (hm : m ≤ 16) (hj : j < m) (hn : n ≤ 256) => dspan_any j n m W hm hj hn
    unfold SaysR at r
    unfold SaysD at d
    unfold shv cutv at r d nw LA HA IA LY HY IY
    clear ok hok p1 p2 p3 hz b1 b2 b3 bs bp
    by_cases i0 : a2 < 0
    · have t1 : True := trivial
      replace LA := fun W => LA W (.inl i0)
      replace HA := fun W => HA W (.inl i0)
      replace IA := fun W => IA W (.inl i0)
      clear LY HY IY SY
      go_enter Try.func3, Try.ntmps3
      go_wp2_with fail
      refine (awake10 _).mono ?_
      rintro e wa ⟨rfl, hb⟩
      have XS := ((box_new w _ _).alloc _).bel hb
      have XC := (box_at (show w.heap.size + 1 = (w.alloc _).heap.size by simp) _ _).bel hb
      have B := below_two (((Below.refl w.heap.size w).alloc (Nat.le_refl _) _).alloc (by simp) _) hb
      obtain ⟨c0, c1, c2, c3, c4, c5⟩ := XS.cells6
      obtain ⟨cz0, cz1⟩ := two_cells XC
      clear hb
      go_wp2_with fail
      refine (d _).mono ?_
      rintro e wb ⟨rfl, hb⟩
      clear c0 c1 c2 c3 c4 c5 cz0 cz1
      replace XS := XS.bel hb
      replace XC := XC.bel hb
      replace B := below_two B hb
      obtain ⟨c0, c1, c2, c3, c4, c5⟩ := XS.cells6
      obtain ⟨cz0, cz1⟩ := two_cells XC
      clear hb d
      go_wp2_with fail
      refine (r _).mono ?_
      rintro e wc ⟨rfl, hb⟩
      clear c0 c1 c2 c3 c4 c5 cz0 cz1
      replace XS := XS.bel hb
      replace XC := XC.bel hb
      replace B := below_two B hb
      obtain ⟨c0, c1, c2, c3, c4, c5⟩ := XS.cells6
      obtain ⟨cz0, cz1⟩ := two_cells XC
      clear hb r
      go_wp2_with fail
      refine (nw _).mono ?_
      rintro e wd ⟨rfl, hb⟩
      clear c0 c1 c2 c3 c4 c5 cz0 cz1
      replace XS := XS.bel hb
      replace XC := XC.bel hb
      replace B := below_two B hb
      obtain ⟨c0, c1, c2, c3, c4, c5⟩ := XS.cells6
      obtain ⟨cz0, cz1⟩ := two_cells XC
      clear hb nw
      go_wp2_with fail
      refine (LA _).mono ?_
      rintro e we ⟨rfl, hb⟩
      clear c0 c1 c2 c3 c4 c5 cz0 cz1
      replace XS := (XS).bel hb
      replace XC := (XC).bel hb
      replace B := below_two B hb
      obtain ⟨c0, c1, c2, c3, c4, c5⟩ := (XS.alloc (.cells #[Value.int .i64 0, .int .i64 0] 29)).cells6
      obtain ⟨cz0, cz1⟩ := two_cells (XC.alloc (.cells #[Value.int .i64 0, .int .i64 0] 29))
      clear hb LA
      go_wp2_with fail
      refine (HA _).mono ?_
      rintro e wf ⟨rfl, hb⟩
      clear c0 c1 c2 c3 c4 c5 cz0 cz1
      replace XS := (XS.alloc _).bel hb
      replace XC := (XC.alloc _).bel hb
      replace B := below_two (B.alloc B.size _) hb
      have XA := (box_new we _ _).bel hb
      obtain ⟨c0, c1, c2, c3, c4, c5⟩ := (XS.alloc (.cells #[Value.int .i64 0, .int .i64 0] 29)).cells6
      obtain ⟨cz0, cz1⟩ := two_cells (XC.alloc (.cells #[Value.int .i64 0, .int .i64 0] 29))
      clear hb HA
      go_wp2_with fail
      refine (IA _).mono ?_
      rintro e wg ⟨rfl, hb⟩
      clear c0 c1 c2 c3 c4 c5 cz0 cz1
      replace XS := (XS.alloc _).bel hb
      replace XC := (XC.alloc _).bel hb
      replace B := below_two (B.alloc B.size _) hb
      replace XA := (XA.alloc _).bel hb
      have XB := (box_new wf _ _).bel hb
      clear hb IA
      replace XS := XS.alloc (.cells #[Value.int .i64 0, .int .i64 0] 29)
      replace XC := XC.alloc (.cells #[Value.int .i64 0, .int .i64 0] 29)
      replace XA := XA.alloc (.cells #[Value.int .i64 0, .int .i64 0] 29)
      replace XB := XB.alloc (.cells #[Value.int .i64 0, .int .i64 0] 29)
      have XD := box_new wg 29 #[Value.int .i64 0, .int .i64 0]
      have hal : (wg.alloc (.cells #[Value.int .i64 0, .int .i64 0] 29)) = wg.alloc (.cells #[Value.int .i64 0, .int .i64 0] 29) := rfl
      replace B := B.alloc B.size (.cells #[Value.int .i64 0, .int .i64 0] 29)
      clear hal
      obtain ⟨c0, c1, c2, c3, c4, c5⟩ := XS.cells6
      obtain ⟨cz0, cz1⟩ := two_cells XC
      obtain ⟨az0, az1⟩ := two_cells XA
      obtain ⟨bz0, bz1⟩ := two_cells XB
      obtain ⟨dz0, dz1⟩ := two_cells XD
      have hq := eql_two
      have hn := neq_two
      clear XS XC XA XB XD
      go_wp2
      go_ret
      exact ⟨rfl, B⟩
    · obtain ⟨j, rfl⟩ : ∃ x : Nat, a2 = x := ⟨a2.toNat, by omega⟩
      clear i0
      by_cases k0 : j < st
      · by_cases k1 : j < pt
        · have t2 : True := trivial
          replace LY := fun W => LY W j k0
          have sp1 := fun W => SY W j s.l st (by omega) k0 (by omega)
          generalize spanAt s.l st j = a0 at LY sp1
          generalize spanAt s.l st (j + 1) = a1 at LY sp1
          clear LA
          replace HY := fun W => HY W j k1
          replace IY := fun W => IY W j k1
          have sp2 := fun W => SY W j s.h pt (by omega) k1 (by omega)
          have sp3 := fun W => SY W j s.i pt (by omega) k1 (by omega)
          generalize spanAt s.h pt j = f0 at HY sp2
          generalize spanAt s.h pt (j + 1) = f1 at HY sp2
          generalize spanAt s.i pt j = g0 at IY sp3
          generalize spanAt s.i pt (j + 1) = g1 at IY sp3
          clear HA IA
          clear SY
          go_enter Try.func3, Try.ntmps3
          go_wp2_with fail
          refine (awake10 _).mono ?_
          rintro e wa ⟨rfl, hb⟩
          have XS := ((box_new w _ _).alloc _).bel hb
          have XC := (box_at (show w.heap.size + 1 = (w.alloc _).heap.size by simp) _ _).bel hb
          have B := below_two (((Below.refl w.heap.size w).alloc (Nat.le_refl _) _).alloc (by simp) _) hb
          obtain ⟨c0, c1, c2, c3, c4, c5⟩ := XS.cells6
          obtain ⟨cz0, cz1⟩ := two_cells XC
          clear hb
          go_wp2_with fail
          refine (d _).mono ?_
          rintro e wb ⟨rfl, hb⟩
          clear c0 c1 c2 c3 c4 c5 cz0 cz1
          replace XS := XS.bel hb
          replace XC := XC.bel hb
          replace B := below_two B hb
          obtain ⟨c0, c1, c2, c3, c4, c5⟩ := XS.cells6
          obtain ⟨cz0, cz1⟩ := two_cells XC
          clear hb d
          go_wp2_with fail
          refine (r _).mono ?_
          rintro e wc ⟨rfl, hb⟩
          clear c0 c1 c2 c3 c4 c5 cz0 cz1
          replace XS := XS.bel hb
          replace XC := XC.bel hb
          replace B := below_two B hb
          obtain ⟨c0, c1, c2, c3, c4, c5⟩ := XS.cells6
          obtain ⟨cz0, cz1⟩ := two_cells XC
          clear hb r
          go_wp2_with fail
          refine (nw _).mono ?_
          rintro e wd ⟨rfl, hb⟩
          clear c0 c1 c2 c3 c4 c5 cz0 cz1
          replace XS := XS.bel hb
          replace XC := XC.bel hb
          replace B := below_two B hb
          obtain ⟨c0, c1, c2, c3, c4, c5⟩ := XS.cells6
          obtain ⟨cz0, cz1⟩ := two_cells XC
          clear hb nw
          go_wp2_with fail
          refine (LY _).mono ?_
          rintro e we ⟨rfl, hb⟩
          clear c0 c1 c2 c3 c4 c5 cz0 cz1
          replace XS := (XS).bel hb
          replace XC := (XC).bel hb
          replace B := below_two B hb
          obtain ⟨c0, c1, c2, c3, c4, c5⟩ := (XS.alloc (.cells #[Value.int .i64 a0, .int .i64 a1] 29)).cells6
          obtain ⟨cz0, cz1⟩ := two_cells (XC.alloc (.cells #[Value.int .i64 a0, .int .i64 a1] 29))
          clear hb LY
          go_wp2_with fail
          refine (HY _).mono ?_
          rintro e wf ⟨rfl, hb⟩
          clear c0 c1 c2 c3 c4 c5 cz0 cz1
          replace XS := (XS.alloc _).bel hb
          replace XC := (XC.alloc _).bel hb
          replace B := below_two (B.alloc B.size _) hb
          have XA := (box_new we _ _).bel hb
          obtain ⟨c0, c1, c2, c3, c4, c5⟩ := (XS.alloc (.cells #[Value.int .i64 f0, .int .i64 f1] 29)).cells6
          obtain ⟨cz0, cz1⟩ := two_cells (XC.alloc (.cells #[Value.int .i64 f0, .int .i64 f1] 29))
          clear hb HY
          go_wp2_with fail
          refine (IY _).mono ?_
          rintro e wg ⟨rfl, hb⟩
          clear c0 c1 c2 c3 c4 c5 cz0 cz1
          replace XS := (XS.alloc _).bel hb
          replace XC := (XC.alloc _).bel hb
          replace B := below_two (B.alloc B.size _) hb
          replace XA := (XA.alloc _).bel hb
          have XB := (box_new wf _ _).bel hb
          clear hb IY
          replace XS := XS.alloc (.cells #[Value.int .i64 g0, .int .i64 g1] 29)
          replace XC := XC.alloc (.cells #[Value.int .i64 g0, .int .i64 g1] 29)
          replace XA := XA.alloc (.cells #[Value.int .i64 g0, .int .i64 g1] 29)
          replace XB := XB.alloc (.cells #[Value.int .i64 g0, .int .i64 g1] 29)
          have XD := box_new wg 29 #[Value.int .i64 g0, .int .i64 g1]
          have hal : (wg.alloc (.cells #[Value.int .i64 g0, .int .i64 g1] 29)) = wg.alloc (.cells #[Value.int .i64 g0, .int .i64 g1] 29) := rfl
          replace B := B.alloc B.size (.cells #[Value.int .i64 g0, .int .i64 g1] 29)
          clear hal
          obtain ⟨c0, c1, c2, c3, c4, c5⟩ := XS.cells6
          obtain ⟨cz0, cz1⟩ := two_cells XC
          obtain ⟨az0, az1⟩ := two_cells XA
          obtain ⟨bz0, bz1⟩ := two_cells XB
          obtain ⟨dz0, dz1⟩ := two_cells XD
          have hq := eql_two
          have hn := neq_two
          have B2 := Lib.hid B
          have YS := Lib.hid XS
          have YC := Lib.hid XC
          have YA := Lib.hid XA
          have YB := Lib.hid XB
          have YD := Lib.hid XD
          clear B XS XC XA XB XD
          go_upto_region 17 with (fail)
          generalize wg.alloc _ = wh at *
          go_region_held3 (fun w' => w'.cell? ⟨w.heap.size, 0, none⟩ = some (.int .i64 s.l) ∧ w'.cell? ⟨w.heap.size, 1, none⟩ = some (.int .i64 s.w) ∧ w'.cell? ⟨w.heap.size, 2, none⟩ = some (.int .i64 s.h) ∧ w'.cell? ⟨w.heap.size, 3, none⟩ = some (.int .i64 s.i) ∧ w'.cell? ⟨w.heap.size, 4, none⟩ = some (.int .i64 s.v) ∧ w'.cell? ⟨w.heap.size, 5, none⟩ = some (.int .i64 s.p) ∧ w'.cell? ⟨w.heap.size + 1, 0, none⟩ = some (.int .i64 st) ∧ w'.cell? ⟨w.heap.size + 1, 1, none⟩ = some (.int .i64 pt) ∧ w'.cell? ⟨we.heap.size, 0, none⟩ = some (.int .i64 a0) ∧ w'.cell? ⟨we.heap.size, 1, none⟩ = some (.int .i64 a1) ∧ w'.cell? ⟨wf.heap.size, 0, none⟩ = some (.int .i64 f0) ∧ w'.cell? ⟨wf.heap.size, 1, none⟩ = some (.int .i64 f1) ∧ w'.cell? ⟨wg.heap.size, 0, none⟩ = some (.int .i64 g0) ∧ w'.cell? ⟨wg.heap.size, 1, none⟩ = some (.int .i64 g1)) (first | go_keep | (go_split_ands; refine ⟨?_, ?_, ?_, ?_, ?_, ?_, ?_, ?_, ?_, ?_, ?_, ?_, ?_, ?_⟩ <;> assumption))
            (first | (go_at_call 14; (with_reducible refine (sp1 _).mono ?_); rintro e wi ⟨rfl, hb⟩; obtain ⟨c0, c1, c2, c3, c4, c5⟩ := (YS.out.drew.bel hb).cells6; obtain ⟨cz0, cz1⟩ := two_cells (YC.out.drew.bel hb); obtain ⟨az0, az1⟩ := two_cells (YA.out.drew.bel hb); obtain ⟨bz0, bz1⟩ := two_cells (YB.out.drew.bel hb); obtain ⟨dz0, dz1⟩ := two_cells (YD.out.drew.bel hb)))
          have B3 := Lib.hid (below_two B2.out.drew hb)
          have ZS := YS
          clear ZS
          replace YS := Lib.hid (YS.out.drew.bel hb)
          replace YC := Lib.hid (YC.out.drew.bel hb)
          replace YA := Lib.hid (YA.out.drew.bel hb)
          replace YB := Lib.hid (YB.out.drew.bel hb)
          replace YD := Lib.hid (YD.out.drew.bel hb)
          clear hb
          go_upto_region 21 with (fail)
          go_region_held3 (fun w' => w'.cell? ⟨w.heap.size, 0, none⟩ = some (.int .i64 s.l) ∧ w'.cell? ⟨w.heap.size, 1, none⟩ = some (.int .i64 s.w) ∧ w'.cell? ⟨w.heap.size, 2, none⟩ = some (.int .i64 s.h) ∧ w'.cell? ⟨w.heap.size, 3, none⟩ = some (.int .i64 s.i) ∧ w'.cell? ⟨w.heap.size, 4, none⟩ = some (.int .i64 s.v) ∧ w'.cell? ⟨w.heap.size, 5, none⟩ = some (.int .i64 s.p) ∧ w'.cell? ⟨w.heap.size + 1, 0, none⟩ = some (.int .i64 st) ∧ w'.cell? ⟨w.heap.size + 1, 1, none⟩ = some (.int .i64 pt) ∧ w'.cell? ⟨we.heap.size, 0, none⟩ = some (.int .i64 a0) ∧ w'.cell? ⟨we.heap.size, 1, none⟩ = some (.int .i64 a1) ∧ w'.cell? ⟨wf.heap.size, 0, none⟩ = some (.int .i64 f0) ∧ w'.cell? ⟨wf.heap.size, 1, none⟩ = some (.int .i64 f1) ∧ w'.cell? ⟨wg.heap.size, 0, none⟩ = some (.int .i64 g0) ∧ w'.cell? ⟨wg.heap.size, 1, none⟩ = some (.int .i64 g1)) (first | go_keep | (go_split_ands; refine ⟨?_, ?_, ?_, ?_, ?_, ?_, ?_, ?_, ?_, ?_, ?_, ?_, ?_, ?_⟩ <;> assumption))
            (first | (go_at_call 14; (with_reducible refine (sp2 _).mono ?_); rintro e wj ⟨rfl, hb2⟩; obtain ⟨c0, c1, c2, c3, c4, c5⟩ := (YS.out.drew.bel hb2).cells6; obtain ⟨cz0, cz1⟩ := two_cells (YC.out.drew.bel hb2); obtain ⟨az0, az1⟩ := two_cells (YA.out.drew.bel hb2); obtain ⟨bz0, bz1⟩ := two_cells (YB.out.drew.bel hb2); obtain ⟨dz0, dz1⟩ := two_cells (YD.out.drew.bel hb2)) | (go_at_call 14; (with_reducible refine (sp3 _).mono ?_); rintro e wk ⟨rfl, hb3⟩; obtain ⟨c0, c1, c2, c3, c4, c5⟩ := ((YS.out.drew.bel hb2).bel hb3).cells6; obtain ⟨cz0, cz1⟩ := two_cells ((YC.out.drew.bel hb2).bel hb3); obtain ⟨az0, az1⟩ := two_cells ((YA.out.drew.bel hb2).bel hb3); obtain ⟨bz0, bz1⟩ := two_cells ((YB.out.drew.bel hb2).bel hb3); obtain ⟨dz0, dz1⟩ := two_cells ((YD.out.drew.bel hb2).bel hb3)))
          have B4 := Lib.hid (below_two (below_two B3.out.drew hb2) hb3)
          go_wp2
          go_ret
          exact ⟨rfl, B4.out⟩
        · have t2 : True := trivial
          replace LY := fun W => LY W j k0
          have sp1 := fun W => SY W j s.l st (by omega) k0 (by omega)
          generalize spanAt s.l st j = a0 at LY sp1
          generalize spanAt s.l st (j + 1) = a1 at LY sp1
          clear LA
          replace HA := fun W => HA W (.inr (by omega))
          replace IA := fun W => IA W (.inr (by omega))
          clear HY IY
          clear SY
          go_enter Try.func3, Try.ntmps3
          go_wp2_with fail
          refine (awake10 _).mono ?_
          rintro e wa ⟨rfl, hb⟩
          have XS := ((box_new w _ _).alloc _).bel hb
          have XC := (box_at (show w.heap.size + 1 = (w.alloc _).heap.size by simp) _ _).bel hb
          have B := below_two (((Below.refl w.heap.size w).alloc (Nat.le_refl _) _).alloc (by simp) _) hb
          obtain ⟨c0, c1, c2, c3, c4, c5⟩ := XS.cells6
          obtain ⟨cz0, cz1⟩ := two_cells XC
          clear hb
          go_wp2_with fail
          refine (d _).mono ?_
          rintro e wb ⟨rfl, hb⟩
          clear c0 c1 c2 c3 c4 c5 cz0 cz1
          replace XS := XS.bel hb
          replace XC := XC.bel hb
          replace B := below_two B hb
          obtain ⟨c0, c1, c2, c3, c4, c5⟩ := XS.cells6
          obtain ⟨cz0, cz1⟩ := two_cells XC
          clear hb d
          go_wp2_with fail
          refine (r _).mono ?_
          rintro e wc ⟨rfl, hb⟩
          clear c0 c1 c2 c3 c4 c5 cz0 cz1
          replace XS := XS.bel hb
          replace XC := XC.bel hb
          replace B := below_two B hb
          obtain ⟨c0, c1, c2, c3, c4, c5⟩ := XS.cells6
          obtain ⟨cz0, cz1⟩ := two_cells XC
          clear hb r
          go_wp2_with fail
          refine (nw _).mono ?_
          rintro e wd ⟨rfl, hb⟩
          clear c0 c1 c2 c3 c4 c5 cz0 cz1
          replace XS := XS.bel hb
          replace XC := XC.bel hb
          replace B := below_two B hb
          obtain ⟨c0, c1, c2, c3, c4, c5⟩ := XS.cells6
          obtain ⟨cz0, cz1⟩ := two_cells XC
          clear hb nw
          go_wp2_with fail
          refine (LY _).mono ?_
          rintro e we ⟨rfl, hb⟩
          clear c0 c1 c2 c3 c4 c5 cz0 cz1
          replace XS := (XS).bel hb
          replace XC := (XC).bel hb
          replace B := below_two B hb
          obtain ⟨c0, c1, c2, c3, c4, c5⟩ := (XS.alloc (.cells #[Value.int .i64 a0, .int .i64 a1] 29)).cells6
          obtain ⟨cz0, cz1⟩ := two_cells (XC.alloc (.cells #[Value.int .i64 a0, .int .i64 a1] 29))
          clear hb LY
          go_wp2_with fail
          refine (HA _).mono ?_
          rintro e wf ⟨rfl, hb⟩
          clear c0 c1 c2 c3 c4 c5 cz0 cz1
          replace XS := (XS.alloc _).bel hb
          replace XC := (XC.alloc _).bel hb
          replace B := below_two (B.alloc B.size _) hb
          have XA := (box_new we _ _).bel hb
          obtain ⟨c0, c1, c2, c3, c4, c5⟩ := (XS.alloc (.cells #[Value.int .i64 0, .int .i64 0] 29)).cells6
          obtain ⟨cz0, cz1⟩ := two_cells (XC.alloc (.cells #[Value.int .i64 0, .int .i64 0] 29))
          clear hb HA
          go_wp2_with fail
          refine (IA _).mono ?_
          rintro e wg ⟨rfl, hb⟩
          clear c0 c1 c2 c3 c4 c5 cz0 cz1
          replace XS := (XS.alloc _).bel hb
          replace XC := (XC.alloc _).bel hb
          replace B := below_two (B.alloc B.size _) hb
          replace XA := (XA.alloc _).bel hb
          have XB := (box_new wf _ _).bel hb
          clear hb IA
          replace XS := XS.alloc (.cells #[Value.int .i64 0, .int .i64 0] 29)
          replace XC := XC.alloc (.cells #[Value.int .i64 0, .int .i64 0] 29)
          replace XA := XA.alloc (.cells #[Value.int .i64 0, .int .i64 0] 29)
          replace XB := XB.alloc (.cells #[Value.int .i64 0, .int .i64 0] 29)
          have XD := box_new wg 29 #[Value.int .i64 0, .int .i64 0]
          have hal : (wg.alloc (.cells #[Value.int .i64 0, .int .i64 0] 29)) = wg.alloc (.cells #[Value.int .i64 0, .int .i64 0] 29) := rfl
          replace B := B.alloc B.size (.cells #[Value.int .i64 0, .int .i64 0] 29)
          clear hal
          obtain ⟨c0, c1, c2, c3, c4, c5⟩ := XS.cells6
          obtain ⟨cz0, cz1⟩ := two_cells XC
          obtain ⟨az0, az1⟩ := two_cells XA
          obtain ⟨bz0, bz1⟩ := two_cells XB
          obtain ⟨dz0, dz1⟩ := two_cells XD
          have hq := eql_two
          have hn := neq_two
          have B2 := Lib.hid B
          have YS := Lib.hid XS
          have YC := Lib.hid XC
          have YA := Lib.hid XA
          have YB := Lib.hid XB
          have YD := Lib.hid XD
          clear B XS XC XA XB XD
          go_upto_region 17 with (fail)
          generalize wg.alloc _ = wh at *
          go_region_held3 (fun w' => w'.cell? ⟨w.heap.size, 0, none⟩ = some (.int .i64 s.l) ∧ w'.cell? ⟨w.heap.size, 1, none⟩ = some (.int .i64 s.w) ∧ w'.cell? ⟨w.heap.size, 2, none⟩ = some (.int .i64 s.h) ∧ w'.cell? ⟨w.heap.size, 3, none⟩ = some (.int .i64 s.i) ∧ w'.cell? ⟨w.heap.size, 4, none⟩ = some (.int .i64 s.v) ∧ w'.cell? ⟨w.heap.size, 5, none⟩ = some (.int .i64 s.p) ∧ w'.cell? ⟨w.heap.size + 1, 0, none⟩ = some (.int .i64 st) ∧ w'.cell? ⟨w.heap.size + 1, 1, none⟩ = some (.int .i64 pt) ∧ w'.cell? ⟨we.heap.size, 0, none⟩ = some (.int .i64 a0) ∧ w'.cell? ⟨we.heap.size, 1, none⟩ = some (.int .i64 a1) ∧ w'.cell? ⟨wf.heap.size, 0, none⟩ = some (.int .i64 0) ∧ w'.cell? ⟨wf.heap.size, 1, none⟩ = some (.int .i64 0) ∧ w'.cell? ⟨wg.heap.size, 0, none⟩ = some (.int .i64 0) ∧ w'.cell? ⟨wg.heap.size, 1, none⟩ = some (.int .i64 0)) (first | go_keep | (go_split_ands; refine ⟨?_, ?_, ?_, ?_, ?_, ?_, ?_, ?_, ?_, ?_, ?_, ?_, ?_, ?_⟩ <;> assumption))
            (first | (go_at_call 14; (with_reducible refine (sp1 _).mono ?_); rintro e wi ⟨rfl, hb⟩; obtain ⟨c0, c1, c2, c3, c4, c5⟩ := (YS.out.drew.bel hb).cells6; obtain ⟨cz0, cz1⟩ := two_cells (YC.out.drew.bel hb); obtain ⟨az0, az1⟩ := two_cells (YA.out.drew.bel hb); obtain ⟨bz0, bz1⟩ := two_cells (YB.out.drew.bel hb); obtain ⟨dz0, dz1⟩ := two_cells (YD.out.drew.bel hb)))
          have B3 := Lib.hid (below_two B2.out.drew hb)
          have ZS := YS
          clear ZS
          replace YS := Lib.hid (YS.out.drew.bel hb)
          replace YC := Lib.hid (YC.out.drew.bel hb)
          replace YA := Lib.hid (YA.out.drew.bel hb)
          replace YB := Lib.hid (YB.out.drew.bel hb)
          replace YD := Lib.hid (YD.out.drew.bel hb)
          clear hb
          go_wp2
          go_ret
          exact ⟨rfl, B3.out⟩
      · by_cases k1 : j < pt
        · have t2 : True := trivial
          replace LA := fun W => LA W (.inr (by omega))
          clear LY
          replace HY := fun W => HY W j k1
          replace IY := fun W => IY W j k1
          have sp2 := fun W => SY W j s.h pt (by omega) k1 (by omega)
          have sp3 := fun W => SY W j s.i pt (by omega) k1 (by omega)
          generalize spanAt s.h pt j = f0 at HY sp2
          generalize spanAt s.h pt (j + 1) = f1 at HY sp2
          generalize spanAt s.i pt j = g0 at IY sp3
          generalize spanAt s.i pt (j + 1) = g1 at IY sp3
          clear HA IA
          clear SY
          go_enter Try.func3, Try.ntmps3
          go_wp2_with fail
          refine (awake10 _).mono ?_
          rintro e wa ⟨rfl, hb⟩
          have XS := ((box_new w _ _).alloc _).bel hb
          have XC := (box_at (show w.heap.size + 1 = (w.alloc _).heap.size by simp) _ _).bel hb
          have B := below_two (((Below.refl w.heap.size w).alloc (Nat.le_refl _) _).alloc (by simp) _) hb
          obtain ⟨c0, c1, c2, c3, c4, c5⟩ := XS.cells6
          obtain ⟨cz0, cz1⟩ := two_cells XC
          clear hb
          go_wp2_with fail
          refine (d _).mono ?_
          rintro e wb ⟨rfl, hb⟩
          clear c0 c1 c2 c3 c4 c5 cz0 cz1
          replace XS := XS.bel hb
          replace XC := XC.bel hb
          replace B := below_two B hb
          obtain ⟨c0, c1, c2, c3, c4, c5⟩ := XS.cells6
          obtain ⟨cz0, cz1⟩ := two_cells XC
          clear hb d
          go_wp2_with fail
          refine (r _).mono ?_
          rintro e wc ⟨rfl, hb⟩
          clear c0 c1 c2 c3 c4 c5 cz0 cz1
          replace XS := XS.bel hb
          replace XC := XC.bel hb
          replace B := below_two B hb
          obtain ⟨c0, c1, c2, c3, c4, c5⟩ := XS.cells6
          obtain ⟨cz0, cz1⟩ := two_cells XC
          clear hb r
          go_wp2_with fail
          refine (nw _).mono ?_
          rintro e wd ⟨rfl, hb⟩
          clear c0 c1 c2 c3 c4 c5 cz0 cz1
          replace XS := XS.bel hb
          replace XC := XC.bel hb
          replace B := below_two B hb
          obtain ⟨c0, c1, c2, c3, c4, c5⟩ := XS.cells6
          obtain ⟨cz0, cz1⟩ := two_cells XC
          clear hb nw
          go_wp2_with fail
          refine (LA _).mono ?_
          rintro e we ⟨rfl, hb⟩
          clear c0 c1 c2 c3 c4 c5 cz0 cz1
          replace XS := (XS).bel hb
          replace XC := (XC).bel hb
          replace B := below_two B hb
          obtain ⟨c0, c1, c2, c3, c4, c5⟩ := (XS.alloc (.cells #[Value.int .i64 0, .int .i64 0] 29)).cells6
          obtain ⟨cz0, cz1⟩ := two_cells (XC.alloc (.cells #[Value.int .i64 0, .int .i64 0] 29))
          clear hb LA
          go_wp2_with fail
          refine (HY _).mono ?_
          rintro e wf ⟨rfl, hb⟩
          clear c0 c1 c2 c3 c4 c5 cz0 cz1
          replace XS := (XS.alloc _).bel hb
          replace XC := (XC.alloc _).bel hb
          replace B := below_two (B.alloc B.size _) hb
          have XA := (box_new we _ _).bel hb
          obtain ⟨c0, c1, c2, c3, c4, c5⟩ := (XS.alloc (.cells #[Value.int .i64 f0, .int .i64 f1] 29)).cells6
          obtain ⟨cz0, cz1⟩ := two_cells (XC.alloc (.cells #[Value.int .i64 f0, .int .i64 f1] 29))
          clear hb HY
          go_wp2_with fail
          refine (IY _).mono ?_
          rintro e wg ⟨rfl, hb⟩
          clear c0 c1 c2 c3 c4 c5 cz0 cz1
          replace XS := (XS.alloc _).bel hb
          replace XC := (XC.alloc _).bel hb
          replace B := below_two (B.alloc B.size _) hb
          replace XA := (XA.alloc _).bel hb
          have XB := (box_new wf _ _).bel hb
          clear hb IY
          replace XS := XS.alloc (.cells #[Value.int .i64 g0, .int .i64 g1] 29)
          replace XC := XC.alloc (.cells #[Value.int .i64 g0, .int .i64 g1] 29)
          replace XA := XA.alloc (.cells #[Value.int .i64 g0, .int .i64 g1] 29)
          replace XB := XB.alloc (.cells #[Value.int .i64 g0, .int .i64 g1] 29)
          have XD := box_new wg 29 #[Value.int .i64 g0, .int .i64 g1]
          have hal : (wg.alloc (.cells #[Value.int .i64 g0, .int .i64 g1] 29)) = wg.alloc (.cells #[Value.int .i64 g0, .int .i64 g1] 29) := rfl
          replace B := B.alloc B.size (.cells #[Value.int .i64 g0, .int .i64 g1] 29)
          clear hal
          obtain ⟨c0, c1, c2, c3, c4, c5⟩ := XS.cells6
          obtain ⟨cz0, cz1⟩ := two_cells XC
          obtain ⟨az0, az1⟩ := two_cells XA
          obtain ⟨bz0, bz1⟩ := two_cells XB
          obtain ⟨dz0, dz1⟩ := two_cells XD
          have hq := eql_two
          have hn := neq_two
          have B2 := Lib.hid B
          have YS := Lib.hid XS
          have YC := Lib.hid XC
          have YA := Lib.hid XA
          have YB := Lib.hid XB
          have YD := Lib.hid XD
          clear B XS XC XA XB XD
          go_upto_region 21 with (fail)
          generalize wg.alloc _ = wh at *
          go_region_held3 (fun w' => w'.cell? ⟨w.heap.size, 0, none⟩ = some (.int .i64 s.l) ∧ w'.cell? ⟨w.heap.size, 1, none⟩ = some (.int .i64 s.w) ∧ w'.cell? ⟨w.heap.size, 2, none⟩ = some (.int .i64 s.h) ∧ w'.cell? ⟨w.heap.size, 3, none⟩ = some (.int .i64 s.i) ∧ w'.cell? ⟨w.heap.size, 4, none⟩ = some (.int .i64 s.v) ∧ w'.cell? ⟨w.heap.size, 5, none⟩ = some (.int .i64 s.p) ∧ w'.cell? ⟨w.heap.size + 1, 0, none⟩ = some (.int .i64 st) ∧ w'.cell? ⟨w.heap.size + 1, 1, none⟩ = some (.int .i64 pt) ∧ w'.cell? ⟨we.heap.size, 0, none⟩ = some (.int .i64 0) ∧ w'.cell? ⟨we.heap.size, 1, none⟩ = some (.int .i64 0) ∧ w'.cell? ⟨wf.heap.size, 0, none⟩ = some (.int .i64 f0) ∧ w'.cell? ⟨wf.heap.size, 1, none⟩ = some (.int .i64 f1) ∧ w'.cell? ⟨wg.heap.size, 0, none⟩ = some (.int .i64 g0) ∧ w'.cell? ⟨wg.heap.size, 1, none⟩ = some (.int .i64 g1)) (first | go_keep | (go_split_ands; refine ⟨?_, ?_, ?_, ?_, ?_, ?_, ?_, ?_, ?_, ?_, ?_, ?_, ?_, ?_⟩ <;> assumption))
            (first | (go_at_call 14; (with_reducible refine (sp2 _).mono ?_); rintro e wj ⟨rfl, hb2⟩; obtain ⟨c0, c1, c2, c3, c4, c5⟩ := (YS.out.drew.bel hb2).cells6; obtain ⟨cz0, cz1⟩ := two_cells (YC.out.drew.bel hb2); obtain ⟨az0, az1⟩ := two_cells (YA.out.drew.bel hb2); obtain ⟨bz0, bz1⟩ := two_cells (YB.out.drew.bel hb2); obtain ⟨dz0, dz1⟩ := two_cells (YD.out.drew.bel hb2)) | (go_at_call 14; (with_reducible refine (sp3 _).mono ?_); rintro e wk ⟨rfl, hb3⟩; obtain ⟨c0, c1, c2, c3, c4, c5⟩ := ((YS.out.drew.bel hb2).bel hb3).cells6; obtain ⟨cz0, cz1⟩ := two_cells ((YC.out.drew.bel hb2).bel hb3); obtain ⟨az0, az1⟩ := two_cells ((YA.out.drew.bel hb2).bel hb3); obtain ⟨bz0, bz1⟩ := two_cells ((YB.out.drew.bel hb2).bel hb3); obtain ⟨dz0, dz1⟩ := two_cells ((YD.out.drew.bel hb2).bel hb3)))
          have B4 := Lib.hid (below_two (below_two B2.out.drew hb2) hb3)
          go_wp2
          go_ret
          exact ⟨rfl, B4.out⟩
        · have t2 : True := trivial
          replace LA := fun W => LA W (.inr (by omega))
          clear LY
          replace HA := fun W => HA W (.inr (by omega))
          replace IA := fun W => IA W (.inr (by omega))
          clear HY IY
          clear SY
          go_enter Try.func3, Try.ntmps3
          go_wp2_with fail
          refine (awake10 _).mono ?_
          rintro e wa ⟨rfl, hb⟩
          have XS := ((box_new w _ _).alloc _).bel hb
          have XC := (box_at (show w.heap.size + 1 = (w.alloc _).heap.size by simp) _ _).bel hb
          have B := below_two (((Below.refl w.heap.size w).alloc (Nat.le_refl _) _).alloc (by simp) _) hb
          obtain ⟨c0, c1, c2, c3, c4, c5⟩ := XS.cells6
          obtain ⟨cz0, cz1⟩ := two_cells XC
          clear hb
          go_wp2_with fail
          refine (d _).mono ?_
          rintro e wb ⟨rfl, hb⟩
          clear c0 c1 c2 c3 c4 c5 cz0 cz1
          replace XS := XS.bel hb
          replace XC := XC.bel hb
          replace B := below_two B hb
          obtain ⟨c0, c1, c2, c3, c4, c5⟩ := XS.cells6
          obtain ⟨cz0, cz1⟩ := two_cells XC
          clear hb d
          go_wp2_with fail
          refine (r _).mono ?_
          rintro e wc ⟨rfl, hb⟩
          clear c0 c1 c2 c3 c4 c5 cz0 cz1
          replace XS := XS.bel hb
          replace XC := XC.bel hb
          replace B := below_two B hb
          obtain ⟨c0, c1, c2, c3, c4, c5⟩ := XS.cells6
          obtain ⟨cz0, cz1⟩ := two_cells XC
          clear hb r
          go_wp2_with fail
          refine (nw _).mono ?_
          rintro e wd ⟨rfl, hb⟩
          clear c0 c1 c2 c3 c4 c5 cz0 cz1
          replace XS := XS.bel hb
          replace XC := XC.bel hb
          replace B := below_two B hb
          obtain ⟨c0, c1, c2, c3, c4, c5⟩ := XS.cells6
          obtain ⟨cz0, cz1⟩ := two_cells XC
          clear hb nw
          go_wp2_with fail
          refine (LA _).mono ?_
          rintro e we ⟨rfl, hb⟩
          clear c0 c1 c2 c3 c4 c5 cz0 cz1
          replace XS := (XS).bel hb
          replace XC := (XC).bel hb
          replace B := below_two B hb
          obtain ⟨c0, c1, c2, c3, c4, c5⟩ := (XS.alloc (.cells #[Value.int .i64 0, .int .i64 0] 29)).cells6
          obtain ⟨cz0, cz1⟩ := two_cells (XC.alloc (.cells #[Value.int .i64 0, .int .i64 0] 29))
          clear hb LA
          go_wp2_with fail
          refine (HA _).mono ?_
          rintro e wf ⟨rfl, hb⟩
          clear c0 c1 c2 c3 c4 c5 cz0 cz1
          replace XS := (XS.alloc _).bel hb
          replace XC := (XC.alloc _).bel hb
          replace B := below_two (B.alloc B.size _) hb
          have XA := (box_new we _ _).bel hb
          obtain ⟨c0, c1, c2, c3, c4, c5⟩ := (XS.alloc (.cells #[Value.int .i64 0, .int .i64 0] 29)).cells6
          obtain ⟨cz0, cz1⟩ := two_cells (XC.alloc (.cells #[Value.int .i64 0, .int .i64 0] 29))
          clear hb HA
          go_wp2_with fail
          refine (IA _).mono ?_
          rintro e wg ⟨rfl, hb⟩
          clear c0 c1 c2 c3 c4 c5 cz0 cz1
          replace XS := (XS.alloc _).bel hb
          replace XC := (XC.alloc _).bel hb
          replace B := below_two (B.alloc B.size _) hb
          replace XA := (XA.alloc _).bel hb
          have XB := (box_new wf _ _).bel hb
          clear hb IA
          replace XS := XS.alloc (.cells #[Value.int .i64 0, .int .i64 0] 29)
          replace XC := XC.alloc (.cells #[Value.int .i64 0, .int .i64 0] 29)
          replace XA := XA.alloc (.cells #[Value.int .i64 0, .int .i64 0] 29)
          replace XB := XB.alloc (.cells #[Value.int .i64 0, .int .i64 0] 29)
          have XD := box_new wg 29 #[Value.int .i64 0, .int .i64 0]
          have hal : (wg.alloc (.cells #[Value.int .i64 0, .int .i64 0] 29)) = wg.alloc (.cells #[Value.int .i64 0, .int .i64 0] 29) := rfl
          replace B := B.alloc B.size (.cells #[Value.int .i64 0, .int .i64 0] 29)
          clear hal
          obtain ⟨c0, c1, c2, c3, c4, c5⟩ := XS.cells6
          obtain ⟨cz0, cz1⟩ := two_cells XC
          obtain ⟨az0, az1⟩ := two_cells XA
          obtain ⟨bz0, bz1⟩ := two_cells XB
          obtain ⟨dz0, dz1⟩ := two_cells XD
          have hq := eql_two
          have hn := neq_two
          clear XS XC XA XB XD
          go_wp2
          go_ret
          exact ⟨rfl, B⟩
  · have nw := fun W => workers_no _ _ _ _ _ _ _ _ W r
    have LA := fun W => layers_bad sl0 sw0 sh0 si0 sv0 sp0 s1 q1 a2 W r
    have HA := fun W => heads_bad sl0 sw0 sh0 si0 sv0 sp0 s1 q1 a2 W r
    have IA := fun W => inner_bad sl0 sw0 sh0 si0 sv0 sp0 s1 q1 a2 W r
    unfold SaysR at r
    unfold SaysD at d
    unfold shv cutv at r d nw LA HA IA
    clear no
    go_enter Try.func3, Try.ntmps3
    go_wp2_with fail
    refine (awake10 _).mono ?_
    rintro e wa ⟨rfl, hb⟩
    have XS := ((box_new w _ _).alloc _).bel hb
    have XC := (box_at (show w.heap.size + 1 = (w.alloc _).heap.size by simp) _ _).bel hb
    have B := below_two (((Below.refl w.heap.size w).alloc (Nat.le_refl _) _).alloc (by simp) _) hb
    obtain ⟨c0, c1, c2, c3, c4, c5⟩ := XS.cells6
    obtain ⟨cz0, cz1⟩ := two_cells XC
    clear hb
    go_wp2_with fail
    refine (d _).mono ?_
    rintro e wb ⟨rfl, hb⟩
    clear c0 c1 c2 c3 c4 c5 cz0 cz1
    replace XS := XS.bel hb
    replace XC := XC.bel hb
    replace B := below_two B hb
    obtain ⟨c0, c1, c2, c3, c4, c5⟩ := XS.cells6
    obtain ⟨cz0, cz1⟩ := two_cells XC
    clear hb d
    go_wp2_with fail
    refine (r _).mono ?_
    rintro e wc ⟨rfl, hb⟩
    clear c0 c1 c2 c3 c4 c5 cz0 cz1
    replace XS := XS.bel hb
    replace XC := XC.bel hb
    replace B := below_two B hb
    obtain ⟨c0, c1, c2, c3, c4, c5⟩ := XS.cells6
    obtain ⟨cz0, cz1⟩ := two_cells XC
    clear hb r
    go_wp2_with fail
    refine (nw _).mono ?_
    rintro e wd ⟨rfl, hb⟩
    clear c0 c1 c2 c3 c4 c5 cz0 cz1
    replace XS := XS.bel hb
    replace XC := XC.bel hb
    replace B := below_two B hb
    obtain ⟨c0, c1, c2, c3, c4, c5⟩ := XS.cells6
    obtain ⟨cz0, cz1⟩ := two_cells XC
    clear hb nw
    go_wp2_with fail
    refine (LA _).mono ?_
    rintro e we ⟨rfl, hb⟩
    clear c0 c1 c2 c3 c4 c5 cz0 cz1
    replace XS := (XS).bel hb
    replace XC := (XC).bel hb
    replace B := below_two B hb
    obtain ⟨c0, c1, c2, c3, c4, c5⟩ := (XS.alloc (.cells #[Value.int .i64 0, .int .i64 0] 29)).cells6
    obtain ⟨cz0, cz1⟩ := two_cells (XC.alloc (.cells #[Value.int .i64 0, .int .i64 0] 29))
    clear hb LA
    go_wp2_with fail
    refine (HA _).mono ?_
    rintro e wf ⟨rfl, hb⟩
    clear c0 c1 c2 c3 c4 c5 cz0 cz1
    replace XS := (XS.alloc _).bel hb
    replace XC := (XC.alloc _).bel hb
    replace B := below_two (B.alloc B.size _) hb
    have XA := (box_new we _ _).bel hb
    obtain ⟨c0, c1, c2, c3, c4, c5⟩ := (XS.alloc (.cells #[Value.int .i64 0, .int .i64 0] 29)).cells6
    obtain ⟨cz0, cz1⟩ := two_cells (XC.alloc (.cells #[Value.int .i64 0, .int .i64 0] 29))
    clear hb HA
    go_wp2_with fail
    refine (IA _).mono ?_
    rintro e wg ⟨rfl, hb⟩
    clear c0 c1 c2 c3 c4 c5 cz0 cz1
    replace XS := (XS.alloc _).bel hb
    replace XC := (XC.alloc _).bel hb
    replace B := below_two (B.alloc B.size _) hb
    replace XA := (XA.alloc _).bel hb
    have XB := (box_new wf _ _).bel hb
    clear hb IA
    replace XS := XS.alloc (.cells #[Value.int .i64 0, .int .i64 0] 29)
    replace XC := XC.alloc (.cells #[Value.int .i64 0, .int .i64 0] 29)
    replace XA := XA.alloc (.cells #[Value.int .i64 0, .int .i64 0] 29)
    replace XB := XB.alloc (.cells #[Value.int .i64 0, .int .i64 0] 29)
    have XD := box_new wg 29 #[Value.int .i64 0, .int .i64 0]
    have hal : (wg.alloc (.cells #[Value.int .i64 0, .int .i64 0] 29)) = wg.alloc (.cells #[Value.int .i64 0, .int .i64 0] 29) := rfl
    replace B := B.alloc B.size (.cells #[Value.int .i64 0, .int .i64 0] 29)
    clear hal
    obtain ⟨c0, c1, c2, c3, c4, c5⟩ := XS.cells6
    obtain ⟨cz0, cz1⟩ := two_cells XC
    obtain ⟨az0, az1⟩ := two_cells XA
    obtain ⟨bz0, bz1⟩ := two_cells XB
    obtain ⟨dz0, dz1⟩ := two_cells XD
    have hq := eql_two
    have hn := neq_two
    clear XS XC XA XB XD
    go_wp2
    go_ret
    exact ⟨rfl, B⟩

set_option maxRecDepth 100000 in
theorem lifted (os : Os) (started : os.Started) (H : Type) (enc : TypeId × Value → H) :
    ReturnsInHanded {} Try.checked os 3 .any (Rows.sliceCutsSpec.pre6 enc Try.prog Try.f3 Rows.sliceCutsRow.domain false) (Rows.sliceCutsSpec.post enc Try.prog Try.f3 false true false false) := by
  refine returnsInHanded_of_change (C := Try.checked) own started (by kernel_rfl) Try.func3
    (ChangeSpec.witness6 (enc := enc) (C := Try.checked) false ⟨#[], #[.agg #[.int .i64 0, .int .i64 0, .int .i64 0, .int .i64 0, .int .i64 0, .int .i64 0], .agg #[.int .i64 0, .int .i64 0], .int .i64 0], []⟩ 8 (by kernel_rfl) (by kernel_rfl) (by kernel_rfl) (by kernel_rfl)) ?_
  intro W base args ds gs before hval0 hW hcnd _
  have hval : ∀ (j : Nat) t v, Try.f3.params[j]? = some t → args[j]? = some v → Value.okWide Try.prog W .any base t v := hval0
  have hW' := hW
  obtain ⟨p, q, hA0, hV, rfl, hfz, hnd⟩ := hW
  have hA : DataW.TrodAll enc Try.prog W 0 (fun _ => true) true Try.f3.params.toList args.toList ds p := hA0
  rw [Try.params3] at hA hval
  obtain ⟨v0, vs0, d0, ds0, p0, q0, hargs, rfl, rfl, h0, r0⟩ := trodAll_cons hA
  obtain ⟨v1, vs1, d1, ds1, p1, q1, rfl, rfl, rfl, h1, r1⟩ := trodAll_cons r0
  obtain ⟨v2, vs2, d2, ds2, p2, q2, rfl, rfl, rfl, h2, r2⟩ := trodAll_cons r1
  obtain ⟨rfl, rfl, rfl⟩ := trodAll_nil r2
  obtain rfl : args = #[v0, v1, v2] := by cases args; simp_all
  obtain ⟨rfl, rfl⟩ := trodVars_none hV
  have k0 := h0
  have lt0 : ∀ x ∈ p0, x.block < W.heap.size := by obtain ⟨m, hm⟩ := k0; exact DataW.trod_lt m _ _ _ hm
  obtain ⟨xl0, xw0, xh0, xi0, xv0, xp0, rfl, w0⟩ := open_shape (hval 0 23 v0 rfl rfl) h0
  have k1 := h1
  have lt1 : ∀ x ∈ p1, x.block < W.heap.size := by obtain ⟨m, hm⟩ := k1; exact DataW.trod_lt m _ _ _ hm
  obtain ⟨s1, q1, rfl, w1⟩ := open_cut (hval 1 25 v1 rfl rfl) h1
  obtain ⟨a2, rfl, rfl, rfl, w2⟩ := open_int Try.underlying3 (hval 2 3 v2 rfl rfl) h2
  clear hA0 hval0
  refine (walk xl0 xw0 xh0 xi0 xv0 xp0 s1 q1 a2 W w0 w1 w2).mono fun e W' ⟨he, bel⟩ => ?_
  subst he
  exact ⟨_, rfl, _, _, _, [], _, [], hW', trodAll_mk1 (shut_bool Try.underlying4 _), (trodAll_cons_mk (Below.trod laidOut (by kernel_rfl) (of_decide_eq_true (by kernel_rfl)) k0 bel lt0) (trodAll_cons_mk (Below.trod laidOut (by kernel_rfl) (of_decide_eq_true (by kernel_rfl)) k1 bel lt1) (trodAll_cons_mk (shut_int Try.underlying3 w2) trodAll_mk0))), rfl, bel.frame _, fun h => by cases h⟩

theorem over : Rows.sliceCutsRow.holds Try.pinned (OpenSpec.ofChange Rows.sliceCutsSpec) :=
  OpenClaim.holds_of_wide 3 Try.f3 rfl rfl rfl rfl rfl rfl rfl ⟨rfl, rfl, rfl, rfl, rfl⟩ rfl rfl rfl rfl rfl (by kernel_rfl) Try.func3 (by kernel_rfl)
    (of_decide_eq_true (by kernel_rfl)) (by unfold Func.isWrapper; first | (rw [if_pos (by decide +kernel)]; kernel_rfl) | (rw [if_neg (by decide +kernel)]; exact ⟨rfl, rfl⟩))
    (fun os started H enc _ => lifted os started H enc)

/-- ████ THE STATEMENT ████ -/
theorem proved : Rows.SliceCutsSaid := over
#print axioms proved
end Go.Proofs.Ytledjabhbakdeaa.sliceCuts
