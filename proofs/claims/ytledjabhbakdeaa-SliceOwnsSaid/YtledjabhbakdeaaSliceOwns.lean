/-
  Proved: for any numbers SliceOwns returns true (each head of each layer has just one owner, which has that layer and that head; each worker has some; stages and parts lie side by side without gaps) and nothing that was in memory turns. No condition.
-/
import Derived.Test.YtledjabhbakdeaaRows
import Derived.WalkKit
import Derived.ProofKit
import Derived.OpenShut
import Derived.ShutString
import Derived.ChangeOld
import Derived.Below
import Derived.Test.YtledjabhbakdeaaShapeRow
import Derived.Test.YtledjabhbakdeaaOwnLaw10
import Derived.Deep.RegionHeld3
import Derived.IntWalk
namespace Go.Proofs.Ytledjabhbakdeaa.sliceOwns
open Go.ChangeShapes Go.WideShapes Go.ChangeAt Go.RowKit
open Go.ChangeMaps (open_string shut_string)
set_option linter.unusedVariables false

theorem own : ownKnob Try.prog.godebug = none := by kernel_rfl
theorem laidOut : laidOutB Try.prog = true := by kernel_rfl

set_option maxHeartbeats 12800000 in
set_option maxRecDepth 100000 in
theorem walk (sl0 sw0 sh0 si0 sv0 sp0 : Int) (a1 : Int) (a2 : Int) (w : World) (h0 : Six sl0 sw0 sh0 si0 sv0 sp0) (h1 : (Lit.int .i64 a1).wf = true) (h2 : (Lit.int .i64 a2).wf = true) :
    Calls Try.prog 5 #[.agg #[.int .i64 sl0, .int .i64 sw0, .int .i64 sh0, .int .i64 si0, .int .i64 sv0, .int .i64 sp0], .int .i64 a1, .int .i64 a2] w fun e w' => e = .returned (.bool true) ∧ Below w.heap.size w w' := by
  have ba := wf64 h1
  have bb := wf64 h2
  clear h0 h1 h2
  go_enter Try.func5, Try.ntmps5
  go_wp2_with fail
  refine (awake10 _).mono ?_
  rintro e wa ⟨rfl, hb⟩
  have X6 := (box_new w _ _).bel hb
  have B := below_two ((Below.refl w.heap.size w).alloc (Nat.le_refl _) _) hb
  obtain ⟨c0, c1, c2, c3, c4, c5⟩ := X6.cells6
  clear hb X6
  go_wp2_with fail
  refine (tiny_any _ _ _ _ _ _ _).mono ?_
  rintro e wb ⟨⟨s, hs, rfl⟩, hb⟩
  replace B := below_two B hb
  clear hb c0 c1 c2 c3 c4 c5
  have mk := fun W => mkcut_any s hs a1 a2 W ba bb
  have hok := hs.1
  unfold Sz.val shv at mk
  go_wp2_with fail
  refine (mk _).mono ?_
  rintro e wc ⟨⟨st, pt, rfl, oc, st3, pt8⟩, hb⟩
  have XS := (box_new wb _ _).bel hb
  replace B := below_two (B.alloc B.size _) hb
  clear hb mk
  have r : SaysR s.l s.w s.h s.i s.v s.p st pt true := fun W => sright_yes _ _ _ _ _ _ _ _ W hok oc
  have r0 : SaysR s.l s.w s.h s.i s.v s.p (0 : Int) (0 : Int) false := fun W => sright_no _ _ _ _ _ _ _ _ W hok (by omega) (by omega) (fun h => absurd h.1 (by omega))
  obtain ⟨bl, bh, bw, bi, bv, bp⟩ := hok.bd
  have ow := fun W => owners_yes s hs st pt oc st3 pt8 W
  have on := fun W => owners_no s 0 0 W r0 0 0
  have ptl := oc.pt_le hok.2.2.1
  have pti : (pt : Int) ≤ s.i := Int.le_of_dvd (by omega) (Int.dvd_of_emod_eq_zero oc.2.2.2.2.1)
  obtain ⟨s0, s1x, p0, p1, p2, p3⟩ := oc
  obtain ⟨z, hz⟩ : ∃ z, z = st * pt := ⟨_, rfl⟩
  have e1 : (st : Int) * (pt : Int) = (z : Int) := by rw [hz]; push_cast; rfl
  have z24 : z ≤ 24 := by rw [hz]; exact Nat.mul_le_mul st3 pt8
  obtain ⟨y, hy⟩ : ∃ y, y = s.l * s.h := ⟨_, rfl⟩
  have e2 : (s.l : Int) * (s.h : Int) = (y : Int) := by rw [hy]; push_cast; rfl
  have y256 : y ≤ 256 := by rw [hy]; exact Nat.mul_le_mul bl.2 bh.2
  have nyy : ((y : Int) != (y : Int)) = false := by simp
  have HWH := Lib.hid (fun W (n : Nat) (hn : n < z) => where_yes st pt n W (by omega) (by omega) (by rw [← hz]; exact hn))
  have HLY := Lib.hid (fun W (j : Nat) hj => layers_yes s.l s.w s.h s.i s.v s.p st pt j s.l st W r rfl rfl (by omega) hj (by omega))
  have HHY := Lib.hid (fun W (j : Nat) hj => heads_yes s.l s.w s.h s.i s.v s.p st pt j s.h pt W r rfl rfl (by omega) hj (by omega))
  have HIY := Lib.hid (fun W (j : Nat) hj => inner_yes s.l s.w s.h s.i s.v s.p st pt j s.i pt W r rfl rfl (by omega) hj (by omega))
  have HOL := Lib.hid (fun l h (hl : l < s.l) (hh : h < s.h) => owner_lt (s := s) (st := st) (pt := pt) (by omega) (by omega) (by omega) (by omega) hl hh)
  have HOS := Lib.hid (fun l h n (hh : h < s.h) => owner_span (s := s) (st := st) (pt := pt) (l := l) (h := h) (n := n) (by omega) (by omega) (by omega) (by omega) hh)
  have HEND := Lib.hid (fun cs (hi : HasInv s st pt s.l 0 cs) => has_end hi (by omega) (by omega) (by omega) (by omega) (by omega) (by omega))
  have HST := Lib.hid (has_start s st pt)
  have HSL := Lib.hid (fun j => spn_lt s.l st j (by omega) (by omega))
  have HSI := Lib.hid (fun j => spn_lt s.i pt j (by omega) (by omega))
  have HL1 := Lib.hid (fun j (hj : j ≤ st) => span_le s.l st j hj)
  have HH1 := Lib.hid (fun j (hj : j ≤ pt) => span_le s.h pt j hj)
  have HI1 := Lib.hid (fun j (hj : j ≤ pt) => span_le s.i pt j hj)
  have HLE := Lib.hid (span_end s.l st (by omega))
  have HIE := Lib.hid (span_end s.i pt (by omega))
  rw [← hz] at HOL HEND HST
  have hmk := run_make_row' (P := Try.prog) 46 3 (.int .i64 0) 8 Try.underlying46 infoInt rfl .i64 .i64 z (by omega) (by omega)
  unfold Sz.val shv cutv at *
  clear r r0 p1 p2 p3 hs hok
  obtain ⟨hl1, hl2⟩ := bl
  obtain ⟨hh1, hh2⟩ := bh
  have XC := box_new wc 25 #[Value.int .i64 st, .int .i64 pt]
  have hS1 := (XS.alloc (.cells #[Value.int .i64 st, .int .i64 pt] 25))
  obtain ⟨c0, c1, c2, c3, c4, c5⟩ := hS1.cells6
  have HSZ := Lib.hid hz
  have HYZ := Lib.hid hy
  clear hz hy
  go_wp2_with fail
  refine (ow _).mono ?_
  rintro e wd ⟨⟨b, ps, rfl, hO, hpl, hin⟩, hb⟩
  replace XS := hS1.bel hb
  replace XC := XC.bel hb
  replace B := below_two (B.alloc B.size _) hb
  have hlen : ∀ ty, (Builtin.len_ #[44] ty #[.map (some b)]).run Try.prog wd = .ok (.int .i64 (y : Nat)) wd := fun ty => by rw [om_len hO ty, hpl, HYZ.out]
  clear c0 c1 c2 c3 c4 c5 hb ow hS1 hpl
  obtain ⟨c0, c1, c2, c3, c4, c5⟩ := XS.cells6
  have HIN := Lib.hid hin
  clear hin
  go_wp2_with fail
  refine (on _).mono ?_
  rintro e we ⟨⟨b2, rfl, hO2⟩, hb⟩
  replace XS := XS.bel hb
  replace XC := XC.bel hb
  replace B := below_two B hb
  have HO := Lib.hid (hO.below hb)
  have hlen2 : ∀ ty, (Builtin.len_ #[44] ty #[.map (some b2)]).run Try.prog we = .ok (.int .i64 0) we := fun ty => om_len hO2 ty
  clear c0 c1 c2 c3 c4 c5 hb on hlen hO hO2
  obtain ⟨c0, c1, c2, c3, c4, c5⟩ := XS.cells6
  obtain ⟨d0, d1⟩ := two_cells XC
  have HS := Lib.hid XS
  have HC := Lib.hid XC
  have HB := Lib.hid B
  have M0 := mine_made .i64 we 3 z rfl
  have B0 := (Below.refl we.heap.size we).alloc (Nat.le_refl _) (.cells (madeCells #[Value.int .i64 0] z) 3)
  have HM0 := Lib.hid M0
  clear XS XC B M0
  go_wp2_with fail
  clear c0 c1 c2 c3 c4 c5 d0 d1 hmk hlen2
  obtain ⟨gH, hgH⟩ : ∃ g, g = we.heap.size := ⟨_, rfl⟩
  rw [← hgH] at B0 HM0 ⊢
  have HGH := Lib.hid hgH
  clear hgH
  go_loopw [11] (fun x wr => ∃ (l : Nat) (cs : List Int), l ≤ s.l ∧ x = .int .i64 l ∧ Hid (MineK .i64 wr gH 3 cs ∧ HasInv s st pt l 0 cs) ∧ Hid (Below gH we wr)) (fun x _ => s.l - (intOf x).toNat)
  case atStart => exact ⟨0, _, by omega, rfl, Lib.hid ⟨HM0.out, HST.out⟩, Lib.hid B0⟩
  case round =>
    obtain ⟨l, cs, hl, rfl, hst1, hbel⟩ := hrel
    have hgr : gH < wr.heap.size := hst1.out.1.lt
    obtain ⟨c0, c1, c2, c3, c4, c5⟩ := (HS.out.below hbel.out (by rw [HGH.out]; exact HS.out.lt)).cells6
    obtain ⟨d0, d1⟩ := two_cells (HC.out.below hbel.out (by rw [HGH.out]; exact HC.out.lt))
    by_cases hlt : l < s.l
    · clear c1 c2 c3 c4 c5 d0 d1
      go_wp2_with fail
      clear c0
      go_loopw [12] (fun x wr => ∃ (h : Nat) (cs : List Int), h ≤ s.h ∧ x = .int .i64 h ∧ Hid (MineK .i64 wr gH 3 cs ∧ HasInv s st pt l h cs) ∧ Hid (Below gH we wr)) (fun x _ => s.h - (intOf x).toNat)
      case atStart => exact ⟨0, cs, by omega, rfl, hst1, hbel⟩
      case round =>
        obtain ⟨h, cs, hh, rfl, hst2, hbel2⟩ := hrel
        have hgr2 : gH < wr.heap.size := hst2.out.1.lt
        have XS := HS.out.below hbel2.out (by rw [HGH.out]; exact HS.out.lt)
        have XC := HC.out.below hbel2.out (by rw [HGH.out]; exact HC.out.lt)
        obtain ⟨c0, c1, c2, c3, c4, c5⟩ := XS.cells6
        obtain ⟨d0, d1⟩ := two_cells XC
        by_cases hlt2 : h < s.h
        · have hOr := HO.out.below (show Below we.heap.size we wr by have := hbel2.out; rwa [HGH.out] at this)
          obtain ⟨g, cap, hrun, hc⟩ := om_look hOr hlt hlt2 hl2 hh2 (HIN.out l h hlt hlt2)
          have hol := HOL.out l h hlt hlt2
          have hos := (HOS.out l h _ hlt2).1 rfl
          have hstep := has_step hst2.out.2 (by have := hol; rwa [HSZ.out] at this)
          have hM := hst2.out.1
          have hcl : cs.length = z := by rw [hst2.out.2.1, HSZ.out]
          have hbd := getD_nn (B := ((l * s.h + h : Nat) : Int)) (by omega) hst2.out.2.2.1 (owner s st pt l h)
          have hB256 : l * s.h + h ≤ 16 * 16 + 16 := by have := Nat.mul_le_mul (show l ≤ 16 by omega) hh2; omega
          have hMset := fun W (hm : MineK .i64 W gH 3 cs) => hm.set (owner s st pt l h) (cs.getD (owner s st pt l h) 0 + 1)
          have hcellH := fun W (hm : MineK .i64 W gH 3 cs) => hm.cell (k := owner s st pt l h) (by omega)
          have hfrzH := fun W (hm : MineK .i64 W gH 3 cs) => hm.frozen (owner s st pt l h)
          have wh := fun W => HWH.out W _ hol
          have ly := fun W => HLY.out W (owner s st pt l h / pt) ((Nat.div_lt_iff_lt_mul (by omega)).2 (by have := hol; rwa [HSZ.out] at this))
          have hy2 := fun W => HHY.out W (owner s st pt l h % pt) (Nat.mod_lt _ (by omega))
          obtain ⟨cv, hcv⟩ : ∃ cv, cs.getD (owner s st pt l h) 0 = cv := ⟨_, rfl⟩
          rw [hcv] at hstep hbd
          simp only [hcv] at hMset hcellH
          generalize owner s st pt l h = o at *
          have L1 := HL1.out (o / pt + 1) (by have : o / pt < st := (Nat.div_lt_iff_lt_mul (by omega)).2 (by have := hol; rwa [HSZ.out] at this); omega)
          have H1 := HH1.out (o % pt + 1) (by have := Nat.mod_lt o (show 0 < pt by omega); omega)
          obtain ⟨⟨u1, u2⟩, u3, u4⟩ := hos
          have q1 : o / pt ≤ o := Nat.div_le_self o pt
          have q2 : o % pt ≤ o := Nat.mod_le o pt
          generalize spanAt s.l st (o / pt) = l0 at *
          generalize spanAt s.l st (o / pt + 1) = l1 at *
          generalize spanAt s.h pt (o % pt) = h0 at *
          generalize spanAt s.h pt (o % pt + 1) = h1 at *
          generalize o / pt = oa at *
          generalize o % pt = ob at *
          have gz : gH ≠ wr.heap.size := by omega
          have cvb : cv + 1 ≤ 1000 := by omega
          have cvb0 : 0 ≤ cv := hbd.1
          have STP := Lib.hid hstep
          have HMS := Lib.hid hMset
          have HMC := Lib.hid hcellH
          have HMF := Lib.hid hfrzH
          have HM := Lib.hid hM
          have hgl := World.block_lt_of_cell? _ _ hc
          have dz : decide (z ≤ o) = false := by simp; omega
          have dz2 : decide ((o : Int) < 0) = false := decide_eq_false (by omega)
          have hlenH : (z : Int) = z := rfl
          clear hcv hstep hMset hcellH hfrzH hM hOr hst2 hst1 hbel hbd hlenH hgl
          go_upto_region 18 with (refine wpList_lookup_at (by rfl) _ _ 44 false (by rfl) _ _ _ (by rfl) (by rfl) hrun ?_)
          have n1 : wr.heap.size ≠ wc.heap.size := by have := XC.lt; omega
          have n2 : wc.heap.size ≠ wr.heap.size := by have := XC.lt; omega
          have n3 : wr.heap.size ≠ g := by have := World.block_lt_of_cell? _ _ hc; simp at this; omega
          have n4 : g ≠ wr.heap.size := by have := World.block_lt_of_cell? _ _ hc; simp at this; omega
          have hcA := wh wr.drew
          have hcB := wh ((wr.alloc (.cells #[.int .i64 0, .int .i64 0] 29)).drew)
          have sA : Below wr.heap.size wr wr.drew := (Below.refl _ _).drew
          have sB : Below wr.heap.size wr ((wr.alloc (.cells #[.int .i64 0, .int .i64 0] 29)).drew) := ((Below.refl _ _).alloc (Nat.le_refl _) _).drew
          have zB : Box ((wr.alloc (.cells #[.int .i64 0, .int .i64 0] 29)).drew) wr.heap.size 29 #[.int .i64 0, .int .i64 0] := (box_new wr _ _).drew
          clear wh
          go_cut [14, 15] from 95 to 148 (fun a f wx => ∃ b3 : Nat, a = .pointer (some ⟨b3, 0, none⟩) ∧ f = .bool true ∧ Hid (Below wr.heap.size wr wx) ∧ Hid (Box wx b3 29 #[.int .i64 oa, .int .i64 ob]))
          case first =>
            go_region_held3 (fun w' => w'.cell? ⟨wc.heap.size, 0, none⟩ = some (.int .i64 st) ∧ w'.cell? ⟨wc.heap.size, 1, none⟩ = some (.int .i64 pt) ∧ w'.cell? ⟨g, 0, none⟩ = some (.int .i64 o))
              (first | go_keep | (go_split_ands; refine ⟨?_, ?_, ?_⟩ <;> assumption))
              (first
                | (go_at_call 17; (with_reducible refine hcA.mono ?_); rintro e w1 ⟨rfl, hs1⟩
                   have hS1 := below_two sA hs1
                   obtain ⟨m0, m1⟩ := two_cells (XC.bel hS1)
                   have m2 := (hS1.cell (p := ⟨g, 0, none⟩) (World.block_lt_of_cell? _ _ hc)).trans hc)
                | (go_at_call 17; (with_reducible refine hcB.mono ?_); rintro e w2 ⟨rfl, hs2⟩
                   have hS2 := below_two sB hs2
                   have hz2 := zB.bel hs2
                   obtain ⟨m0, m1⟩ := two_cells (XC.bel hS2)
                   have m2 := (hS2.cell (p := ⟨g, 0, none⟩) (World.block_lt_of_cell? _ _ hc)).trans hc
                   obtain ⟨y0, y1⟩ := two_cells hz2
                   have y2 := hz2.frozen 0
                   have y3 := hz2.frozen 1))
            all_goals go_wp2_with fail
            all_goals go_meet
            all_goals (case rel => first
              | exact ⟨w1.heap.size, rfl, rfl, Lib.hid (hS1.alloc hS1.size _), Lib.hid (box_new w1 _ _)⟩
              | exact ⟨wr.heap.size, rfl, rfl, Lib.hid ((hS2.setCell (p := ⟨wr.heap.size, 0, none⟩) (Nat.le_refl _) _).setCell (p := ⟨wr.heap.size, 1, none⟩) (Nat.le_refl _) _), Lib.hid (by have := (hz2.set 0 (.int .i64 oa)).set 1 (.int .i64 ob); simpa using this)⟩)
          case rest =>
            obtain ⟨b3, rfl, rfl, hb3, HW⟩ := hcut
            clear dz dz2
            clear hcA hcB sA sB zB n1 n2 n3 n4 c0 c1 c2 c3 c4 c5 d0 d1
            obtain ⟨c0, c1, c2, c3, c4, c5⟩ := (XS.bel hb3.out).cells6
            obtain ⟨d0, d1⟩ := two_cells (XC.bel hb3.out)
            obtain ⟨x0, x1⟩ := two_cells HW.out
            have BB := below_two (show Below wr.heap.size wr wr from Below.refl _ _) hb3.out
            go_wp2_with fail
            refine (ly _).mono ?_
            rintro e wx1 ⟨rfl, hb⟩
            clear c0 c1 c2 c3 c4 c5 d0 d1 x0 x1 ly
            replace BB := below_two BB hb
            have hw3 := HW.out.bel hb
            obtain ⟨c0, c1, c2, c3, c4, c5⟩ := ((XS.bel BB).alloc (.cells #[Value.int .i64 l0, .int .i64 l1] 29)).cells6
            obtain ⟨d0, d1⟩ := two_cells ((XC.bel BB).alloc (.cells #[Value.int .i64 l0, .int .i64 l1] 29))
            obtain ⟨x0, x1⟩ := two_cells (hw3.alloc (.cells #[Value.int .i64 l0, .int .i64 l1] 29))
            have hL3 := box_new wx1 29 #[Value.int .i64 l0, .int .i64 l1]
            clear hb
            go_wp2_with fail
            refine (hy2 _).mono ?_
            rintro e wx2 ⟨rfl, hb⟩
            clear c0 c1 c2 c3 c4 c5 d0 d1 x0 x1 hy2 hw3
            replace BB := below_two (BB.alloc BB.size _) hb
            obtain ⟨x0, x1⟩ := two_cells ((hL3.bel hb).alloc (.cells #[Value.int .i64 h0, .int .i64 h1] 29))
            obtain ⟨y0, y1⟩ := two_cells (box_new wx2 29 #[Value.int .i64 h0, .int .i64 h1])
            replace BB := BB.alloc BB.size (.cells #[Value.int .i64 h0, .int .i64 h1] 29)
            have hcc := (BB.cell (p := ⟨g, 0, none⟩) (World.block_lt_of_cell? _ _ hc)).trans hc
            have hmm := HM.out.below BB (by omega)
            have z0 := HMC.out _ hmm
            have z1 := HMF.out _ hmm
            have HBZ : Hid (Below gH we ((wx2.alloc (.cells #[Value.int .i64 h0, .int .i64 h1] 29)).setCell ⟨gH, o, none⟩ (.int .i64 (cv + 1)))) := Lib.hid ((hbel2.out.trans (BB.mono (by omega))).setCell (p := ⟨gH, o, none⟩) (Nat.le_refl _) _)
            have HMZ := Lib.hid (And.intro (HMS.out _ hmm) STP.out)
            clear hb hL3 BB hmm hbel2 XS XC hb3 HW
            go_wp2
            go_roundw
            case rel => exact ⟨h + 1, _, by omega, by go_num, HMZ, HBZ⟩
            case measure => simp [intOf]; omega
        · obtain rfl : h = s.h := by omega
          have ST := Lib.hid (And.intro hst2.out.1 (has_row hst2.out.2))
          clear hst1 hst2 hbel c0 c1 c3 c4 c5 d0 d1
          go_wp2
          go_roundw
          case rel => exact ⟨l + 1, cs, by omega, by go_num, ST, hbel2⟩
          case measure => simp [intOf]; omega
    · obtain rfl : l = s.l := by omega
      have CE := Lib.hid (HEND.out cs hst1.out.2)
      have hcl : cs.length = z := by rw [hst1.out.2.1, HSZ.out]
      have HCL := Lib.hid hcl
      have HM := Lib.hid hst1.out.1
      have HB2 := Lib.hid hbel.out
      clear c1 c2 c3 c4 c5 d0 d1 hst1 hbel
      go_wp2_with fail
      clear c0
      go_loopw [20] (fun x wq => ∃ (k : Nat), k ≤ z ∧ x = .int .i64 k ∧ wq = wr) (fun x _ => z - (intOf x).toNat)
      case atStart => exact ⟨0, by omega, rfl, rfl⟩
      case round =>
        obtain ⟨k, hk, rfl, rfl⟩ := hrel
        by_cases hk2 : k < z
        · have ce := CE.out k hk2
          have cc := HM.out.cell (k := k) (by rw [hcl]; exact hk2)
          generalize cs.getD k 0 = v at *
          have hv : (v == 0) = false := by simp; omega
          have i1 : (k : Int) < (z : Int) := by omega
          clear ce
          go_wp2
          go_roundw
          case rel => exact ⟨k + 1, by omega, by go_num, trivial⟩
          case measure => simp [intOf]; omega
        · obtain rfl : k = z := by omega
          have HX0 := Lib.hid (HS.out.below HB2.out (by rw [HGH.out]; exact HS.out.lt))
          have HC0 := Lib.hid (HC.out.below HB2.out (by rw [HGH.out]; exact HC.out.lt))
          have FB := Lib.hid (below_two HB.out (show Below we.heap.size we _ by have := HB2.out; rw [HGH.out] at this; exact this))
          go_wp2_with fail
          go_loopw [21, 23] (fun x i wq => ∃ (j : Nat), j ≤ st ∧ i = .int .i64 j ∧ x = .int .i64 (spanAt s.l st j : Nat) ∧ Hid (Below wr.heap.size wr wq)) (fun _ i _ => st - (intOf i).toNat)
          case atStart => exact ⟨0, by omega, rfl, by rw [span_zero]; rfl, Lib.hid (Below.refl _ _)⟩
          case round =>
            obtain ⟨j, hj, rfl, rfl, hq⟩ := hrel
            have XS := HX0.out.bel hq.out
            have XC := HC0.out.bel hq.out
            obtain ⟨c0, c1, c2, c3, c4, c5⟩ := XS.cells6
            obtain ⟨d0, d1⟩ := two_cells XC
            by_cases hj2 : j < st
            · have ly := fun W => HLY.out W j hj2
              have l1 := HSL.out j
              have l2 := HL1.out (j + 1) (by omega)
              generalize hA : spanAt s.l st j = x at ly l1 ⊢
              generalize hB : spanAt s.l st (j + 1) = x2 at ly l1 l2
              have HNX := Lib.hid hB
              clear hA hB
              go_wp2_with fail
              refine (ly _).mono ?_
              rintro e wx ⟨rfl, hb⟩
              have hq2 := below_two hq.out hb
              obtain ⟨x0, x1⟩ := two_cells (box_new wx 29 #[Value.int .i64 x, .int .i64 x2])
              have BB := Lib.hid (hq2.alloc hq2.size (.cells #[Value.int .i64 x, .int .i64 x2] 29))
              clear c0 c1 c2 c3 c4 c5 d0 d1 hb hq hq2 ly XS XC
              go_wp2
              go_roundw
              case rel => exact ⟨j + 1, by omega, by go_num, by rw [HNX.out], BB⟩
              case measure => simp [intOf]; omega
            · obtain rfl : j = st := by omega
              rw [HLE.out]
              clear c1 c2 c3 c4 c5
              go_wp2_with fail
              clear c0 d0 d1
              go_loopw [22, 26] (fun x i wq => ∃ (j : Nat), j ≤ pt ∧ i = .int .i64 j ∧ x = .int .i64 (spanAt s.i pt j : Nat) ∧ Hid (Below wr.heap.size wr wq)) (fun _ i _ => pt - (intOf i).toNat)
              case atStart => exact ⟨0, by omega, rfl, by rw [span_zero]; rfl, Lib.hid (Below.refl _ _)⟩
              case round =>
                obtain ⟨m, hm, rfl, rfl, hr⟩ := hrel
                have YS := XS.bel hr.out
                have YC := XC.bel hr.out
                obtain ⟨c0, c1, c2, c3, c4, c5⟩ := YS.cells6
                obtain ⟨d0, d1⟩ := two_cells YC
                by_cases hm2 : m < pt
                · have iy := fun W => HIY.out W m hm2
                  have l1 := HSI.out m
                  have l2 := HI1.out (m + 1) (by omega)
                  generalize hA : spanAt s.i pt m = x at iy l1 ⊢
                  generalize hB : spanAt s.i pt (m + 1) = x2 at iy l1 l2
                  have HNX := Lib.hid hB
                  clear hA hB
                  go_wp2_with fail
                  refine (iy _).mono ?_
                  rintro e wx ⟨rfl, hb⟩
                  have hq2 := below_two hr.out hb
                  obtain ⟨x0, x1⟩ := two_cells (box_new wx 29 #[Value.int .i64 x, .int .i64 x2])
                  have BB := Lib.hid (hq2.alloc hq2.size (.cells #[Value.int .i64 x, .int .i64 x2] 29))
                  clear c0 c1 c2 c3 c4 c5 d0 d1 hb hr hq2 iy YS YC
                  go_wp2
                  go_roundw
                  case rel => exact ⟨m + 1, by omega, by go_num, by rw [HNX.out], BB⟩
                  case measure => simp [intOf]; omega
                · obtain rfl : m = pt := by omega
                  rw [HIE.out]
                  go_wp2
                  go_ret
                  exact ⟨rfl, below_two (below_two FB.out hq.out) hr.out⟩

set_option maxRecDepth 100000 in
theorem lifted (os : Os) (started : os.Started) (H : Type) (enc : TypeId × Value → H) :
    ReturnsInHanded {} Try.checked os 5 .any (Rows.sliceOwnsSpec.pre6 enc Try.prog Try.f5 Rows.sliceOwnsRow.domain false) (Rows.sliceOwnsSpec.post enc Try.prog Try.f5 false true false false) := by
  refine returnsInHanded_of_change (C := Try.checked) own started (by kernel_rfl) Try.func5
    (ChangeSpec.witness6 (enc := enc) (C := Try.checked) false ⟨#[], #[.agg #[.int .i64 0, .int .i64 0, .int .i64 0, .int .i64 0, .int .i64 0, .int .i64 0], .int .i64 0, .int .i64 0], []⟩ 8 (by kernel_rfl) (by kernel_rfl) (by kernel_rfl) (by kernel_rfl)) ?_
  intro W base args ds gs before hval0 hW hcnd _
  have hval : ∀ (j : Nat) t v, Try.f5.params[j]? = some t → args[j]? = some v → Value.okWide Try.prog W .any base t v := hval0
  have hW' := hW
  obtain ⟨p, q, hA0, hV, rfl, hfz, hnd⟩ := hW
  have hA : DataW.TrodAll enc Try.prog W 0 (fun _ => true) true Try.f5.params.toList args.toList ds p := hA0
  rw [Try.params5] at hA hval
  obtain ⟨v0, vs0, d0, ds0, p0, q0, hargs, rfl, rfl, h0, r0⟩ := trodAll_cons hA
  obtain ⟨v1, vs1, d1, ds1, p1, q1, rfl, rfl, rfl, h1, r1⟩ := trodAll_cons r0
  obtain ⟨v2, vs2, d2, ds2, p2, q2, rfl, rfl, rfl, h2, r2⟩ := trodAll_cons r1
  obtain ⟨rfl, rfl, rfl⟩ := trodAll_nil r2
  obtain rfl : args = #[v0, v1, v2] := by cases args; simp_all
  obtain ⟨rfl, rfl⟩ := trodVars_none hV
  have k0 := h0
  have lt0 : ∀ x ∈ p0, x.block < W.heap.size := by obtain ⟨m, hm⟩ := k0; exact DataW.trod_lt m _ _ _ hm
  obtain ⟨xl0, xw0, xh0, xi0, xv0, xp0, rfl, w0⟩ := open_six (hval 0 41 v0 rfl rfl) h0
  obtain ⟨a1, rfl, rfl, rfl, w1⟩ := open_int Try.underlying3 (hval 1 3 v1 rfl rfl) h1
  obtain ⟨a2, rfl, rfl, rfl, w2⟩ := open_int Try.underlying3 (hval 2 3 v2 rfl rfl) h2
  clear hA0 hval0
  refine (walk xl0 xw0 xh0 xi0 xv0 xp0 a1 a2 W w0 w1 w2).mono fun e W' ⟨he, bel⟩ => ?_
  subst he
  exact ⟨_, rfl, _, _, _, [], _, [], hW', trodAll_mk1 (shut_bool Try.underlying4 _), (trodAll_cons_mk (Below.trod laidOut (by kernel_rfl) (of_decide_eq_true (by kernel_rfl)) k0 bel lt0) (trodAll_cons_mk (shut_int Try.underlying3 w1) (trodAll_cons_mk (shut_int Try.underlying3 w2) trodAll_mk0))), rfl, bel.frame _, fun h => by cases h⟩

theorem over : Rows.sliceOwnsRow.holds Try.pinned (OpenSpec.ofChange Rows.sliceOwnsSpec) :=
  OpenClaim.holds_of_wide 5 Try.f5 rfl rfl rfl rfl rfl rfl rfl ⟨rfl, rfl, rfl, rfl, rfl⟩ rfl rfl rfl rfl rfl (by kernel_rfl) Try.func5 (by kernel_rfl)
    (of_decide_eq_true (by kernel_rfl)) (by unfold Func.isWrapper; first | (rw [if_pos (by decide +kernel)]; kernel_rfl) | (rw [if_neg (by decide +kernel)]; exact ⟨rfl, rfl⟩))
    (fun os started H enc _ => lifted os started H enc)

/-- ████ THE STATEMENT ████ -/
theorem proved : Rows.SliceOwnsSaid := over
#print axioms proved
end Go.Proofs.Ytledjabhbakdeaa.sliceOwns
