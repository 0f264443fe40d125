/-
  Proved: for any small model and two lists of tokens ModelPast returns true (what is kept of a place never changes, whatever is fed behind, and whatever a fork is fed; runs of one model don't touch one another; lists of more than 10 tokens are let go) and nothing that was in memory turns. No condition beside the row's own on the two tables.
-/
import Derived.Test.YtoeihigdndkjeaaGreatDoorRows
import Derived.WalkKit
import Derived.ProofKit
import Derived.OpenShut
import Derived.ShutString
import Derived.ChangeOld
import Derived.Below
import Derived.Test.YtoeihigdndkjeaaGreatDoorJ05
import Derived.Test.YtoeihigdndkjeaaGreatDoorJ04
import Derived.Test.YtoeihigdndkjeaaGreatDoorTie
import Derived.Test.YtoeihigdndkjeaaGreatDoorCards
import Derived.SevenTiedAt
import Derived.Test.YtoeihigdndkjeaaGreatDoorJ32
import Derived.Test.YtoeihigdndkjeaaGreatDoorJ36
import Derived.Test.YtoeihigdndkjeaaGreatDoorJ35
namespace Go.Proofs.YtoeihigdndkjeaaGreatDoor.modelPast
open Go.ChangeShapes Go.WideShapes Go.ChangeAt Go.RowKit
open Go.ChangeMaps (open_string shut_string)
set_option linter.unusedVariables false

theorem own : ownKnob Tryz.prog.godebug = none := by kernel_rfl
theorem laidOut : laidOutB Tryz.prog = true := by kernel_rfl

set_option maxHeartbeats 32000000 in
set_option maxRecDepth 100000 in
theorem walk (sl0 sw0 sh0 si0 sv0 sp0 sd0 : Int) (q0 : Rw) (q1 : Rw) (q2 : Rw) (w : World) (h0 : Six sl0 sw0 sh0 si0 sv0 sp0 ∧ (Lit.int .u64 sd0).wf = true ∧ q0.In .i8 w) (h1 : q1.In .i64 w) (h2 : q2.In .i64 w) (hT : Tabs9 w) :
    Calls Tryz.prog 5 #[.agg #[.int .i64 sl0, .int .i64 sw0, .int .i64 sh0, .int .i64 si0, .int .i64 sv0, .int .i64 sp0, .int .u64 sd0, .slice q0.a q0.n q0.cap], .slice q1.a q1.n q1.cap, .slice q2.a q2.n q2.cap] w fun e w' => e = .returned (.bool true) ∧ Below w.heap.size w w' := by
  obtain ⟨-, hsd, hq0⟩ := h0
  obtain ⟨sd, rfl, hsd2⟩ : ∃ k : Nat, sd0 = (k : Int) ∧ k < 18446744073709551616 := by
    have := wfu64 hsd
    exact ⟨sd0.toNat, by omega, by omega⟩
  clear hsd
  have hf4 := fun (a0 a1 a2 a3 a4 a5 : Value) (W : World) => (run_field8 a0 a1 a2 a3 a4 a5 W).1
  have hf5 := fun (a0 a1 a2 a3 a4 a5 : Value) (W : World) => (run_field8 a0 a1 a2 a3 a4 a5 W).2.1
  have hf0 := fun (a0 a1 a2 a3 a4 a5 : Value) (W : World) => (run_field8 a0 a1 a2 a3 a4 a5 W).2.2
  have B1 : ∀ (U : World) (o : Obj), Below U.heap.size U (U.alloc o) := fun U o => (Below.refl _ _).alloc (Nat.le_refl _) o
  have HQ1 := Lib.hid h1
  have HQ2 := Lib.hid h2
  have HQ0 := Lib.hid hq0
  have HT := Lib.hid hT
  have hq1 := h1.2.1
  have hq5 := h2.2.1
  have hq6 := h2.2.2.1
  have hq2 := h1.2.2.1
  have hq3 := hq0.2.1
  have hq4 := hq0.2.2.1
  clear h1 h2 hq0 hT
  go_enter Tryz.func5, Tryz.ntmps5
  go_upto_region 1 with (fail)
  generalize hwa : World.alloc _ _ = wa
  have XS : Box wa w.heap.size 26 #[.int .i64 sl0, .int .i64 sw0, .int .i64 sh0, .int .i64 si0, .int .i64 sv0, .int .i64 sp0, .int .u64 sd, .slice q0.a q0.n q0.cap] := by rw [← hwa]; exact box_new _ _ _
  have HB : Below w.heap.size w wa := by rw [← hwa]; exact (Below.refl _ _).alloc (Nat.le_refl _) _
  clear hwa
  have cA := awake8 wa (HT.out.bel HB)
  have HXS := Lib.hid XS
  have HBA := Lib.hid HB
  clear XS HB
  by_cases hn : q1.n ≤ 10 ∧ q2.n ≤ 10 ∧ q0.n ≤ 2000
  · obtain ⟨hn1, hn3, hn2⟩ := hn
    go_wp2_with fail
    refine cA.mono ?_
    rintro e wb ⟨rfl, hb⟩
    have HXSb := Lib.hid (HXS.out.bel hb)
    have HBb := Lib.hid (below_two HBA.out hb)
    clear cA hb HXS HBA
    have z0 : wb.cell? ⟨w.heap.size, 0, none⟩ = some (.int .i64 sl0) := HXSb.out.cell 0
    have z1 : wb.cell? ⟨w.heap.size, 1, none⟩ = some (.int .i64 sw0) := HXSb.out.cell 1
    have z2 : wb.cell? ⟨w.heap.size, 2, none⟩ = some (.int .i64 sh0) := HXSb.out.cell 2
    have z3 : wb.cell? ⟨w.heap.size, 3, none⟩ = some (.int .i64 si0) := HXSb.out.cell 3
    have z4 : wb.cell? ⟨w.heap.size, 4, none⟩ = some (.int .i64 sv0) := HXSb.out.cell 4
    have z5 : wb.cell? ⟨w.heap.size, 5, none⟩ = some (.int .i64 sp0) := HXSb.out.cell 5
    have z6 : wb.cell? ⟨w.heap.size, 6, none⟩ = some (.int .u64 sd) := HXSb.out.cell 6
    have z7 : wb.cell? ⟨w.heap.size, 7, none⟩ = some (.slice q0.a q0.n q0.cap) := HXSb.out.cell 7
    have cM := made8 sl0 sw0 sh0 si0 sv0 sp0 sd hsd2 q0 wb (HQ0.out.below HBb.out) hn2
    go_wp2_with fail
    refine cM.mono ?_
    rintro e wc ⟨⟨m, rr, s, W, V, rfl, hm0, hrr0, hXR, hM⟩, hb⟩
    have HM := Lib.hid hM
    have HBc := Lib.hid (below_two HBb.out hb)
    have cS := shape8 m s V wc hM.mod
    unfold Sz.val shv at cS
    have ok := hM.tiny.1
    have bd := ok.bd
    have OK := Lib.hid ok
    have hp12 : s.p ≤ 12 := hM.p12
    have hv1 : 0 < s.v := by omega
    have hv9 : s.v ≤ 1000 := by omega
    have hp1 : 1 ≤ s.p := by omega
    have hl3 : s.l ≤ 3 := hM.tiny.2.1
    have HXR := Lib.hid hXR
    have hwb := HBb.out.size
    have hwc := hb.size
    have hw128 : s.w ≤ 128 := bd.2.2.1.2
    have hv512 : s.v ≤ 512 := bd.2.2.2.2.1.2
    have HSIX := Lib.hid hM.six
    have HWT := Lib.hid hM.whole
    have HSAME := Lib.hid hM.same
    clear cM hb hM HXSb HBb z0 z1 z2 z3 z4 z5 z6 z7 ok bd hXR
    go_wp2_with fail
    refine cS.mono ?_
    rintro e wd ⟨rfl, hb⟩
    have HMd := Lib.hid (HM.out.bel hb)
    have HBd := Lib.hid (below_two HBc.out hb)
    have HXRd := Lib.hid (HXR.out.bel hb)
    clear cS hb HM HBc HXR
    have cF := fits8 q1 s.v hv1 hv9 wd (HQ1.out.below HBd.out) (by omega)
    go_wp2_with fail
    refine cF.mono ?_
    rintro e we ⟨⟨⟨xa, xn, xcap, xv⟩, rfl, xi, xvv, xnn, xz⟩, hb⟩
    simp only at xi xvv xnn xz
    have HMe := Lib.hid (HMd.out.bel hb)
    have HBe := Lib.hid (below_two HBd.out hb)
    have HXRe := Lib.hid (HXRd.out.bel hb)
    have HXI := Lib.hid xi
    have HXB : Hid (∀ x ∈ xv, 0 ≤ x ∧ x < s.v) := Lib.hid fun x hx => by
      rw [xvv] at hx
      obtain ⟨y, _, rfl⟩ := List.mem_map.1 hx
      exact fitI_bd s.v hv1 y
    have HXF : Hid ((xa = none ∧ xn = 0 ∧ xcap = 0) ∨ (0 < xn ∧ ∃ b o, xa = some ⟨b, o, none⟩)) := Lib.hid (by
      rcases Nat.eq_zero_or_pos xn with e | e
      · have := xz (by omega)
        exact .inl ⟨this.1, e, this.2⟩
      · obtain ⟨b, o, h3, _⟩ := xi.1.2.2.2 e
        exact .inr ⟨e, b, o, h3⟩)
    have xn10 : xn ≤ 10 := by omega
    have xc1 := xi.2.1
    have xc2 := xi.2.2.1
    simp only at xc1 xc2
    have cS := shape8 m s V we HMe.out.mod
    unfold Sz.val shv at cS
    clear cF hb xi xvv xnn xz HMd HBd HXRd
    go_wp2_with fail
    refine cS.mono ?_
    rintro e wf ⟨rfl, hb⟩
    have HMf := Lib.hid (HMe.out.bel hb)
    have HBf := Lib.hid (below_two HBe.out hb)
    have HXRf := Lib.hid (HXRe.out.bel hb)
    have HXIf := Lib.hid (HXI.out.below hb)
    clear cS hb HMe HBe HXRe HXI
    have cF := fits8 q2 s.v hv1 hv9 wf (HQ2.out.below HBf.out) (by omega)
    go_wp2_with fail
    refine cF.mono ?_
    rintro e wg ⟨⟨⟨ya, yn, ycap, yv⟩, rfl, yi, yvv, ynn, yz⟩, hb⟩
    simp only at yi yvv ynn yz
    have HMg := Lib.hid (HMf.out.bel hb)
    have HBg := Lib.hid (below_two HBf.out hb)
    have HXRg := Lib.hid (HXRf.out.bel hb)
    have HXIg := Lib.hid (HXIf.out.below hb)
    have HYI := Lib.hid yi
    have HYB : Hid (∀ x ∈ yv, 0 ≤ x ∧ x < s.v) := Lib.hid fun x hx => by
      rw [yvv] at hx
      obtain ⟨y, _, rfl⟩ := List.mem_map.1 hx
      exact fitI_bd s.v hv1 y
    have HYF : Hid ((ya = none ∧ yn = 0 ∧ ycap = 0) ∨ (0 < yn ∧ ∃ b o, ya = some ⟨b, o, none⟩)) := Lib.hid (by
      rcases Nat.eq_zero_or_pos yn with e | e
      · have := yz (by omega)
        exact .inl ⟨this.1, e, this.2⟩
      · obtain ⟨b, o, h3, _⟩ := yi.1.2.2.2 e
        exact .inr ⟨e, b, o, h3⟩)
    have yn10 : yn ≤ 10 := by omega
    have yc1 := yi.2.1
    have yc2 := yi.2.2.1
    simp only at yc1 yc2
    have cS := shape8 m s V wg HMg.out.mod
    unfold Sz.val shv at cS
    clear cF hb yi yvv ynn yz HMf HBf HXRf HXIf
    go_upto_region 7 with (fail)
    go_wp2_with fail
    refine cS.mono ?_
    rintro e wh ⟨rfl, hb⟩
    have HMh := Lib.hid (HMg.out.bel hb)
    have HBh := Lib.hid (below_two HBg.out hb)
    have HXRh := Lib.hid (HXRg.out.bel hb)
    have HXIh := Lib.hid (HXIg.out.below hb)
    have HYIh := Lib.hid (HYI.out.below hb)
    clear cS hb HMg HBg HXRg HXIg HYI
    by_cases hpl : s.p < xn + yn
    · have hpl2 : (s.p : Int) < (xn : Int) + (yn : Int) := by omega
      go_wp2
      go_ret
      exact ⟨rfl, HBh.out⟩
    have hpl2 : ¬ ((s.p : Int) < (xn : Int) + (yn : Int)) := by omega
    have HTX : Hid (TsR wh s xa xn xcap xv) := Lib.hid ⟨HXIh.out, HXB.out, by omega, HXF.out⟩
    have HTY : Hid (TsR wh s ya yn ycap yv) := Lib.hid ⟨HYIh.out, HYB.out, by omega, HYF.out⟩
    have hxl : xv.length = xn := HXIh.out.1.1
    have hyl : yv.length = yn := HYIh.out.1.1
    have HXL := Lib.hid hxl
    have HYL := Lib.hid hyl
    have hxlt : ∀ b o, xa = some ⟨b, o, none⟩ → b < wh.heap.size := fun b o e => HTX.out.lt e
    have hylt : ∀ b o, ya = some ⟨b, o, none⟩ → b < wh.heap.size := fun b o e => HTY.out.lt e
    have cR := run8 m s V wh HMh.out.mod (fun _ _ => ([], []))
    have hwh := HBh.out.size
    clear HXIh HYIh HXB HYB HXF HYF hxl hyl
    go_upto_region 9 with (fail)
    go_wp2_with fail
    refine cR.mono ?_
    rintro e wi ⟨⟨r1, mb1, rfl, d11, d12, d13, hR1⟩, hb⟩
    have HMi := Lib.hid (HMh.out.bel hb)
    have HBi := Lib.hid (below_two HBh.out hb)
    have HXRi := Lib.hid (HXRh.out.bel hb)
    have HTXi := Lib.hid (HTX.out.bel hb)
    have HTYi := Lib.hid (HTY.out.bel hb)
    have E1 : RunE wi r1 m mb1 s V [] := ⟨0, ⟨hR1, HMi.out.mod, (HT.out.bel HBi.out).1, (HT.out.bel HBi.out).2.1⟩, by simp⟩
    have HE1 := Lib.hid E1
    have l1 := E1.lts
    have cR := run8 m s V wi HMi.out.mod (fun _ _ => ([], []))
    clear hb HMh HBh HXRh HTX HTY hR1 E1
    go_wp2_with fail
    refine cR.mono ?_
    rintro e wj ⟨⟨r2, mb2, rfl, d21, d22, d23, hR2⟩, hb⟩
    have hBj := below_two HBi.out hb
    have T0 : TripS w wj r1 mb1 r2 mb2 m rr (.slice none 0 0) s W V [] [] (atO (W.nums s) st09 xv 0).p (atO (W.nums s) st09 xv 0).K :=
      ⟨HE1.out.bel hb, ⟨0, ⟨hR2, HMi.out.mod.bel hb, (HT.out.bel hBj).1, (HT.out.bel hBj).2.1⟩, by simp⟩, docS_new (HXRi.out.bel hb) (HMi.out.inn.bel hb), hBj, by omega, by omega, by omega, (by intro g hg; cases hg), by omega⟩
    have HT0 := Lib.hid T0
    have HTXj := Lib.hid (HTXi.out.bel hb)
    have HTYj := Lib.hid (HTYi.out.bel hb)
    have l2 := T0.lts
    have cF := fedE r1 m mb1 xn xcap s OK.out V [] xv wj T0.run1 (by omega) xa HTXj.out.inn.1 (by omega) (fun b o e => by have := hxlt b o e; omega) HTXj.out.bd (by simp; omega)
    rw [List.nil_append] at cF
    clear cR hb HMi HBi HXRi HTXi HTYi hR2 T0 HE1 hBj
    go_wp2_with fail
    refine cF.mono ?_
    rintro e wk ⟨⟨xr, rfl, -, hE⟩, haw⟩
    have HT1 := Lib.hid (HT0.out.one haw hE)
    have HTXk := Lib.hid (HTXj.out.away haw (fun b o e => by have := hxlt b o e; omega))
    have HTYk := Lib.hid (HTYj.out.away haw (fun b o e => by have := hylt b o e; omega))
    have hwk := haw.size
    clear cF hE haw HT0 HTXj HTYj
    go_wp2_with fail
    go_loopw [13] (fun i wr => ∃ (j : Nat) (lv : Value), j ≤ xn ∧ i = .int .i64 j ∧ Hid (TripS w wr r1 mb1 r2 mb2 m rr lv s W V xv [] (atO (W.nums s) st09 xv j).p (atO (W.nums s) st09 xv j).K) ∧ Hid (TsR wr s xa xn xcap xv) ∧ Hid (TsR wr s ya yn ycap yv) ∧ wk.heap.size ≤ wr.heap.size) (fun i _ => xn - (intOf i).toNat)
    case atStart => exact ⟨0, _, by omega, rfl, HT1, HTXk, HTYk, by omega⟩
    case round =>
      clear HT1 HTXk HTYk
      obtain ⟨j, lv, hj, rfl, HTr, HTX, HTY, hwr⟩ := hrel
      by_cases hlt : j < xn
      · obtain ⟨b, off, y, hab, hc, hy, wy⟩ := HTX.out.inn.1.at_ hlt
        simp only at hab hc hy
        subst hab
        have hyr := HTX.out.bd y (by
          rw [← hy.out]
          exact getD_mem (by rw [HXL.out]; exact hlt))
        obtain ⟨ty, hty⟩ : ∃ ty : Nat, y = (ty : Int) := ⟨y.toNat, by omega⟩
        subst hty
        have hpj : (atO (W.nums s) st09 xv j).p = j := by rw [atO_p _ _ _ _ (by rw [HXL.out]; omega)]; exact Nat.zero_add _
        have cO := oneC rr ty (atO (W.nums s) st09 xv j).p lv s OK.out W (atO (W.nums s) st09 xv j).K wr HTr.out.doc HSIX.out HWT.out (by omega) (by rw [hpj]; omega)
        have HN : Hid (goO (W.nums s) (atO (W.nums s) st09 xv j) ty = atO (W.nums s) st09 xv (j + 1)) := Lib.hid (by
          rw [atO_next _ _ _ _ (by rw [HXL.out]; exact hlt), hy.out]
          rfl)
        clear hy wy hyr hpj
        go_wp2_with fail
        refine cO.mono ?_
        rintro e w3 ⟨⟨oa, oc, rfl, -⟩, ⟨lv3, hD3, hlv3⟩, hA3⟩
        have hT3 := HTr.out.docS hA3 hD3 hlv3
        have hst := HTr.out.doc.stays hD3.box hA3
        have HT3 : Hid (TripS w w3 r1 mb1 r2 mb2 m rr lv3 s W V xv [] (atO (W.nums s) st09 xv (j + 1)).p (atO (W.nums s) st09 xv (j + 1)).K) := Lib.hid (by rw [← HN.out]; exact hT3)
        have HTX3 := Lib.hid (HTX.out.stays hst)
        have HTY3 := Lib.hid (HTY.out.stays hst)
        have hw3 := hA3.size
        clear cO hD3 hlv3 hA3 hT3 hst HTr HTX HTY HN
        go_wp2
        go_roundw
        case rel => exact ⟨j + 1, lv3, by omega, by go_num, HT3, HTX3, HTY3, by omega⟩
        case measure => simp [intOf]; omega
      · obtain rfl : j = xn := by omega
        obtain ⟨KF, hKF⟩ : ∃ KF, (runO (W.nums s) st09 (xv.map Int.toNat)).K = KF := ⟨_, rfl⟩
        have HKF : Hid (TripS w wr r1 mb1 r2 mb2 m rr lv s W V xv [] j KF) := Lib.hid (by
          have h1 := HTr.out
          have h2 : atO (W.nums s) st09 xv j = runO (W.nums s) st09 (xv.map Int.toNat) := atO_all _ _ _ _ (by rw [HXL.out]; exact Nat.le_refl _)
          rw [h2, hKF, runO_p, List.length_map, HXL.out] at h1
          rwa [show st09.p + j = j from Nat.zero_add j] at h1)
        have HKE := Lib.hid hKF
        have cK := forkE r1 m mb1 s V xv wr HKF.out.run1
        clear HTr hKF
        go_wp2_with fail
        refine cK.mono ?_
        rintro e ws ⟨⟨r3, mb3, rfl, d31, d32, d33, hR3⟩, hb⟩
        have HTs := Lib.hid (HKF.out.below hb)
        have HTXs := Lib.hid (HTX.out.bel hb)
        have HTYs := Lib.hid (HTY.out.bel hb)
        have HR3 := Lib.hid hR3
        have l3 := hR3.lts
        have l4 := HKF.out.lts
        have cF := fedE r2 m mb2 yn ycap s OK.out V [] yv ws HTs.out.run2 (by omega) ya HTYs.out.inn.1 (by omega) (fun b o e => by have := hylt b o e; omega) HTYs.out.bd (by simp; omega)
        rw [List.nil_append] at cF
        have hws := hb.size
        clear cK hb hR3 HKF HTX HTY
        go_wp2_with fail
        refine cF.mono ?_
        rintro e wt ⟨⟨xr, rfl, -, hE⟩, haw⟩
        have HR3t := Lib.hid (HR3.out.other HTs.out.run2 haw hE (by omega))
        have HTt := Lib.hid (HTs.out.two haw hE)
        have HTXt := Lib.hid (HTXs.out.away haw (fun b o e => by have := hxlt b o e; omega))
        have HTYt := Lib.hid (HTYs.out.away haw (fun b o e => by have := hylt b o e; omega))
        have hwt := haw.size
        have cF := fedE r3 m mb3 yn ycap s OK.out V xv yv wt HR3t.out (by omega) ya HTYt.out.inn.1 (by omega) (fun b o e => by have := hylt b o e; omega) HTYt.out.bd (by rw [HXL.out]; omega)
        clear hE haw HR3 HTs HTXs HTYs
        go_wp2_with fail
        refine cF.mono ?_
        rintro e wu ⟨⟨yr, rfl, -, hE⟩, haw⟩
        have HR3u := Lib.hid hE
        have HTu := Lib.hid (HTt.out.three HR3t.out haw hE (by omega) (by omega) (by omega))
        clear cF hE haw HR3t HTt HTXt HTYt
        have HKC : Hid ((runO (V.nums s) st09 (xv.map Int.toNat)).K = KF) := Lib.hid (by have h1 := HKE.out; rw [← HSAME.out] at h1; exact h1)
        have HKX : Hid (∀ l q, q < j → (runO (V.nums s) st09 ((xv ++ yv).map Int.toNat)).K l q = KF l q) := Lib.hid (fun l q h => by rw [runO_fed _ _ _ _ _ (by rw [HXL.out]; exact h), HKC.out])
        have HXY : Hid ((xv ++ yv).length = j + yn) := Lib.hid (by rw [List.length_append, HXL.out, HYL.out])
        obtain ⟨wo, rfl⟩ : ∃ wo, wo = wr := ⟨_, rfl⟩
        clear hxlt hylt
        go_wp2_with fail
        go_loopw [15] (fun i wr => ∃ q : Nat, q ≤ j ∧ i = .int .i64 q ∧ Hid (TripS w wr r1 mb1 r2 mb2 m rr lv s W V xv yv j KF) ∧ Hid (RunE wr r3 m mb3 s V (xv ++ yv))) (fun i _ => j - (intOf i).toNat)
        case atStart => exact ⟨0, by omega, rfl, HTu, HR3u⟩
        case round =>
          clear HTu HR3u
          obtain ⟨q, hq, rfl, HP, HR⟩ := hrel
          by_cases hqL : q < j
          · obtain ⟨wo2, rfl⟩ : ∃ wo2, wo2 = wr := ⟨_, rfl⟩
            go_wp2_with fail
            go_loopw [16] (fun i wr => ∃ l : Nat, l ≤ s.l ∧ i = .int .i64 l ∧ Hid (TripS w wr r1 mb1 r2 mb2 m rr lv s W V xv yv j KF) ∧ Hid (RunE wr r3 m mb3 s V (xv ++ yv))) (fun i _ => s.l - (intOf i).toNat)
            case atStart => exact ⟨0, by omega, rfl, HP, HR⟩
            case round =>
              clear HP HR
              obtain ⟨l, hl, rfl, HP, HR⟩ := hrel
              have cS := shape8 m s V wr HP.out.run1.mod
              unfold Sz.val shv at cS
              go_upto_region 22 with (fail)
              go_wp2_with fail
              refine cS.mono ?_
              rintro e wx ⟨rfl, hb⟩
              have HPx := Lib.hid (HP.out.below hb)
              have HRx := Lib.hid (HR.out.bel hb)
              clear cS hb HP HR
              by_cases hll : l < s.l
              · have cE := keptE r1 m mb1 l q s OK.out V xv wx HPx.out.run1 hll (by rw [HXL.out]; exact hqL) (by rw [HXL.out]; omega)
                rw [HKC.out] at cE
                go_wp2_with fail
                refine cE.mono ?_
                rintro e wy ⟨⟨⟨ga, gn, gcap, gv⟩, ⟨ha, hn, hcap, hv⟩, rfl, gi, hi, gvv, hvv, gnn, hnn⟩, hb⟩
                simp only at gi hi gvv hvv gnn hnn
                subst gnn hnn gvv hvv
                have HPy := Lib.hid (HPx.out.below hb)
                have HRy := Lib.hid (HRx.out.bel hb)
                have HG := Lib.hid gi.1
                have HH := Lib.hid hi.1
                clear cE HPx HRx hb gi hi
                have cE := keptE r3 m mb3 l q s OK.out V (xv ++ yv) wy HRy.out hll (by rw [HXY.out]; omega) (by rw [HXY.out]; omega)
                rw [HKX.out l q hqL] at cE
                go_wp2_with fail
                refine cE.mono ?_
                rintro e wz ⟨⟨⟨ga2, gn2, gcap2, gv2⟩, ⟨ha2, hn2', hcap2, hv2⟩, rfl, gi, hi, gvv, hvv, gnn, hnn⟩, hb⟩
                simp only at gi hi gvv hvv gnn hnn
                subst gnn hnn gvv hvv
                have HP0 := Lib.hid (HPy.out.below hb)
                have HR0 := Lib.hid (HRy.out.bel hb)
                have HG0 := Lib.hid (HG.out.below hb)
                have HH0 := Lib.hid (HH.out.below hb)
                have HG2 := Lib.hid gi.1
                have HH2 := Lib.hid hi.1
                clear cE HPy HRy hb gi hi HG HH
                obtain ⟨lb, lc, kb, kc, vb, vc, ⟨ja, jn, jcap, jv⟩, g9, e1, c1, -, c3, -, ji, -, jnn, -, jvv, -⟩ := HP0.out.doc.spot (q := q) (l := l) hqL hll
                subst e1
                simp only at ji jnn jvv c3
                subst jnn jvv
                have k14 : wz.cell? ⟨rr, 14, none⟩ = some (.slice (some ⟨lb, 0, none⟩) j lc) := HP0.out.doc.box.cell 14
                have cB := bytesB ga ja s.w gcap jcap (KF l q).1 wz HG0.out ji.1
                clear ji g9
                go_wp2_with fail
                refine cB.mono ?_
                rintro e w1 ⟨rfl, hb⟩
                have HP1 := Lib.hid (HP0.out.below hb)
                have HR1 := Lib.hid (HR0.out.bel hb)
                have HG1 := Lib.hid (HG0.out.below hb)
                have HH1 := Lib.hid (HH0.out.below hb)
                have HG21 := Lib.hid (HG2.out.below hb)
                have HH21 := Lib.hid (HH2.out.below hb)
                clear cB k14 c1 c3 HP0 HR0 HG0 HH0 HG2 HH2 hb
                have k14 : w1.cell? ⟨rr, 14, none⟩ = some (.slice (some ⟨lb, 0, none⟩) j lc) := HP1.out.doc.box.cell 14
                obtain ⟨_, _, kb, kc, vb, vc, g9, ⟨ja, jn, jcap, jv⟩, e1, -, c2, -, c4, -, ji, -, jnn, -, jvv⟩ := HP1.out.doc.spot (q := q) (l := l) hqL hll
                simp only [Value.slice.injEq, Option.some.injEq, Addr.mk.injEq, and_true] at e1
                obtain ⟨rfl, e2, rfl⟩ := e1
                simp only at ji jnn jvv c4
                subst jnn jvv
                have cB := bytesB ha ja s.w hcap jcap (KF l q).2 w1 HH1.out ji.1
                clear e2 ji g9
                go_wp2_with fail
                refine cB.mono ?_
                rintro e w2 ⟨rfl, hb⟩
                have HP2 := Lib.hid (HP1.out.below hb)
                have HR2 := Lib.hid (HR1.out.bel hb)
                have HH22 := Lib.hid (HH21.out.below hb)
                have HHb := Lib.hid (HH1.out.below hb)
                have cB2 := bytesB ga ga2 s.w gcap gcap2 (KF l q).1 w2 (HG1.out.below hb) (HG21.out.below hb)
                clear cB k14 c2 c4 HP1 HR1 HG1 HH1 HG21 HH21 hb
                go_wp2_with fail
                refine cB2.mono ?_
                rintro e w3 ⟨rfl, hb⟩
                have HP3 := Lib.hid (HP2.out.below hb)
                have HR3 := Lib.hid (HR2.out.bel hb)
                have cB3 := bytesB ha ha2 s.w hcap hcap2 (KF l q).2 w3 (HHb.out.below hb) (HH22.out.below hb)
                clear cB2 HP2 HR2 HHb HH22 hb
                go_wp2_with fail
                refine cB3.mono ?_
                rintro e w4 ⟨rfl, hb⟩
                have HP4 := Lib.hid (HP3.out.below hb)
                have HR4 := Lib.hid (HR3.out.bel hb)
                clear cB3 HP3 HR3 hb
                go_wp2
                go_roundw
                case rel => exact ⟨l + 1, by omega, by go_num, HP4, HR4⟩
                case measure => simp [intOf]; omega
              · obtain rfl : l = s.l := by omega
                go_wp2
                go_roundw
                case rel => exact ⟨q + 1, by omega, by go_num, HPx, HRx⟩
                case measure => simp [intOf]; omega
          · obtain rfl : q = j := by omega
            have cP := placeE r1 m mb1 q s V xv wr HP.out.run1 HXL.out
            have cP2 := placeE r3 m mb3 (q + yn) s V (xv ++ yv) wr HR.out HXY.out
            have cP3 := placeE r2 m mb2 yn s V yv wr HP.out.run2 HYL.out
            rw [show ((q + yn : Nat) : Int) = (q : Int) + (yn : Int) from rfl] at cP2
            have HB9 := Lib.hid HP.out.bel
            clear HP HR
            go_wp2_with fail
            refine cP.mono ?_
            rintro e wx ⟨rfl, rfl⟩
            go_wp2_with fail
            refine cP2.mono ?_
            rintro e wy ⟨rfl, rfl⟩
            go_wp2_with fail
            refine cP3.mono ?_
            rintro e wz ⟨rfl, rfl⟩
            clear cP cP2 cP3
            go_wp2
            go_ret
            exact ⟨rfl, HB9.out⟩
  · have hcase : 10 < q1.n ∨ (q1.n ≤ 10 ∧ 10 < q2.n) ∨ (q1.n ≤ 10 ∧ q2.n ≤ 10 ∧ 2000 < q0.n) := by omega
    clear hn
    rcases hcase with hn | ⟨hn, hn3⟩ | ⟨hn, hn3, hn2⟩
    all_goals
      go_wp2_with fail
      refine cA.mono ?_
      rintro e wb ⟨rfl, hb⟩
      have HXSb := Lib.hid (HXS.out.bel hb)
      have z7 : wb.cell? ⟨w.heap.size, 7, none⟩ = some (.slice q0.a q0.n q0.cap) := HXSb.out.cell 7
      have HBb := Lib.hid (below_two HBA.out hb)
      have cA2 := awake8 wb (HT.out.bel HBb.out)
      clear cA hb HXS HBA
      go_wp2_with fail
      refine cA2.mono ?_
      rintro e wc ⟨rfl, hb⟩
      have HBc := Lib.hid (below_two HBb.out hb)
      clear cA2 hb z7
      go_wp2
      go_ret
      exact ⟨rfl, HBc.out⟩

set_option maxRecDepth 100000 in
theorem lifted (os : Os) (started : os.Started) (H : Type) (enc : TypeId × Value → H) :
    ReturnsInHanded {} Tryz.checked os 5 .any (fun w args => (Rows.modelPastSpec.pre enc Tryz.prog Tryz.f5 [] false w args ∧ laidMetH Tryz.prog laidList9 w) ∧ sizedMet enc Tryz.prog Tryz.f5 (OpenSpec.ofChange Rows.modelPastSpec) false w args) (Rows.modelPastSpec.post enc Tryz.prog Tryz.f5 false true false false) := by
  refine returnsInHanded_of_change_and (C := Tryz.checked) (X := fun w _ => laidMetH Tryz.prog laidList9 w) (fun _ _ _ hh h => h.of_heap hh) own started (by kernel_rfl) Tryz.func5
    (ChangeSpec.witness_shaped (enc := enc) (C := Tryz.checked) (os := os) (X := fun w _ => laidMetH Tryz.prog laidList9 w) false (World.doorLaid Tryz.prog 400 os) #[.agg #[.int .i64 0, .int .i64 0, .int .i64 0, .int .i64 0, .int .i64 0, .int .i64 0, .int .u64 0, .slice none 0 0], .slice none 0 0, .slice none 0 0] 8 rfl (World.shaped_of_RefB (by kernel_rfl) (by kernel_rfl)) (by kernel_rfl) (by kernel_rfl) (by kernel_rfl) (door_met9 os _)) ?_
  intro W base args ds gs before hval0 hW _ _ hL _
  have hval : ∀ (j : Nat) t v, Tryz.f5.params[j]? = some t → args[j]? = some v → Value.okWide Tryz.prog W .any base t v := hval0
  have hW' := hW
  obtain ⟨p, q, hA0, hV, rfl, hfz, hnd⟩ := hW
  have hA : DataW.TrodAll enc Tryz.prog W 0 (fun _ => true) true Tryz.f5.params.toList args.toList ds p := hA0
  rw [Tryz.params5] at hA hval
  obtain ⟨v0, vs0, d0, ds0, p0, q0, hargs, rfl, rfl, h0, r0⟩ := trodAll_cons hA
  obtain ⟨v1, vs1, d1, ds1, p1, q1, rfl, rfl, rfl, h1, r1⟩ := trodAll_cons r0
  obtain ⟨v2, vs2, d2, ds2, p2, q2, rfl, rfl, rfl, h2, r2⟩ := trodAll_cons r1
  obtain ⟨rfl, rfl, rfl⟩ := trodAll_nil r2
  obtain rfl : args = #[v0, v1, v2] := by cases args; simp_all
  obtain ⟨rfl, rfl⟩ := trodVars_none hV
  have k0 := h0
  have lt0 : ∀ x ∈ p0, x.block < W.heap.size := by obtain ⟨m, hm⟩ := k0; exact DataW.trod_lt m _ _ _ hm
  obtain ⟨xl0, xw0, xh0, xi0, xv0, xp0, sd0, q0, rfl, w0⟩ := open_seeds8 (hval 0 26 v0 rfl rfl) h0
  have k1 := h1
  have lt1 : ∀ x ∈ p1, x.block < W.heap.size := by obtain ⟨m, hm⟩ := k1; exact DataW.trod_lt m _ _ _ hm
  obtain ⟨q1, rfl, w1⟩ := open_rw Tryz.underlying35 Tryz.underlying3 (by kernel_rfl) (hval 1 35 v1 rfl rfl) h1
  have k2 := h2
  have lt2 : ∀ x ∈ p2, x.block < W.heap.size := by obtain ⟨m, hm⟩ := k2; exact DataW.trod_lt m _ _ _ hm
  obtain ⟨q2, rfl, w2⟩ := open_rw Tryz.underlying35 Tryz.underlying3 (by kernel_rfl) (hval 2 35 v2 rfl rfl) h2
  clear hA0 hval0
  have hT := tabs_of_laid hL
  refine (walk xl0 xw0 xh0 xi0 xv0 xp0 sd0 q0 q1 q2 W w0 w1 w2 hT).mono fun e W' ⟨he, bel⟩ => ?_
  subst he
  exact ⟨_, rfl, _, _, _, [], _, [], hW', trodAll_mk1 (shut_bool Tryz.underlying4 _), (trodAll_cons_mk (Below.trod laidOut (by kernel_rfl) (of_decide_eq_true (by kernel_rfl)) k0 bel lt0) (trodAll_cons_mk (Below.trod laidOut (by kernel_rfl) (of_decide_eq_true (by kernel_rfl)) k1 bel lt1) (trodAll_cons_mk (Below.trod laidOut (by kernel_rfl) (of_decide_eq_true (by kernel_rfl)) k2 bel lt2) trodAll_mk0))), rfl, bel.frame _, fun h => by cases h⟩

theorem over : Rows.modelPastRow.holds Tryz.pinned (OpenSpec.ofChange Rows.modelPastSpec) :=
  OpenClaim.holds_of_wide 5 Tryz.f5 rfl rfl rfl rfl rfl rfl rfl ⟨rfl, rfl, rfl, rfl, rfl⟩ rfl rfl rfl rfl rfl (by kernel_rfl) Tryz.func5 (by kernel_rfl)
    (of_decide_eq_true (by kernel_rfl)) (by unfold Func.isWrapper; first | (rw [if_pos (by decide +kernel)]; kernel_rfl) | (rw [if_neg (by decide +kernel)]; exact ⟨rfl, rfl⟩))
    (fun os started H enc _ => lifted os started H enc)

/-- the row's statement -/
theorem said : Rows.ModelPastSaid := over

/-- THE STATEMENT: the tied card -/
theorem proved : Rows.ModelPastCardSaid :=
  Claim7.holds_tied_plain_at .later [] [.data, .data] true (true, "9491c1b2270f2e0c101a760e0ee5449b3d1cdcca79f8ea9c1e20f63c71c59fbe") true
    said (fun _ h => by cases h) (by kernel_rfl) (fun _ h => by cases h) modelPast_row_tie rfl ⟨rfl, rfl⟩ (by kernel_rfl) rfl
    (fun f fn hf hfn => by
      obtain rfl : f = 5 := Option.some.inj ((show Tryz.prog.funcNamed "peloton/pelotonlaw08.ModelPast" = some 5 by kernel_rfl).symm.trans hf) |>.symm
      obtain rfl : fn = Tryz.f5 := (Option.some.inj (Tryz.func5.symm.trans hfn)).symm
      exact ⟨by kernel_rfl, fun j t ht => by
        rw [Tryz.params5] at ht
        have hm : t ∈ [26, 35, 35] := by simpa using Array.mem_of_getElem? ht
        have hall : ([26, 35, 35].all fun u => !Tryz.prog.wantsStandIn u) = true := by kernel_rfl
        exact (show Tryz.prog.wantsStandIn t = false by simpa using List.all_eq_true.1 hall t hm)⟩)
    (by kernel_rfl)
#print axioms proved
end Go.Proofs.YtoeihigdndkjeaaGreatDoor.modelPast
