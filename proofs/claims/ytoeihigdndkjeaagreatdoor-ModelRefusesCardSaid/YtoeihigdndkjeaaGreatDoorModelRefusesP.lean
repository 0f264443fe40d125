/-
  Proved: for any small model, tokens and number ModelRefuses returns true (weights that aren't whole make no model; tokens that there aren't, and more than there are places for, are refused, and nothing changes; what was handed in may be changed behind it; more than 20 tokens are let go) and nothing that was in memory turns. No condition beside the row's own on the two tables.
-/
import Derived.Test.YtoeihigdndkjeaaGreatDoorRows
import Derived.WalkKit
import Derived.ProofKit
import Derived.OpenShut
import Derived.ShutString
import Derived.ChangeOld
import Derived.Below
import Derived.Test.YtoeihigdndkjeaaGreatDoorJ05
import Derived.Test.YtoeihigdndkjeaaGreatDoorJ04
import Derived.Test.YtoeihigdndkjeaaGreatDoorTie
import Derived.Test.YtoeihigdndkjeaaGreatDoorCards
import Derived.SevenTiedAt
import Derived.Test.YtoeihigdndkjeaaGreatDoorP42
import Derived.Test.YtoeihigdndkjeaaGreatDoorP41
import Derived.Test.YtoeihigdndkjeaaGreatDoorP35
namespace Go.Proofs.YtoeihigdndkjeaaGreatDoor.modelRefuses
open Go.ChangeShapes Go.WideShapes Go.ChangeAt Go.RowKit
open Go.ChangeMaps (open_string shut_string)
set_option linter.unusedVariables false

theorem own : ownKnob Tryz.prog.godebug = none := by kernel_rfl
theorem laidOut : laidOutB Tryz.prog = true := by kernel_rfl

set_option maxHeartbeats 32000000 in
set_option maxRecDepth 100000 in
theorem walk (sl0 sw0 sh0 si0 sv0 sp0 sd0 : Int) (q0 : Rw) (q1 : Rw) (a2 : Int) (w : World) (h0 : Six sl0 sw0 sh0 si0 sv0 sp0 ∧ (Lit.int .u64 sd0).wf = true ∧ q0.In .i8 w) (h1 : q1.In .i64 w) (h2 : (Lit.int .i64 a2).wf = true) (hT : Tabs9 w) :
    Calls Tryz.prog 4 #[.agg #[.int .i64 sl0, .int .i64 sw0, .int .i64 sh0, .int .i64 si0, .int .i64 sv0, .int .i64 sp0, .int .u64 sd0, .slice q0.a q0.n q0.cap], .slice q1.a q1.n q1.cap, .int .i64 a2] w fun e w' => e = .returned (.bool true) ∧ Below w.heap.size w w' := by
  obtain ⟨-, hsd, hq0⟩ := h0
  obtain ⟨sd, rfl, hsd2⟩ : ∃ k : Nat, sd0 = (k : Int) ∧ k < 18446744073709551616 := by
    have := wfu64 hsd
    exact ⟨sd0.toNat, by omega, by omega⟩
  have hb2 := wf64 h2
  clear hsd h2
  have hf4 := fun (a0 a1 a2 a3 a4 a5 : Value) (W : World) => (run_field8 a0 a1 a2 a3 a4 a5 W).1
  have hf5 := fun (a0 a1 a2 a3 a4 a5 : Value) (W : World) => (run_field8 a0 a1 a2 a3 a4 a5 W).2.1
  have hf0 := fun (a0 a1 a2 a3 a4 a5 : Value) (W : World) => (run_field8 a0 a1 a2 a3 a4 a5 W).2.2
  have B1 : ∀ (U : World) (o : Obj), Below U.heap.size U (U.alloc o) := fun U o => (Below.refl _ _).alloc (Nat.le_refl _) o
  have HQ1 := Lib.hid h1
  have HQ0 := Lib.hid hq0
  have HT := Lib.hid hT
  have hq1 := h1.2.1
  have hq2 := h1.2.2.1
  have hq3 := hq0.2.1
  have hq4 := hq0.2.2.1
  clear h1 hq0 hT
  go_enter Tryz.func4, Tryz.ntmps4
  go_upto_region 1 with (fail)
  generalize hwa : World.alloc _ _ = wa
  have XS : Box wa w.heap.size 26 #[.int .i64 sl0, .int .i64 sw0, .int .i64 sh0, .int .i64 si0, .int .i64 sv0, .int .i64 sp0, .int .u64 sd, .slice q0.a q0.n q0.cap] := by rw [← hwa]; exact box_new _ _ _
  have HB : Below w.heap.size w wa := by rw [← hwa]; exact (Below.refl _ _).alloc (Nat.le_refl _) _
  clear hwa
  have cA := awakeF wa (HT.out.bel HB)
  have HXS := Lib.hid XS
  have HBA := Lib.hid HB
  clear XS HB
  by_cases hn : q1.n ≤ 20 ∧ q0.n ≤ 2000
  · obtain ⟨hn1, hn2⟩ := hn
    go_wp2_with fail
    refine cA.mono ?_
    rintro e wb ⟨rfl, hb⟩
    have HXSb := Lib.hid (HXS.out.bel hb)
    have HBb := Lib.hid (below_two HBA.out hb)
    clear cA hb HXS HBA
    have hwb := HBb.out.size
    have z0 : wb.cell? ⟨w.heap.size, 0, none⟩ = some (.int .i64 sl0) := HXSb.out.cell 0
    have z1 : wb.cell? ⟨w.heap.size, 1, none⟩ = some (.int .i64 sw0) := HXSb.out.cell 1
    have z2 : wb.cell? ⟨w.heap.size, 2, none⟩ = some (.int .i64 sh0) := HXSb.out.cell 2
    have z3 : wb.cell? ⟨w.heap.size, 3, none⟩ = some (.int .i64 si0) := HXSb.out.cell 3
    have z4 : wb.cell? ⟨w.heap.size, 4, none⟩ = some (.int .i64 sv0) := HXSb.out.cell 4
    have z5 : wb.cell? ⟨w.heap.size, 5, none⟩ = some (.int .i64 sp0) := HXSb.out.cell 5
    have z6 : wb.cell? ⟨w.heap.size, 6, none⟩ = some (.int .u64 sd) := HXSb.out.cell 6
    have z7 : wb.cell? ⟨w.heap.size, 7, none⟩ = some (.slice q0.a q0.n q0.cap) := HXSb.out.cell 7
    have cM := made_pin sl0 sw0 sh0 si0 sv0 sp0 sd hsd2 q0 wb (HQ0.out.below HBb.out) hn2
    go_wp2_with fail
    refine cM.mono ?_
    rintro e wc ⟨⟨s, xs, hpin, hxs, hs, W, rfl, hin, h6, hwt, hnu, hfr, hth⟩, hb⟩
    have HPIN := Lib.hid (And.intro hpin hxs)
    have HIN := Lib.hid hin
    have H6 := Lib.hid h6
    have HWT := Lib.hid hwt
    have HNU := Lib.hid hnu
    have HFR := Lib.hid hfr
    have HTH := Lib.hid hth
    have OK := Lib.hid hs.1.1
    have bd := hs.1.1.bd
    have hp12 : s.p ≤ 12 := hs.2
    have hv1 : 0 < s.v := by omega
    have hv9 : s.v ≤ 512 := bd.2.2.2.2.1.2
    have hw128 : s.w ≤ 128 := bd.2.2.1.2
    have hw1 : 0 < s.w := by omega
    have hl1 : 1 ≤ s.l := bd.1.1
    have hp1 : 1 ≤ s.p := by omega
    have HBc := Lib.hid (below_two HBb.out hb)
    have HXSc := Lib.hid (HXSb.out.bel hb)
    have hwc := hb.size
    clear cM hb HXSb hpin hxs hin h6 hwt hnu hfr hth hs bd z0 z1 z2 z3 z4 z5 z6 z7
    go_upto_region 4 with (first
      | (refine wpList_store_row (o := ⟨none, .store _ _ _, _, _, _, _⟩) rfl 50 _ _ rfl wc.heap.size W.cells rfl rfl 50 _ (box_new _ _ _) (by kernel_rfl) rfl (by simp [Wt7.cells, Value.oneCell']) ?_))
    generalize hwd : World.setRow _ _ _ = wd
    have XW0 : Box wd wc.heap.size 50 W.cells := by rw [← hwd]; exact (box_new _ _ _).setRow
    have hbd : Below wc.heap.size wc wd := by rw [← hwd]; exact below_setRow ((Below.refl _ _).alloc (Nat.le_refl _) _) (Nat.le_refl _) (by simp)
    obtain ⟨n7, hn7⟩ : ∃ n7, wc.heap.size = n7 := ⟨_, rfl⟩
    rw [hn7] at XW0 ⊢
    have hsd0 : n7 < wd.heap.size := XW0.lt
    have HN7 := Lib.hid hn7
    have HXW := Lib.hid XW0
    have HINd := Lib.hid (HIN.out.bel hbd)
    have HBd := Lib.hid (below_two HBc.out hbd)
    have HXSd := Lib.hid (HXSc.out.bel hbd)
    have HTHd := Lib.hid (HTH.out.bel hbd)
    have cN := newF s OK.out W wd HINd.out H6.out HWT.out
    rw [hn7] at hwc
    clear hwd hbd hn7 HBc HXSc
    go_wp2_with (refine wpList_load_row rfl 50 _ rfl n7 rfl 50 _ (0, 0) _ XW0 Tryz.underlying50 rfl (by kernel_rfl) ?_)
    refine cN.mono ?_
    rintro e we ⟨⟨m, V, rfl, hm, hmod, hnums, hVf⟩, hb⟩
    have HM := Lib.hid hmod
    have HVN := Lib.hid hnums
    have HVF := Lib.hid hVf
    have HXWe := Lib.hid (HXW.out.bel hb)
    have HINe := Lib.hid (HINd.out.bel hb)
    have HBe := Lib.hid (below_two HBd.out hb)
    have HXSe := Lib.hid (HXSd.out.bel hb)
    have HTHe := Lib.hid (HTHd.out.bel hb)
    have hsde := hb.size
    have z0 : we.cell? ⟨w.heap.size, 0, none⟩ = some (.int .i64 sl0) := HXSe.out.cell 0
    have z1 : we.cell? ⟨w.heap.size, 1, none⟩ = some (.int .i64 sw0) := HXSe.out.cell 1
    have z2 : we.cell? ⟨w.heap.size, 2, none⟩ = some (.int .i64 sh0) := HXSe.out.cell 2
    have z3 : we.cell? ⟨w.heap.size, 3, none⟩ = some (.int .i64 si0) := HXSe.out.cell 3
    have z4 : we.cell? ⟨w.heap.size, 4, none⟩ = some (.int .i64 sv0) := HXSe.out.cell 4
    have z5 : we.cell? ⟨w.heap.size, 5, none⟩ = some (.int .i64 sp0) := HXSe.out.cell 5
    have z6 : we.cell? ⟨w.heap.size, 6, none⟩ = some (.int .u64 sd) := HXSe.out.cell 6
    have z7 : we.cell? ⟨w.heap.size, 7, none⟩ = some (.slice q0.a q0.n q0.cap) := HXSe.out.cell 7
    have cM := made_pin sl0 sw0 sh0 si0 sv0 sp0 sd hsd2 q0 we (HQ0.out.below HBe.out) hn2
    clear cN hmod hnums hVf hb HXW HINd HBd HXSd HTHd XW0
    go_wp2_with fail
    refine cM.mono ?_
    rintro e wf ⟨⟨s2, xs2, hpin2, hxs2, -, W2, rfl, hin2, h62, hwt2, hnu2, hfr2, -⟩, hb⟩
    obtain rfl : s2 = s := hpin2.trans HPIN.out.1.symm
    have HS2 : Hid (V.nums s2 = W2.nums s2) := Lib.hid (by rw [HVN.out, HNU.out, hnu2, hxs2, HPIN.out.2])
    have HIN2 := Lib.hid hin2
    have H62 := Lib.hid h62
    have HWT2 := Lib.hid hwt2
    have HFR2 := Lib.hid hfr2
    have HMf := Lib.hid (HM.out.bel hb)
    have HXWf := Lib.hid (HXWe.out.bel hb)
    have HINf := Lib.hid (HINe.out.bel hb)
    have HBf := Lib.hid (below_two HBe.out hb)
    have HTHf := Lib.hid (HTHe.out.bel hb)
    have hsdf := hb.size
    clear cM hb hpin2 hxs2 hin2 h62 hwt2 hnu2 hfr2 HM HXWe HINe HBe HXSe HTHe z0 z1 z2 z3 z4 z5 z6 z7 HPIN HVN HNU
    unfold Wt7.cells
    go_upto_region 8 with (fail)
    generalize hwg : World.alloc _ _ = wg
    have XR : Box wg wf.heap.size 53 (dcells W2 (.slice none 0 0)) := by rw [← hwg]; exact box_new _ _ _
    have hbg : Below wf.heap.size wf wg := by rw [← hwg]; exact (Below.refl _ _).alloc (Nat.le_refl _) _
    obtain ⟨rr, hrr⟩ : ∃ rr, wf.heap.size = rr := ⟨_, rfl⟩
    have HXR : Hid (Box wg rr 53 (dcells W2 (.slice none 0 0))) := Lib.hid (by rw [← hrr]; exact XR)
    have HMg := Lib.hid (HMf.out.bel hbg)
    have HXWg := Lib.hid (HXWf.out.bel hbg)
    have HINg := Lib.hid (HINf.out.bel hbg)
    have HIN2g := Lib.hid (HIN2.out.bel hbg)
    have HBg := Lib.hid (below_two HBf.out hbg)
    have HTHg := Lib.hid (HTHf.out.bel hbg)
    rw [hrr] at hsdf ⊢
    clear hwg hbg hrr XR HMf HXWf HINf HIN2 HBf HTHf
    obtain ⟨⟨-, -, hen0⟩, -, -, hbn0, -⟩ := wtB_yes HWT.out
    have hen1 : 0 < W.e.n := by rw [hen0]; exact Nat.mul_pos hv1 hw1
    have hbn1 : 0 < W.bn := by omega
    obtain ⟨eb, eo, hea, -⟩ := HINg.out.1.1.2.2.2 hen1
    obtain ⟨bb, bo, hba, hbbl, -⟩ := HINg.out.2.2.2.1.2.2.2 hbn1
    have hebl : w.heap.size ≤ eb := Nat.le_trans hwb (HFR.out.1 _ hea)
    have hebu : eb < n7 := by
      obtain ⟨c, hc⟩ := HTH.out.1 W.e.a (by simp) _ hea
      rw [← HN7.out]
      exact hc.lt
    have hwn7 : w.heap.size ≤ n7 := Nat.le_trans hwb hwc
    obtain ⟨en, hen⟩ : ∃ en, W.e.n = en := ⟨_, rfl⟩
    obtain ⟨ecap, hecap⟩ : ∃ ecap, W.e.cap = ecap := ⟨_, rfl⟩
    have HZ8 : Hid (∀ U, Turnt w.heap.size n7 wg U → U.cell? ⟨n7, 8, none⟩ = some (.slice (some ⟨eb, eo, none⟩) en ecap)) := Lib.hid fun U hU => by
      rw [← hea, ← hen, ← hecap]
      exact (hU.box HXWg.out (.inr (Nat.le_refl _))).cell 8
    have hen2 : en ≤ ecap := by rw [← hen, ← hecap]; exact HINg.out.1.2.1
    have hen3 : ecap ≤ 9223372036854775807 := by rw [← hecap]; exact HINg.out.1.2.2.1
    have HEA := Lib.hid (And.intro hea hen)
    have HBA2 := Lib.hid hba
    have HBN := Lib.hid hbn0
    have HT0 : Hid (Turnt w.heap.size n7 wg wg) := Lib.hid (Turnt.refl _ _ _)
    have HI0 : Hid (∃ W3 : Wt7, W3.In wg ∧ Alike W W3) := Lib.hid ⟨W, HINg.out, Alike.refl W⟩
    have hone : (Lit.int .i8 1).wf = true := by decide
    rw [hen] at hen1
    clear hea hen hecap hba hbn0 hen0 hbbl HINg
    go_wp2_with fail
    go_loopw [11] (fun i wr => ∃ k : Nat, k ≤ en ∧ i = .int .i64 k ∧ Hid (Turnt w.heap.size n7 wg wr) ∧ Hid (∃ W3 : Wt7, W3.In wr ∧ Alike W W3) ∧ Hid (WThaw wr W)) (fun i _ => en - (intOf i).toNat)
    case atStart => exact ⟨0, by omega, rfl, HT0, HI0, HTHg⟩
    case round =>
      clear HT0 HI0 HTHg
      obtain ⟨k, hk, rfl, hT, hI, hH⟩ := hrel
      have z8 := HZ8.out wr hT.out
      by_cases hlt : k < en
      · obtain ⟨W3, hW3, hal⟩ := hI.out
        obtain ⟨c, hc⟩ := hH.out.1 W.e.a (by simp) _ HEA.out.1
        have hE : Elems .i8 wr (some ⟨eb, eo, none⟩) en W3.e.v := by
          have h1 := hW3.1.1
          rw [hal.ea.1, hal.ea.2, HEA.out.1, HEA.out.2] at h1
          exact h1
        obtain ⟨b', o', x, hab, hcell, -, -⟩ := hE.at_ hlt
        cases hab
        have yf := hc.frozen (eo + k)
        have HT2 : Hid (Turnt w.heap.size n7 wg (wr.setCell ⟨eb, eo + k, none⟩ (.int .i8 1))) := Lib.hid (hT.out.set ⟨hebl, hebu⟩ _ _)
        have HI2 : Hid (∃ W3 : Wt7, W3.In (wr.setCell ⟨eb, eo + k, none⟩ (.int .i8 1)) ∧ Alike W W3) := Lib.hid (by
          obtain ⟨W4, h4, h5⟩ := wt_set (o := eo + k) hc hone hW3 (by rw [hal.ba.1]; exact hH.out.2)
          exact ⟨W4, h4, hal.trans h5⟩)
        have HH2 : Hid (WThaw (wr.setCell ⟨eb, eo + k, none⟩ (.int .i8 1)) W) := Lib.hid (hH.out.set hc _)
        clear hT hI hH hW3 hal hc hE
        go_wp2
        go_roundw
        case rel => exact ⟨k + 1, by omega, by go_num, HT2, HI2, HH2⟩
        case measure => simp [intOf]; omega
      · obtain rfl : k = en := by omega
        obtain ⟨W3, hW3, hal⟩ := hI.out
        have hbn3 : 0 < W3.bn := by rw [hal.ba.2]; exact hbn1
        obtain ⟨bb', bo', hba', hbl', hbx⟩ := hW3.2.2.2.1.2.2.2 hbn3
        rw [hal.ba.1, HBA2.out] at hba'
        cases hba'
        have hl3 := hW3.2.2.2.1.1
        have hlW : 0 < W.bs.length := by have h1 := congrArg List.length hal.bs; simp only [List.length_map] at h1; omega
        have hBm : W.bs.getD 0 default ∈ W.bs := by rw [List.getD_eq_getElem?_getD, List.getElem?_eq_getElem hlW]; exact List.getElem_mem _
        have hb0m : W3.bs.getD 0 default ∈ W3.bs := by rw [List.getD_eq_getElem?_getD, List.getElem?_eq_getElem (by omega)]; exact List.getElem_mem _
        have hb0i := hW3.2.2.2.1.2.2.1 _ hb0m
        have e0 := congrArg (fun c : Array Value => c[0]?) (cells_getD hal.bs 0)
        simp only [Bk7.cells, List.getElem?_toArray, List.getElem?_cons_zero, Option.some.injEq, Value.slice.injEq] at e0
        obtain ⟨e1, e2, e3⟩ := e0
        have hxw := (bkB_yes ((wtB_yes HWT.out).2.2.2.2 _ hBm)).1
        have hxn : 0 < (W3.bs.getD 0 default).x.n := by rw [e2, hxw]; exact hw1
        obtain ⟨xb, xo, hxa, hxc⟩ := hb0i.1.1.2.2.2 hxn
        have hxa2 := hxa
        rw [e1] at hxa2
        obtain ⟨cx, hcx⟩ := hH.out.1 _ (by
          simp only [List.mem_cons]
          exact .inr (.inr (.inr (List.mem_flatMap.2 ⟨_, hBm, by simp [Bk7.adrs]⟩)))) _ hxa2
        have hxbl : w.heap.size ≤ xb := Nat.le_trans hwb ((HFR.out.2.2.2.2 _ hBm).1 _ hxa2)
        have hxbu : xb < n7 := by
          obtain ⟨c, hc⟩ := HTH.out.1 _ (by
            simp only [List.mem_cons]
            exact .inr (.inr (.inr (List.mem_flatMap.2 ⟨_, hBm, by simp [Bk7.adrs]⟩)))) _ hxa2
          rw [← HN7.out]
          exact hc.lt
        have hx0 := hbx 0 hbn3 0 (by omega)
        have hx1 := hxc 0 hxn
        have hcl : (W3.bs.getD 0 default).cells[0]? = some (.slice (W3.bs.getD 0 default).x.a (W3.bs.getD 0 default).x.n (W3.bs.getD 0 default).x.cap) := rfl
        rw [hcl, hxa] at hx0
        have hxcap := hb0i.1.2.1
        have hxcap2 := hb0i.1.2.2.1
        obtain ⟨xn, hxnn⟩ : ∃ xn, (W3.bs.getD 0 default).x.n = xn := ⟨_, rfl⟩
        obtain ⟨xcap, hxcc⟩ : ∃ xcap, (W3.bs.getD 0 default).x.cap = xcap := ⟨_, rfl⟩
        obtain ⟨y, hyy⟩ : ∃ y, (W3.bs.getD 0 default).x.v.getD 0 0 = y := ⟨_, rfl⟩
        rw [hxnn] at hxn hx0 hxcap
        rw [hxcc] at hx0 hxcap hxcap2
        rw [hyy] at hx1
        have c0 : wr.cell? ⟨bb, bo, none⟩ = some (.slice (some ⟨xb, xo, none⟩) xn xcap) := by simpa using hx0
        have c1 : wr.cell? ⟨xb, xo, none⟩ = some (.int .i8 y) := by simpa using hx1
        have yf : wr.frozen? ⟨xb, xo, none⟩ = false := hcx.frozen xo
        have z9 : wr.cell? ⟨n7, 9, none⟩ = some (.slice (some ⟨bb, bo, none⟩) W.bn W.bcap) := by
          rw [← HBA2.out]
          exact (hT.out.box HXWg.out (.inr (Nat.le_refl _))).cell 9
        obtain ⟨bn, hbnn⟩ : ∃ bn, W.bn = bn := ⟨_, rfl⟩
        obtain ⟨bcap, hbcc⟩ : ∃ bcap, W.bcap = bcap := ⟨_, rfl⟩
        have hbc : W.bn ≤ W.bcap ∧ W.bcap ≤ 9223372036854775807 := by
          have h1 := hW3.2.2.2.2
          have h2 := congrArg (fun c : Array Value => c[9]?) hal.cells
          simp only [Wt7.cells, List.getElem?_toArray, List.getElem?_cons_succ, List.getElem?_cons_zero, Option.some.injEq, Value.slice.injEq] at h2
          rw [← h2.2.1, ← h2.2.2]
          exact ⟨h1.1, h1.2.1⟩
        rw [hbnn, hbcc] at z9 hbc
        have hbn4 : 0 < bn := by omega
        have HCX := Lib.hid hcx
        have HW3 := Lib.hid hW3
        have HAL := Lib.hid hal
        clear hI hW3 hal hbn3 hbl' hbx hl3 hlW hb0m hb0i e1 e2 e3 hxw hxc hx0 hx1 hcl hxnn hxcc hyy hbnn hbcc hxa hxa2 hcx hBm
        go_upto_region 13 with (fail)
        generalize hwi : World.setCell _ _ _ = wi
        obtain ⟨y2, hy2, hwi2⟩ : ∃ y2, (Lit.int .i8 y2).wf = true ∧ wi = wr.setCell ⟨xb, xo, none⟩ (.int .i8 y2) := by
          refine ⟨_, ?_, hwi.symm⟩
          first | exact wf_wrap _ _ | exact wf_wrap .i8 _
        clear hwi
        have hTi : Turnt w.heap.size n7 wg wi := by rw [hwi2]; exact hT.out.set ⟨hxbl, hxbu⟩ _ _
        have HIi : Hid (∃ W3 : Wt7, W3.In wi ∧ Alike W W3) := Lib.hid (by
          obtain ⟨W4, h4, h5⟩ := wt_set (o := xo) HCX.out hy2 HW3.out (by rw [HAL.out.ba.1]; exact hH.out.2)
          rw [hwi2]
          exact ⟨W4, h4, HAL.out.trans h5⟩)
        have hsz := hTi.size
        have hrrl := HXR.out.lt
        have HMi : Hid (ModAt wi m s2 V) := Lib.hid (hTi.mod HMg.out (by omega) (HVF.out.mono (by omega)))
        have HXRi := Lib.hid (hTi.box HXR.out (.inr (by omega)))
        have HIN2i := Lib.hid (hTi.wt HIN2g.out (HFR2.out.mono (by omega)))
        have HXWi := Lib.hid (hTi.box HXWg.out (.inr (Nat.le_refl _)))
        have hBi := hTi.below HBg.out
        have HBi := Lib.hid hBi
        have cR := run8 m s2 V wi HMi.out (fun _ _ => ([], []))
        clear z8 hwi2 hTi hT hH HW3 HAL HCX c0 c1 yf z9 hBi HMg HXR HIN2g HXWg HBg hxcap hxcap2 hxn hbc hbn4 hxbl hxbu HZ8
        go_wp2_with fail
        refine cR.mono ?_
        rintro e wj ⟨⟨r, mb, rfl, d11, d12, d13, hRR⟩, hb⟩
        have hBj := below_two HBi.out hb
        have P0 : PairS w wj r m mb rr (.slice none 0 0) s2 W2 V [] [] := ⟨⟨0, ⟨hRR, HMi.out.bel hb, (HT.out.bel hBj).1, (HT.out.bel hBj).2.1⟩, by simp⟩, docS_new (HXRi.out.bel hb) (HIN2i.out.bel hb), hBj, by omega, by omega, by omega, by intro g hg; cases hg⟩
        have HP0 := Lib.hid P0
        have HXWj := Lib.hid (HXWi.out.bel hb)
        have HIj : Hid (∃ W3 : Wt7, W3.In wj ∧ Alike W W3) := Lib.hid (let ⟨W3, h1, h2⟩ := HIi.out; ⟨W3, h1.bel hb, h2⟩)
        have hrlt := P0.run.lts
        have hrrl2 := P0.doc.box.lt
        have cS := shape8 m s2 V wj (HMi.out.bel hb)
        unfold Sz.val shv at cS
        have hf4 := fun (a0 a1 a2 a3 a4 a5 : Value) (W : World) => (run_field8 a0 a1 a2 a3 a4 a5 W).1
        have hf5 := fun (a0 a1 a2 a3 a4 a5 : Value) (W : World) => (run_field8 a0 a1 a2 a3 a4 a5 W).2.1
        clear cR hb hBj P0 hRR HMi HXRi HIN2i HXWi HIi HBi
        go_upto_region 14 with (fail)
        go_wp2_with fail
        refine cS.mono ?_
        rintro e wk ⟨rfl, hb⟩
        have HPk := Lib.hid (HP0.out.below hb)
        have HXWk := Lib.hid (HXWj.out.bel hb)
        have HIk : Hid (∃ W3 : Wt7, W3.In wk ∧ Alike W W3) := Lib.hid (let ⟨W3, h1, h2⟩ := HIj.out; ⟨W3, h1.bel hb, h2⟩)
        have hsk := hb.size
        have cF := fitsF q1 s2.v hv1 (by omega) wk (HQ1.out.below HPk.out.bel) (by omega)
        clear cS hb HP0 HXWj HIj
        go_wp2_with fail
        refine cF.mono ?_
        rintro e wl ⟨⟨⟨ta, tn, tcap, tv⟩, rfl, ti, tvv, tnn, tz, tx⟩, hb⟩
        simp only at ti tvv tnn tz tx
        have HTB : Hid (∀ x ∈ tv, 0 ≤ x ∧ x < s2.v) := Lib.hid fun x hx => by
          rw [tvv] at hx
          obtain ⟨y, _, rfl⟩ := List.mem_map.1 hx
          exact fitI_bd s2.v hv1 y
        have R0 : RefS w wl r m mb rr (.slice none 0 0) s2 W2 V W [] [] ta tn tcap tv n7 := ⟨HPk.out.below hb, ti, fun b o e => by have := tx _ e; simp only at this; omega, HXWk.out.bel hb, let ⟨W3, h1, h2⟩ := HIk.out; ⟨W3, h1.bel hb, h2⟩⟩
        have HR0 := Lib.hid R0
        have tn20 : tn ≤ 20 := by omega
        have tc1 := ti.2.1
        have tc2 := ti.2.2.1
        simp only at tc1 tc2
        have hl0 : ([] : List Int).length = min 0 s2.p := by simp
        clear cF hb HPk HXWk HIk R0 ti tvv tnn tz tx hsk
        go_wp2_with fail
        go_loopw [14] (fun i wr => ∃ (k : Nat) (fed : List Int) (lv : Value), k ≤ tn ∧ i = .int .i64 k ∧ fed.length = min k s2.p ∧ Hid (RefS w wr r m mb rr lv s2 W2 V W fed fed ta tn tcap tv n7)) (fun i _ => tn - (intOf i).toNat)
        case atStart => exact ⟨0, [], _, by omega, rfl, hl0, HR0⟩
        case round =>
          clear HR0 hl0
          obtain ⟨k, fed, lv, hk, rfl, hfl, HR⟩ := hrel
          by_cases hlt : k < tn
          · obtain ⟨tb, tq, hta, -⟩ := HR.out.toks.1.2.2.2 (by show 0 < tn; omega)
            simp only at hta
            subst hta
            obtain ⟨t, ht⟩ : ∃ t, tv.getD k 0 = t := ⟨_, rfl⟩
            have htb := HTB.out t (by rw [← ht]; exact getD_mem (by rw [HR.out.toks.1.1]; exact hlt))
            obtain ⟨k1, hk1⟩ : ∃ k1, k + 1 = k1 := ⟨_, rfl⟩
            have hfp : fed.length ≤ s2.p := by omega
            have hE1 : Elems .i64 wr (some ⟨tb, tq + k, none⟩) (k1 - k) [t] := by
              rw [show k1 - k = 1 by omega, ← ht]
              exact elems_one HR.out.toks.1 hlt
            have cD := feedDX oneC rr (k1 - k) (tcap - k) lv s2 OK.out W2 fed [t] wr HR.out.pair.doc H62.out HWT2.out (by omega) hfp (some ⟨tb, tq + k, none⟩) hE1 (by omega) (fun _ b o e => by cases e; exact (HR.out.away tb tq rfl).2.2)
            obtain ⟨f, hf⟩ : ∃ f, faultO s2 fed.length [t] = f := ⟨_, rfl⟩
            obtain ⟨fed2, hfe⟩ : ∃ fed2, onF s2 fed [t] = fed2 := ⟨_, rfl⟩
            obtain ⟨ys, hys⟩ : ∃ ys, ansF s2 (V.nums s2) fed [t] = ys := ⟨_, rfl⟩
            have hcase : (k < s2.p ∧ f = 0 ∧ fed2.length = min (k + 1) s2.p) ∨ (s2.p ≤ k ∧ f = 80 ∧ fed2.length = min (k + 1) s2.p ∧ fed2.length = s2.p) := by
              rw [fault_one htb] at hf
              unfold onF at hfe
              rw [fault_one htb] at hfe
              by_cases hkp : k < s2.p
              · rw [if_neg (by omega)] at hf
                rw [if_pos (by rw [if_neg (by omega)])] at hfe
                refine .inl ⟨hkp, hf.symm, ?_⟩
                rw [← hfe, List.length_append, hfl]
                show _ + 1 = _
                omega
              · rw [if_pos (by omega)] at hf
                rw [if_neg (by rw [if_pos (by omega)]; decide)] at hfe
                refine .inr ⟨by omega, hf.symm, ?_, ?_⟩
                · rw [← hfe, hfl]; omega
                · rw [← hfe, hfl]; omega
            have HCASE := Lib.hid hcase
            have hfp2 : fed2.length ≤ s2.p := by omega
            have HFF := Lib.hid (And.intro hf (And.intro hfe hys))
            rw [hf, hfe, show ansF s2 (W2.nums s2) fed [t] = ys by rw [← hys, HS2.out]] at cD
            have hk2 : (k : Int) + 1 = (k1 : Int) := by omega
            have hk3 : k ≤ k1 := by omega
            have hk4 : k1 ≤ tcap := by omega
            have hk5 : ¬ tcap = k := by omega
            have HK1 := Lib.hid hk1
            have HTK := Lib.hid ht
            clear hE1 hf hfe hys hcase hk1
            go_upto_region 18 with (fail)
            go_wp2_with fail
            with_reducible refine cD.mono ?_
            rintro e wx ⟨⟨v2, lv2, rfl, hAns2, hD, hlv⟩, haw⟩
            have HRx := Lib.hid (HR.out.docS haw hD hlv)
            have HA2 := Lib.hid hAns2
            clear cD hAns2 hD hlv haw HR hk2
            obtain ⟨b', o', x, hab, hcx, hx, -⟩ := HRx.out.toks.1.at_ hlt
            simp only at hab hx
            cases hab
            obtain rfl : x = t := by rw [← hx.out]; exact HTK.out
            have hbx : Below wx.heap.size wx (wx.alloc (.cells #[.int .i64 x] 3)) := (Below.refl _ _).alloc (Nat.le_refl _) _
            have HRa := Lib.hid (HRx.out.below hbx)
            have hEl : Elems .i64 (wx.alloc (.cells #[.int .i64 x] 3)) (some ⟨wx.heap.size, 0, none⟩) 1 [x] := elems_litK [x] rfl rfl (by intro z hz; simp only [List.mem_singleton] at hz; subst hz; exact WalkArith.wf_i64 ⟨by omega, by omega⟩) (by simp) rfl
            have hrl := HRx.out.pair.run.lts
            have cC := feedX r m mb 1 1 s2 OK.out V fed [x] (wx.alloc (.cells #[.int .i64 x] 3)) HRa.out.pair.run (by omega) hfp (some ⟨wx.heap.size, 0, none⟩) hEl (by omega) (fun _ b o e => by cases e; omega)
            rw [HFF.out.1, HFF.out.2.1, HFF.out.2.2] at cC
            have HA2a := Lib.hid (HA2.out.bel hbx)
            clear hEl hbx HA2 HRx hx
            go_wp2_with fail
            refine cC.mono ?_
            rintro e wy ⟨⟨v1, rfl, hAns, hE⟩, haw⟩
            have HRy := Lib.hid (HRa.out.code haw hE)
            have HA2y := Lib.hid (HA2a.out.code HRa.out.pair.run haw)
            have HA1 := Lib.hid hAns
            have cS := shape8 m s2 V wy HRy.out.pair.run.mod
            unfold Sz.val shv at cS
            clear cC hAns hE haw HRa HA2a hcx
            go_upto_region 20 with (fail)
            go_wp2_with fail
            refine cS.mono ?_
            rintro e wz ⟨rfl, hb⟩
            have HRz := Lib.hid (HRy.out.below hb)
            have HA2z := Lib.hid (HA2y.out.bel hb)
            have HA1z := Lib.hid (HA1.out.bel hb)
            clear cS hb HRy HA2y HA1
            have hkk := HK1.out
            rcases HCASE.out with ⟨hkp, hf0, hl2⟩ | ⟨hkp, hf0, hl2, hl3⟩
            · subst hf0
              obtain ⟨va, vc, rfl, hv1'⟩ := HA1z.out
              obtain ⟨ua, uc, rfl, hu1⟩ := HA2z.out
              have cI := intsB ua va ys.length uc vc ys wz hu1 hv1'
              clear HCASE HFF HA1z HA2z hv1' hu1
              go_wp2_with fail
              refine cI.mono ?_
              rintro e w1 ⟨rfl, hb⟩
              have HR1 := Lib.hid (HRz.out.below hb)
              clear cI hb HRz hkk
              go_wp2
              go_roundw
              case rel => exact ⟨k + 1, fed2, _, by omega, by go_num, hl2, HR1⟩
              case measure => simp [intOf]; omega
            · subst hf0
              have cP := placeE r m mb s2.p s2 V fed2 wz HRz.out.pair.run hl3
              have cS := shape8 m s2 V wz HRz.out.pair.run.mod
              unfold Sz.val shv at cS
              clear HCASE HFF HA1z HA2z hkk
              go_wp2_with fail
              refine cP.mono ?_
              rintro e w1 ⟨rfl, rfl⟩
              go_wp2_with fail
              refine cS.mono ?_
              rintro e w2 ⟨rfl, hb⟩
              have HR1 := Lib.hid (HRz.out.below hb)
              clear cP cS hb HRz
              go_wp2
              go_roundw
              case rel => exact ⟨k + 1, fed2, _, by omega, by go_num, hl2, HR1⟩
              case measure => simp [intOf]; omega
          · obtain rfl : k = tn := by omega
            obtain ⟨L, hL⟩ : ∃ L, fed.length = L := ⟨_, rfl⟩
            have hLp : L ≤ s2.p := by omega
            have cP := placeE r m mb L s2 V fed wr HR.out.pair.run hL
            have HL := Lib.hid hL
            clear hL
            go_wp2_with fail
            refine cP.mono ?_
            rintro e w1 ⟨rfl, rfl⟩
            clear cP
            by_cases h0 : a2 < 0
            · have hodd : a2 < 0 ∨ (s2.v : Int) ≤ a2 := .inl h0
              have hfp : fed.length ≤ s2.p := by rw [HL.out]; exact hLp
              have hbx : Below wr.heap.size wr (wr.alloc (.cells #[.int .i64 0, .int .i64 a2] 3)) := (Below.refl _ _).alloc (Nat.le_refl _) _
              have HRa := Lib.hid (HR.out.below hbx)
              have hEl : Elems .i64 (wr.alloc (.cells #[.int .i64 0, .int .i64 a2] 3)) (some ⟨wr.heap.size, 0, none⟩) 2 [0, a2] := elems_litK [0, a2] rfl rfl (by intro z hz; simp only [List.mem_cons, List.not_mem_nil, or_false] at hz; rcases hz with rfl | rfl; (exact WalkArith.wf_i64 ⟨by omega, by omega⟩); exact WalkArith.wf_i64 ⟨by omega, by omega⟩) (by simp) rfl
              have hrl := HR.out.pair.run.lts
              have hf2 : faultO s2 fed.length [0, a2] = 2 := fault_two (by unfold oddO; simp; omega)
              have honf : onF s2 fed [0, a2] = fed := by unfold onF; rw [if_neg (by rw [hf2]; decide)]
              have cC := feedX r m mb 2 2 s2 OK.out V fed [0, a2] (wr.alloc (.cells #[.int .i64 0, .int .i64 a2] 3)) HRa.out.pair.run (by omega) hfp (some ⟨wr.heap.size, 0, none⟩) hEl (by omega) (fun _ b o e => by cases e; omega)
              rw [hf2, honf] at cC
              clear hEl hbx hf2 honf HR
              go_wp2_with fail
              refine cC.mono ?_
              rintro e wq ⟨⟨v1, rfl, -, hE⟩, haw⟩
              have HR := Lib.hid (HRa.out.code haw hE)
              have cP := placeE r m mb L s2 V fed wq HR.out.pair.run HL.out
              clear cC hE haw HRa hrl
              go_wp2_with fail
              refine cP.mono ?_
              rintro e wp ⟨rfl, rfl⟩
              clear cP
              obtain ⟨wr, hwr⟩ : ∃ wr, wr = wq := ⟨_, rfl⟩
              subst hwr
              have hfp : fed.length ≤ s2.p := by rw [HL.out]; exact hLp
              have cS := shape8 m s2 V wr HR.out.pair.run.mod
              unfold Sz.val shv at cS
              obtain ⟨pn, hpn⟩ : ∃ pn, s2.p + 1 = pn := ⟨_, rfl⟩
              have hpn2 : (s2.p : Int) + 1 = (pn : Int) := by omega
              have hmk := run_make_row' (P := Tryz.prog) 35 3 (.int .i64 0) 8 Tryz.underlying35 (by kernel_rfl) rfl .i64 .i64 pn (by omega) (by omega)
              go_upto_region 30 with (fail)
              go_wp2_with fail
              refine cS.mono ?_
              rintro e ws ⟨rfl, hb⟩
              have HRs := Lib.hid (HR.out.below hb)
              have hbx : Below ws.heap.size ws (ws.alloc (.cells (madeCells #[.int .i64 0] pn) 3)) := (Below.refl _ _).alloc (Nat.le_refl _) _
              have HRa := Lib.hid (HRs.out.below hbx)
              have hEl : Elems .i64 (ws.alloc (.cells (madeCells #[.int .i64 0] pn) 3)) (some ⟨ws.heap.size, 0, none⟩) pn (List.replicate pn 0) := (mine_made .i64 ws 3 pn rfl).elems (by simp) (by omega) (fun x hx => by rw [List.eq_of_mem_replicate hx]; rfl)
              have hrl := HRs.out.pair.run.lts
              have hf2 : faultO s2 fed.length (List.replicate pn 0) = 80 := by
                rw [fault_full (by
                  rw [List.any_eq_false]
                  intro x hx
                  rw [List.eq_of_mem_replicate hx]
                  have := oddO_no.2 (show (0 : Int) ≤ 0 ∧ (0 : Int) < s2.v by omega)
                  simp [this]), List.length_replicate, if_pos (by omega)]
              have honf : onF s2 fed (List.replicate pn 0) = fed := by unfold onF; rw [if_neg (by rw [hf2]; decide)]
              have cC := feedX r m mb pn pn s2 OK.out V fed (List.replicate pn 0) (ws.alloc (.cells (madeCells #[.int .i64 0] pn) 3)) HRa.out.pair.run (by omega) hfp (some ⟨ws.heap.size, 0, none⟩) hEl (by omega) (fun _ b o e => by cases e; omega)
              rw [hf2, honf] at cC
              clear cS hb HR HRs hEl hbx hf2 honf hpn
              go_wp2_with fail
              with_reducible refine cC.mono ?_
              rintro e wq ⟨⟨v1, rfl, -, hE⟩, haw⟩
              have HR := Lib.hid (HRa.out.code haw hE)
              have cP := placeE r m mb L s2 V fed wq HR.out.pair.run HL.out
              clear cC hE haw HRa hrl hmk hpn2
              go_wp2_with fail
              refine cP.mono ?_
              rintro e wp ⟨rfl, rfl⟩
              have hXq := HR.out.box
              have y10 : wq.cell? ⟨n7, 10, none⟩ = some (.slice W.t.a W.t.n W.t.cap) := hXq.cell 10
              have yf := hXq.frozen 10
              clear cP
              go_upto_region 34 with (fail)
              generalize hw7 : World.setCell _ _ _ = w7
              have hgq : wq.grownBy w7 (some n7) := by rw [← hw7]; exact grownBy_setCell wq n7 10 _
              have hX7 : Box w7 n7 50 (W.cells.setIfInBounds 10 (.slice none 0 0)) := by rw [← hw7]; exact hXq.set 10 _
              have h8 : No8 W.cells := no8_of (by simp [Wt7.cells])
              have hB7 : Below w.heap.size w w7 := by rw [← hw7]; exact HR.out.pair.bel.setCell (by show w.heap.size ≤ n7; omega) _
              have hM7 : ModAt w7 m s2 V := mod_but HR.out.pair.run.mod hXq h8 (by show 14 ≤ 19; omega) (by decide) hgq
              obtain ⟨W4, hW4c, hW4in, hno⟩ : ∃ W4 : Wt7, Box w7 n7 50 W4.cells ∧ W4.In w7 ∧ wholeB W4 = false := by
                obtain ⟨W3, h3, hal⟩ := HR.out.wt
                obtain ⟨i1, i2, i3, i4⟩ := wt_but h3 hXq h8 (by show 14 ≤ 19; omega) hgq
                refine ⟨{ W3 with t := ⟨none, 0, 0, []⟩ }, ?_, ⟨i1, i2, ⟨Elems.nil_ _ _ _, Nat.le_refl _, by show (0 : Nat) ≤ _; omega, ⟨(fun _ => rfl), (fun x hx => by cases hx)⟩⟩, i4⟩, noLast OK.out ?_⟩
                · have e9 : ({ W3 with t := ⟨none, 0, 0, []⟩ } : Wt7).cells = W.cells.setIfInBounds 10 (.slice none 0 0) := by rw [← hal.cells]; rfl
                  rw [e9]
                  exact hX7
                · obtain ⟨a1, a2, a3, a4, a5, a6⟩ := hal.six
                  obtain ⟨b1, b2, b3, b4, b5, b6⟩ := H6.out
                  exact ⟨a1.trans b1, a2.trans b2, a3.trans b3, a4.trans b4, a5.trans b5, a6.trans b6⟩
              have cN := new_no W4 w7 hW4in hno
              have HM7 := Lib.hid hM7
              have HB7 := Lib.hid hB7
              clear hw7 hgq hX7 h8 hB7 hM7 hW4in hno HR hXq y10 yf
              go_wp2_with (refine wpList_load_row rfl 50 _ rfl n7 rfl 50 _ (0, 0) _ hW4c Tryz.underlying50 rfl (by kernel_rfl) ?_)
              refine cN.mono ?_
              rintro e w8 ⟨rfl, hb⟩
              have HB8 := Lib.hid (below_two HB7.out hb)
              have cS := shape8 m s2 V w8 (HM7.out.bel hb)
              unfold Sz.val shv at cS
              clear cN hb hW4c HM7 HB7
              go_wp2_with fail
              refine cS.mono ?_
              rintro e w9 ⟨rfl, hb⟩
              have HB9 := Lib.hid (below_two HB8.out hb)
              have cD := dright_yes s2.l s2.w s2.h s2.i s2.v s2.p w9 OK.out
              unfold shv at cD
              clear cS hb HB8
              go_wp2_with fail
              refine cD.mono ?_
              rintro e w10 ⟨rfl, hb⟩
              have HB10 := Lib.hid (below_two HB9.out hb)
              clear cD hb HB9
              go_wp2
              go_ret
              exact ⟨rfl, HB10.out⟩
            · have cS0 := shape8 m s2 V wr HR.out.pair.run.mod
              unfold Sz.val shv at cS0
              by_cases h1 : (s2.v : Int) ≤ a2
              · have hodd : a2 < 0 ∨ (s2.v : Int) ≤ a2 := .inr h1
                go_wp2_with fail
                refine cS0.mono ?_
                rintro e ws ⟨rfl, hb⟩
                have HRn := Lib.hid (HR.out.below hb)
                clear cS0 hb HR
                have HR := HRn
                clear HRn
                obtain ⟨wr, hwr⟩ : ∃ wr, wr = ws := ⟨_, rfl⟩
                subst hwr
                have hfp : fed.length ≤ s2.p := by rw [HL.out]; exact hLp
                have hbx : Below wr.heap.size wr (wr.alloc (.cells #[.int .i64 0, .int .i64 a2] 3)) := (Below.refl _ _).alloc (Nat.le_refl _) _
                have HRa := Lib.hid (HR.out.below hbx)
                have hEl : Elems .i64 (wr.alloc (.cells #[.int .i64 0, .int .i64 a2] 3)) (some ⟨wr.heap.size, 0, none⟩) 2 [0, a2] := elems_litK [0, a2] rfl rfl (by intro z hz; simp only [List.mem_cons, List.not_mem_nil, or_false] at hz; rcases hz with rfl | rfl; (exact WalkArith.wf_i64 ⟨by omega, by omega⟩); exact WalkArith.wf_i64 ⟨by omega, by omega⟩) (by simp) rfl
                have hrl := HR.out.pair.run.lts
                have hf2 : faultO s2 fed.length [0, a2] = 2 := fault_two (by unfold oddO; simp; omega)
                have honf : onF s2 fed [0, a2] = fed := by unfold onF; rw [if_neg (by rw [hf2]; decide)]
                have cC := feedX r m mb 2 2 s2 OK.out V fed [0, a2] (wr.alloc (.cells #[.int .i64 0, .int .i64 a2] 3)) HRa.out.pair.run (by omega) hfp (some ⟨wr.heap.size, 0, none⟩) hEl (by omega) (fun _ b o e => by cases e; omega)
                rw [hf2, honf] at cC
                clear hEl hbx hf2 honf HR
                go_wp2_with fail
                refine cC.mono ?_
                rintro e wq ⟨⟨v1, rfl, -, hE⟩, haw⟩
                have HR := Lib.hid (HRa.out.code haw hE)
                have cP := placeE r m mb L s2 V fed wq HR.out.pair.run HL.out
                clear cC hE haw HRa hrl
                go_wp2_with fail
                refine cP.mono ?_
                rintro e wp ⟨rfl, rfl⟩
                clear cP
                obtain ⟨wr, hwr⟩ : ∃ wr, wr = wq := ⟨_, rfl⟩
                subst hwr
                have hfp : fed.length ≤ s2.p := by rw [HL.out]; exact hLp
                have cS := shape8 m s2 V wr HR.out.pair.run.mod
                unfold Sz.val shv at cS
                obtain ⟨pn, hpn⟩ : ∃ pn, s2.p + 1 = pn := ⟨_, rfl⟩
                have hpn2 : (s2.p : Int) + 1 = (pn : Int) := by omega
                have hmk := run_make_row' (P := Tryz.prog) 35 3 (.int .i64 0) 8 Tryz.underlying35 (by kernel_rfl) rfl .i64 .i64 pn (by omega) (by omega)
                go_upto_region 30 with (fail)
                go_wp2_with fail
                refine cS.mono ?_
                rintro e ws ⟨rfl, hb⟩
                have HRs := Lib.hid (HR.out.below hb)
                have hbx : Below ws.heap.size ws (ws.alloc (.cells (madeCells #[.int .i64 0] pn) 3)) := (Below.refl _ _).alloc (Nat.le_refl _) _
                have HRa := Lib.hid (HRs.out.below hbx)
                have hEl : Elems .i64 (ws.alloc (.cells (madeCells #[.int .i64 0] pn) 3)) (some ⟨ws.heap.size, 0, none⟩) pn (List.replicate pn 0) := (mine_made .i64 ws 3 pn rfl).elems (by simp) (by omega) (fun x hx => by rw [List.eq_of_mem_replicate hx]; rfl)
                have hrl := HRs.out.pair.run.lts
                have hf2 : faultO s2 fed.length (List.replicate pn 0) = 80 := by
                  rw [fault_full (by
                    rw [List.any_eq_false]
                    intro x hx
                    rw [List.eq_of_mem_replicate hx]
                    have := oddO_no.2 (show (0 : Int) ≤ 0 ∧ (0 : Int) < s2.v by omega)
                    simp [this]), List.length_replicate, if_pos (by omega)]
                have honf : onF s2 fed (List.replicate pn 0) = fed := by unfold onF; rw [if_neg (by rw [hf2]; decide)]
                have cC := feedX r m mb pn pn s2 OK.out V fed (List.replicate pn 0) (ws.alloc (.cells (madeCells #[.int .i64 0] pn) 3)) HRa.out.pair.run (by omega) hfp (some ⟨ws.heap.size, 0, none⟩) hEl (by omega) (fun _ b o e => by cases e; omega)
                rw [hf2, honf] at cC
                clear cS hb HR HRs hEl hbx hf2 honf hpn
                go_wp2_with fail
                with_reducible refine cC.mono ?_
                rintro e wq ⟨⟨v1, rfl, -, hE⟩, haw⟩
                have HR := Lib.hid (HRa.out.code haw hE)
                have cP := placeE r m mb L s2 V fed wq HR.out.pair.run HL.out
                clear cC hE haw HRa hrl hmk hpn2
                go_wp2_with fail
                refine cP.mono ?_
                rintro e wp ⟨rfl, rfl⟩
                have hXq := HR.out.box
                have y10 : wq.cell? ⟨n7, 10, none⟩ = some (.slice W.t.a W.t.n W.t.cap) := hXq.cell 10
                have yf := hXq.frozen 10
                clear cP
                go_upto_region 34 with (fail)
                generalize hw7 : World.setCell _ _ _ = w7
                have hgq : wq.grownBy w7 (some n7) := by rw [← hw7]; exact grownBy_setCell wq n7 10 _
                have hX7 : Box w7 n7 50 (W.cells.setIfInBounds 10 (.slice none 0 0)) := by rw [← hw7]; exact hXq.set 10 _
                have h8 : No8 W.cells := no8_of (by simp [Wt7.cells])
                have hB7 : Below w.heap.size w w7 := by rw [← hw7]; exact HR.out.pair.bel.setCell (by show w.heap.size ≤ n7; omega) _
                have hM7 : ModAt w7 m s2 V := mod_but HR.out.pair.run.mod hXq h8 (by show 14 ≤ 19; omega) (by decide) hgq
                obtain ⟨W4, hW4c, hW4in, hno⟩ : ∃ W4 : Wt7, Box w7 n7 50 W4.cells ∧ W4.In w7 ∧ wholeB W4 = false := by
                  obtain ⟨W3, h3, hal⟩ := HR.out.wt
                  obtain ⟨i1, i2, i3, i4⟩ := wt_but h3 hXq h8 (by show 14 ≤ 19; omega) hgq
                  refine ⟨{ W3 with t := ⟨none, 0, 0, []⟩ }, ?_, ⟨i1, i2, ⟨Elems.nil_ _ _ _, Nat.le_refl _, by show (0 : Nat) ≤ _; omega, ⟨(fun _ => rfl), (fun x hx => by cases hx)⟩⟩, i4⟩, noLast OK.out ?_⟩
                  · have e9 : ({ W3 with t := ⟨none, 0, 0, []⟩ } : Wt7).cells = W.cells.setIfInBounds 10 (.slice none 0 0) := by rw [← hal.cells]; rfl
                    rw [e9]
                    exact hX7
                  · obtain ⟨a1, a2, a3, a4, a5, a6⟩ := hal.six
                    obtain ⟨b1, b2, b3, b4, b5, b6⟩ := H6.out
                    exact ⟨a1.trans b1, a2.trans b2, a3.trans b3, a4.trans b4, a5.trans b5, a6.trans b6⟩
                have cN := new_no W4 w7 hW4in hno
                have HM7 := Lib.hid hM7
                have HB7 := Lib.hid hB7
                clear hw7 hgq hX7 h8 hB7 hM7 hW4in hno HR hXq y10 yf
                go_wp2_with (refine wpList_load_row rfl 50 _ rfl n7 rfl 50 _ (0, 0) _ hW4c Tryz.underlying50 rfl (by kernel_rfl) ?_)
                refine cN.mono ?_
                rintro e w8 ⟨rfl, hb⟩
                have HB8 := Lib.hid (below_two HB7.out hb)
                have cS := shape8 m s2 V w8 (HM7.out.bel hb)
                unfold Sz.val shv at cS
                clear cN hb hW4c HM7 HB7
                go_wp2_with fail
                refine cS.mono ?_
                rintro e w9 ⟨rfl, hb⟩
                have HB9 := Lib.hid (below_two HB8.out hb)
                have cD := dright_yes s2.l s2.w s2.h s2.i s2.v s2.p w9 OK.out
                unfold shv at cD
                clear cS hb HB8
                go_wp2_with fail
                refine cD.mono ?_
                rintro e w10 ⟨rfl, hb⟩
                have HB10 := Lib.hid (below_two HB9.out hb)
                clear cD hb HB9
                go_wp2
                go_ret
                exact ⟨rfl, HB10.out⟩
              · go_wp2_with fail
                refine cS0.mono ?_
                rintro e ws ⟨rfl, hb⟩
                have HRn := Lib.hid (HR.out.below hb)
                clear cS0 hb HR
                have HR := HRn
                clear HRn
                obtain ⟨wr, hwr⟩ : ∃ wr, wr = ws := ⟨_, rfl⟩
                subst hwr
                have hfp : fed.length ≤ s2.p := by rw [HL.out]; exact hLp
                have cS := shape8 m s2 V wr HR.out.pair.run.mod
                unfold Sz.val shv at cS
                obtain ⟨pn, hpn⟩ : ∃ pn, s2.p + 1 = pn := ⟨_, rfl⟩
                have hpn2 : (s2.p : Int) + 1 = (pn : Int) := by omega
                have hmk := run_make_row' (P := Tryz.prog) 35 3 (.int .i64 0) 8 Tryz.underlying35 (by kernel_rfl) rfl .i64 .i64 pn (by omega) (by omega)
                go_upto_region 30 with (fail)
                go_wp2_with fail
                refine cS.mono ?_
                rintro e ws ⟨rfl, hb⟩
                have HRs := Lib.hid (HR.out.below hb)
                have hbx : Below ws.heap.size ws (ws.alloc (.cells (madeCells #[.int .i64 0] pn) 3)) := (Below.refl _ _).alloc (Nat.le_refl _) _
                have HRa := Lib.hid (HRs.out.below hbx)
                have hEl : Elems .i64 (ws.alloc (.cells (madeCells #[.int .i64 0] pn) 3)) (some ⟨ws.heap.size, 0, none⟩) pn (List.replicate pn 0) := (mine_made .i64 ws 3 pn rfl).elems (by simp) (by omega) (fun x hx => by rw [List.eq_of_mem_replicate hx]; rfl)
                have hrl := HRs.out.pair.run.lts
                have hf2 : faultO s2 fed.length (List.replicate pn 0) = 80 := by
                  rw [fault_full (by
                    rw [List.any_eq_false]
                    intro x hx
                    rw [List.eq_of_mem_replicate hx]
                    have := oddO_no.2 (show (0 : Int) ≤ 0 ∧ (0 : Int) < s2.v by omega)
                    simp [this]), List.length_replicate, if_pos (by omega)]
                have honf : onF s2 fed (List.replicate pn 0) = fed := by unfold onF; rw [if_neg (by rw [hf2]; decide)]
                have cC := feedX r m mb pn pn s2 OK.out V fed (List.replicate pn 0) (ws.alloc (.cells (madeCells #[.int .i64 0] pn) 3)) HRa.out.pair.run (by omega) hfp (some ⟨ws.heap.size, 0, none⟩) hEl (by omega) (fun _ b o e => by cases e; omega)
                rw [hf2, honf] at cC
                clear cS hb HR HRs hEl hbx hf2 honf hpn
                go_wp2_with fail
                with_reducible refine cC.mono ?_
                rintro e wq ⟨⟨v1, rfl, -, hE⟩, haw⟩
                have HR := Lib.hid (HRa.out.code haw hE)
                have cP := placeE r m mb L s2 V fed wq HR.out.pair.run HL.out
                clear cC hE haw HRa hrl hmk hpn2
                go_wp2_with fail
                refine cP.mono ?_
                rintro e wp ⟨rfl, rfl⟩
                have hXq := HR.out.box
                have y10 : wq.cell? ⟨n7, 10, none⟩ = some (.slice W.t.a W.t.n W.t.cap) := hXq.cell 10
                have yf := hXq.frozen 10
                clear cP
                go_upto_region 34 with (fail)
                generalize hw7 : World.setCell _ _ _ = w7
                have hgq : wq.grownBy w7 (some n7) := by rw [← hw7]; exact grownBy_setCell wq n7 10 _
                have hX7 : Box w7 n7 50 (W.cells.setIfInBounds 10 (.slice none 0 0)) := by rw [← hw7]; exact hXq.set 10 _
                have h8 : No8 W.cells := no8_of (by simp [Wt7.cells])
                have hB7 : Below w.heap.size w w7 := by rw [← hw7]; exact HR.out.pair.bel.setCell (by show w.heap.size ≤ n7; omega) _
                have hM7 : ModAt w7 m s2 V := mod_but HR.out.pair.run.mod hXq h8 (by show 14 ≤ 19; omega) (by decide) hgq
                obtain ⟨W4, hW4c, hW4in, hno⟩ : ∃ W4 : Wt7, Box w7 n7 50 W4.cells ∧ W4.In w7 ∧ wholeB W4 = false := by
                  obtain ⟨W3, h3, hal⟩ := HR.out.wt
                  obtain ⟨i1, i2, i3, i4⟩ := wt_but h3 hXq h8 (by show 14 ≤ 19; omega) hgq
                  refine ⟨{ W3 with t := ⟨none, 0, 0, []⟩ }, ?_, ⟨i1, i2, ⟨Elems.nil_ _ _ _, Nat.le_refl _, by show (0 : Nat) ≤ _; omega, ⟨(fun _ => rfl), (fun x hx => by cases hx)⟩⟩, i4⟩, noLast OK.out ?_⟩
                  · have e9 : ({ W3 with t := ⟨none, 0, 0, []⟩ } : Wt7).cells = W.cells.setIfInBounds 10 (.slice none 0 0) := by rw [← hal.cells]; rfl
                    rw [e9]
                    exact hX7
                  · obtain ⟨a1, a2, a3, a4, a5, a6⟩ := hal.six
                    obtain ⟨b1, b2, b3, b4, b5, b6⟩ := H6.out
                    exact ⟨a1.trans b1, a2.trans b2, a3.trans b3, a4.trans b4, a5.trans b5, a6.trans b6⟩
                have cN := new_no W4 w7 hW4in hno
                have HM7 := Lib.hid hM7
                have HB7 := Lib.hid hB7
                clear hw7 hgq hX7 h8 hB7 hM7 hW4in hno HR hXq y10 yf
                go_wp2_with (refine wpList_load_row rfl 50 _ rfl n7 rfl 50 _ (0, 0) _ hW4c Tryz.underlying50 rfl (by kernel_rfl) ?_)
                refine cN.mono ?_
                rintro e w8 ⟨rfl, hb⟩
                have HB8 := Lib.hid (below_two HB7.out hb)
                have cS := shape8 m s2 V w8 (HM7.out.bel hb)
                unfold Sz.val shv at cS
                clear cN hb hW4c HM7 HB7
                go_wp2_with fail
                refine cS.mono ?_
                rintro e w9 ⟨rfl, hb⟩
                have HB9 := Lib.hid (below_two HB8.out hb)
                have cD := dright_yes s2.l s2.w s2.h s2.i s2.v s2.p w9 OK.out
                unfold shv at cD
                clear cS hb HB8
                go_wp2_with fail
                refine cD.mono ?_
                rintro e w10 ⟨rfl, hb⟩
                have HB10 := Lib.hid (below_two HB9.out hb)
                clear cD hb HB9
                go_wp2
                go_ret
                exact ⟨rfl, HB10.out⟩
  · have hcase : 20 < q1.n ∨ (q1.n ≤ 20 ∧ 2000 < q0.n) := by omega
    clear hn
    rcases hcase with hn | ⟨hn, hn2⟩
    all_goals
      go_wp2_with fail
      refine cA.mono ?_
      rintro e wb ⟨rfl, hb⟩
      have HXSb := Lib.hid (HXS.out.bel hb)
      have z7 : wb.cell? ⟨w.heap.size, 7, none⟩ = some (.slice q0.a q0.n q0.cap) := HXSb.out.cell 7
      have HBb := Lib.hid (below_two HBA.out hb)
      have cA2 := awakeF wb (HT.out.bel HBb.out)
      clear cA hb HXS HBA
      go_wp2_with fail
      refine cA2.mono ?_
      rintro e wc ⟨rfl, hb⟩
      have HBc := Lib.hid (below_two HBb.out hb)
      clear cA2 hb z7
      go_wp2
      go_ret
      exact ⟨rfl, HBc.out⟩

set_option maxRecDepth 100000 in
theorem lifted (os : Os) (started : os.Started) (H : Type) (enc : TypeId × Value → H) :
    ReturnsInHanded {} Tryz.checked os 4 .any (fun w args => (Rows.modelRefusesSpec.pre enc Tryz.prog Tryz.f4 [] false w args ∧ laidMetH Tryz.prog laidList9 w) ∧ sizedMet enc Tryz.prog Tryz.f4 (OpenSpec.ofChange Rows.modelRefusesSpec) false w args) (Rows.modelRefusesSpec.post enc Tryz.prog Tryz.f4 false true false false) := by
  refine returnsInHanded_of_change_and (C := Tryz.checked) (X := fun w _ => laidMetH Tryz.prog laidList9 w) (fun _ _ _ hh h => h.of_heap hh) own started (by kernel_rfl) Tryz.func4
    (ChangeSpec.witness_shaped (enc := enc) (C := Tryz.checked) (os := os) (X := fun w _ => laidMetH Tryz.prog laidList9 w) false (World.doorLaid Tryz.prog 400 os) #[.agg #[.int .i64 0, .int .i64 0, .int .i64 0, .int .i64 0, .int .i64 0, .int .i64 0, .int .u64 0, .slice none 0 0], .slice none 0 0, .int .i64 0] 8 rfl (World.shaped_of_RefB (by kernel_rfl) (by kernel_rfl)) (by kernel_rfl) (by kernel_rfl) (by kernel_rfl) (door_met9 os _)) ?_
  intro W base args ds gs before hval0 hW _ _ hL _
  have hval : ∀ (j : Nat) t v, Tryz.f4.params[j]? = some t → args[j]? = some v → Value.okWide Tryz.prog W .any base t v := hval0
  have hW' := hW
  obtain ⟨p, q, hA0, hV, rfl, hfz, hnd⟩ := hW
  have hA : DataW.TrodAll enc Tryz.prog W 0 (fun _ => true) true Tryz.f4.params.toList args.toList ds p := hA0
  rw [Tryz.params4] at hA hval
  obtain ⟨v0, vs0, d0, ds0, p0, q0, hargs, rfl, rfl, h0, r0⟩ := trodAll_cons hA
  obtain ⟨v1, vs1, d1, ds1, p1, q1, rfl, rfl, rfl, h1, r1⟩ := trodAll_cons r0
  obtain ⟨v2, vs2, d2, ds2, p2, q2, rfl, rfl, rfl, h2, r2⟩ := trodAll_cons r1
  obtain ⟨rfl, rfl, rfl⟩ := trodAll_nil r2
  obtain rfl : args = #[v0, v1, v2] := by cases args; simp_all
  obtain ⟨rfl, rfl⟩ := trodVars_none hV
  have k0 := h0
  have lt0 : ∀ x ∈ p0, x.block < W.heap.size := by obtain ⟨m, hm⟩ := k0; exact DataW.trod_lt m _ _ _ hm
  obtain ⟨xl0, xw0, xh0, xi0, xv0, xp0, sd0, q0, rfl, w0⟩ := open_seeds8 (hval 0 26 v0 rfl rfl) h0
  have k1 := h1
  have lt1 : ∀ x ∈ p1, x.block < W.heap.size := by obtain ⟨m, hm⟩ := k1; exact DataW.trod_lt m _ _ _ hm
  obtain ⟨q1, rfl, w1⟩ := open_rw Tryz.underlying35 Tryz.underlying3 (by kernel_rfl) (hval 1 35 v1 rfl rfl) h1
  obtain ⟨a2, rfl, rfl, rfl, w2⟩ := open_int Tryz.underlying3 (hval 2 3 v2 rfl rfl) h2
  clear hA0 hval0
  have hT := tabs_of_laid hL
  refine (walk xl0 xw0 xh0 xi0 xv0 xp0 sd0 q0 q1 a2 W w0 w1 w2 hT).mono fun e W' ⟨he, bel⟩ => ?_
  subst he
  exact ⟨_, rfl, _, _, _, [], _, [], hW', trodAll_mk1 (shut_bool Tryz.underlying4 _), (trodAll_cons_mk (Below.trod laidOut (by kernel_rfl) (of_decide_eq_true (by kernel_rfl)) k0 bel lt0) (trodAll_cons_mk (Below.trod laidOut (by kernel_rfl) (of_decide_eq_true (by kernel_rfl)) k1 bel lt1) (trodAll_cons_mk (shut_int Tryz.underlying3 w2) trodAll_mk0))), rfl, bel.frame _, fun h => by cases h⟩

theorem over : Rows.modelRefusesRow.holds Tryz.pinned (OpenSpec.ofChange Rows.modelRefusesSpec) :=
  OpenClaim.holds_of_wide 4 Tryz.f4 rfl rfl rfl rfl rfl rfl rfl ⟨rfl, rfl, rfl, rfl, rfl⟩ rfl rfl rfl rfl rfl (by kernel_rfl) Tryz.func4 (by kernel_rfl)
    (of_decide_eq_true (by kernel_rfl)) (by unfold Func.isWrapper; first | (rw [if_pos (by decide +kernel)]; kernel_rfl) | (rw [if_neg (by decide +kernel)]; exact ⟨rfl, rfl⟩))
    (fun os started H enc _ => lifted os started H enc)

/-- the row's statement -/
theorem said : Rows.ModelRefusesSaid := over

/-- THE STATEMENT: the tied card -/
theorem proved : Rows.ModelRefusesCardSaid :=
  Claim7.holds_tied_plain_at .later [] [.data, .data] true (true, "9491c1b2270f2e0c101a760e0ee5449b3d1cdcca79f8ea9c1e20f63c71c59fbe") true
    said (fun _ h => by cases h) (by kernel_rfl) (fun _ h => by cases h) modelRefuses_row_tie rfl ⟨rfl, rfl⟩ (by kernel_rfl) rfl
    (fun f fn hf hfn => by
      obtain rfl : f = 4 := Option.some.inj ((show Tryz.prog.funcNamed "peloton/pelotonlaw08.ModelRefuses" = some 4 by kernel_rfl).symm.trans hf) |>.symm
      obtain rfl : fn = Tryz.f4 := (Option.some.inj (Tryz.func4.symm.trans hfn)).symm
      exact ⟨by kernel_rfl, fun j t ht => by
        rw [Tryz.params4] at ht
        have hm : t ∈ [26, 35, 3] := by simpa using Array.mem_of_getElem? ht
        have hall : ([26, 35, 3].all fun u => !Tryz.prog.wantsStandIn u) = true := by kernel_rfl
        exact (show Tryz.prog.wantsStandIn t = false by simpa using List.all_eq_true.1 hall t hm)⟩)
    (by kernel_rfl)
#print axioms proved
end Go.Proofs.YtoeihigdndkjeaaGreatDoor.modelRefuses
