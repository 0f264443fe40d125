/-
  Layer 12, stays: what is laid at a spot stays, whatever is laid, asked for, or dropped of other requests; what is told is no part of it: proved for all rows and acts.
-/
import Derived.Test.YtolmejaedldeeaaRows
import Derived.WalkKit
import Derived.ProofKit
import Derived.OpenShut
import Derived.ShutString
import Derived.ChangeOld
import Derived.Below
import Derived.Test.YtolmejaedldeeaaActRow12
import Derived.Test.YtolmejaedldeeaaActRow12
import Derived.Test.YtolmejaedldeeaaStays12
import Derived.Deep.CutRange
import Derived.Deep.CutBlock
namespace Go.Proofs.Ytolmejaedldeeaa.cacheStays
open Go.ChangeShapes Go.WideShapes Go.ChangeAt Go.RowKit
open Go.ChangeMaps (open_string shut_string)
set_option linter.unusedVariables false

theorem own : ownKnob Try.prog.godebug = none := by kernel_rfl
theorem laidOut : laidOutB Try.prog = true := by kernel_rfl

set_option maxHeartbeats 6400000 in
set_option maxRecDepth 100000 in
theorem walk (q0 : Rw) (q1 : Rw) (x2 : RowOf Act12) (w : World) (h0 : q0.In .i8 w) (h1 : q1.In .i8 w) (h2 : x2.In Act12.cells (fun w x => Act12.In w x) 6 w) :
    Calls Try.prog 4 #[.slice q0.a q0.n q0.cap, .slice q1.a q1.n q1.cap, .slice x2.a x2.n x2.cap] w fun e w' => e = .returned (.bool true) ∧ Below w.heap.size w w' := by
  have cA := awake12 w
  obtain ⟨ka, kn, kcap, kv⟩ := q0
  obtain ⟨va, vn, vcap, vv⟩ := q1
  obtain ⟨xa, xn, xcap, xs⟩ := x2
  have H0 := Lib.hid h0
  have H1 := Lib.hid h1
  have H2 := Lib.hid h2
  have hk0 : kn ≤ 9223372036854775807 := Nat.le_trans h0.2.1 h0.2.2.1
  have hv0 : vn ≤ 9223372036854775807 := Nat.le_trans h1.2.1 h1.2.2.1
  have hcap : xn ≤ 9223372036854775807 := Nat.le_trans h2.2.1 h2.2.2.1
  simp only
  clear h0 h1 h2
  by_cases hc1 : 100 < kn
  · have hk1 : decide ((100 : Int) < (kn : Int)) = true := by simp; omega
    --<A
    go_enter Try.func4, Try.ntmps4
    go_upto_region 2 with (refine cA.mono ?_; (first | rintro e wa rfl hb | rintro e wa ⟨rfl, hb⟩))
    have HB := Lib.hid hb
    have cB := awake12 wa
    clear hb cA
    go_wp2_with (refine cB.mono ?_)
    (first | rintro e wb rfl hb | rintro e wb ⟨rfl, hb⟩)
    go_wp2
    go_ret
    exact ⟨rfl, below_two HB.out hb⟩
    -->A
  have hk1 : decide ((100 : Int) < (kn : Int)) = false := by simp; omega
  by_cases hc2 : vn ≠ kn
  · have hne : ((vn : Int) != (kn : Int)) = true := by simp; omega
    --<B
    go_enter Try.func4, Try.ntmps4
    go_upto_region 2 with (refine cA.mono ?_; (first | rintro e wa rfl hb | rintro e wa ⟨rfl, hb⟩))
    have HB := Lib.hid hb
    have cB := awake12 wa
    clear hb cA
    go_wp2_with (refine cB.mono ?_)
    (first | rintro e wb rfl hb | rintro e wb ⟨rfl, hb⟩)
    go_wp2
    go_ret
    exact ⟨rfl, below_two HB.out hb⟩
    -->B
  obtain rfl : vn = kn := by omega
  have hne : ((vn : Int) != (vn : Int)) = false := by simp
  by_cases hc3 : 60 < xn
  · have hx1 : decide ((60 : Int) < (xn : Int)) = true := by simp; omega
    --<C
    go_enter Try.func4, Try.ntmps4
    go_upto_region 2 with (refine cA.mono ?_; (first | rintro e wa rfl hb | rintro e wa ⟨rfl, hb⟩))
    have HB := Lib.hid hb
    have cB := awake12 wa
    clear hb cA
    go_wp2_with (refine cB.mono ?_)
    (first | rintro e wb rfl hb | rintro e wb ⟨rfl, hb⟩)
    go_wp2
    go_ret
    exact ⟨rfl, below_two HB.out hb⟩
    -->C
  have hx1 : decide ((60 : Int) < (xn : Int)) = false := by simp; omega
  go_enter Try.func4, Try.ntmps4
  go_upto_region 3 with (refine cA.mono ?_; (first | rintro e wa rfl hb | rintro e wa ⟨rfl, hb⟩))
  have HB := Lib.hid hb
  have cN := new12_yes 50 (by omega) wa
  clear hb cA
  go_upto_region 4 with (refine cN.mono ?_; (first | rintro e wb ⟨sb, rfl, mb, hS, hsb, hmb, hb⟩ | rintro e wb sb rfl mb hS hsb hmb hb))
  have HB2 := Lib.hid (below_two HB.out hb)
  have HS0 := Lib.hid hS
  have HM := Lib.hid (Nat.le_trans HB.out.size hmb)
  have cS := spot_call 3 1 0 wb
  clear hS hsb hmb hb cN HB
  unfold spotV at cS
  go_wp2_with (refine cS.mono ?_; (first | rintro e wc rfl hb | rintro e wc ⟨rfl, hb⟩))
  have hPut := put12 (HS0.out.bel hb) ⟨3, 1, 0, kv, vv⟩ ⟨ka, vn, kcap, kv⟩ ⟨va, vn, vcap, vv⟩ (rowsE_mk (r := 3) (l := 1) (p := 0) ((H0.out.below HB2.out).below hb) ((H1.out.below HB2.out).below hb) (by simp only; omega) (by simp only; omega)) ⟨w64_bd.2 (by simp), w64_bd.2 (by simp), w64_bd.2 (by simp)⟩
  rw [stay_first (by rw [H0.out.1.1, H1.out.1.1])] at hPut
  unfold spotV at hPut
  have HB3 := Lib.hid (below_two HB2.out hb)
  clear hb cS
  go_wp2_with (refine hPut.mono ?_)
  (first | rintro e wd rfl hS hg | rintro e wd ⟨rfl, hS, hg⟩)
  have HI0 : Hid (Stay w sb mb kv vv 0 [⟨3, 1, 0, kv, vv⟩] wd) := Lib.hid ⟨hS, by simp, by simp, HB3.out.grown hg HB3.out.size (fun j hj => by cases hj; exact HM.out), HM.out⟩
  clear hS hg hPut HS0 HB2 HB3
  go_upto_region 7 with (fail)
  go_loopw [9, 10, 11, 12, 13, 14, 15, 16, 17] (fun iv _ _ _ _ _ _ _ _ wr => ∃ (i : Nat) (L : List Ent), i ≤ xn ∧ iv = .int .i64 i ∧ Hid (Stay w sb mb kv vv i L wr)) (fun iv _ _ _ _ _ _ _ _ _ => xn - (intOf iv).toNat)
  case atStart => exact ⟨0, _, by omega, rfl, HI0⟩
  case round =>
    obtain ⟨i, L, hi, rfl, HI⟩ := hrel
    clear HI0
    by_cases hlt : i < xn
    · have hlt2 : (i : Int) < (xn : Int) := by omega
      have hi1 : IntKind.i64.wrap ((i : Int) + 1) = ((i + 1 : Nat) : Int) := by rw [IntWalk.i64_in _ (by omega)]; rfl
      have hB := HI.out.bel
      obtain ⟨b, off, x, ha, -, hmem, hx, hc⟩ := (H2.out.below Act12.len hB (fun x hx => hx.below hB)).at_ hlt
      simp only at ha
      subst ha
      have d0 : wr.cell? ⟨b, off + i * 6, none⟩ = some (.int .i64 x.kind) := hc 0 (by omega)
      have d1 : wr.cell? ⟨b, off + i * 6 + 1, none⟩ = some (.int .i64 x.at_.r) := hc 1 (by omega)
      have d2 : wr.cell? ⟨b, off + i * 6 + 2, none⟩ = some (.int .i64 x.at_.l) := hc 2 (by omega)
      have d3 : wr.cell? ⟨b, off + i * 6 + 3, none⟩ = some (.int .i64 x.at_.p) := hc 3 (by omega)
      have d4 : wr.cell? ⟨b, off + i * 6 + 4, none⟩ = some (.slice x.k.a x.k.n x.k.cap) := hc 4 (by omega)
      have d5 : wr.cell? ⟨b, off + i * 6 + 5, none⟩ = some (.slice x.v.a x.v.n x.v.cap) := hc 5 (by omega)
      have HXin0 : Hid (Act12.In w x) := Lib.hid (H2.out.2.2.2.1 x hmem)
      clear hc hx hmem
      go_upto_region 10 with (fail)
      generalize hwA : World.alloc wr _ = wA
      have XA : Box wA wr.heap.size 36 #[.int .i64 x.kind, .int .i64 x.at_.r, .int .i64 x.at_.l, .int .i64 x.at_.p, .slice x.k.a x.k.n x.k.cap, .slice x.v.a x.v.n x.v.cap] := by rw [← hwA]; exact box_new _ _ _
      have hBA : Below wr.heap.size wr wA := by rw [← hwA]; exact (Below.refl _ _).alloc (Nat.le_refl _) _
      have HIA := Lib.hid (HI.out.to hBA)
      have a0 : wA.cell? ⟨wr.heap.size, 0, none⟩ = some (.int .i64 x.kind) := XA.cell 0
      have a1 : wA.cell? ⟨wr.heap.size, 1, none⟩ = some (.int .i64 x.at_.r) := XA.cell 1
      have a2 : wA.cell? ⟨wr.heap.size, 2, none⟩ = some (.int .i64 x.at_.l) := XA.cell 2
      have a3 : wA.cell? ⟨wr.heap.size, 3, none⟩ = some (.int .i64 x.at_.p) := XA.cell 3
      have a4 : wA.cell? ⟨wr.heap.size, 4, none⟩ = some (.slice x.k.a x.k.n x.k.cap) := XA.cell 4
      have a5 : wA.cell? ⟨wr.heap.size, 5, none⟩ = some (.slice x.v.a x.v.n x.v.cap) := XA.cell 5
      have HXI : Hid (Act12.In wA x) := Lib.hid (HXin0.out.below HIA.out.bel)
      clear hwA XA hBA hB d0 d1 d2 d3 d4 d5
      by_cases hk1 : 100 < x.k.n
      · --<D
        have hk2 : decide ((100 : Int) < (x.k.n : Int)) = true := by simp; omega
        go_wp2
        go_ret
        exact ⟨rfl, HIA.out.bel⟩
        -->D
      by_cases hv1 : 100 < x.v.n
      · --<E
        have hk2 : decide ((100 : Int) < (x.k.n : Int)) = false := by simp; omega
        have hv2 : decide ((100 : Int) < (x.v.n : Int)) = true := by simp; omega
        go_wp2
        go_ret
        exact ⟨rfl, HIA.out.bel⟩
        -->E
      have hk2 : decide ((100 : Int) < (x.k.n : Int)) = false := by simp; omega
      have hv2 : decide ((100 : Int) < (x.v.n : Int)) = false := by simp; omega
      go_upto_block 2 with (fail)
      go_cut [78] from 76 to 100 (fun v78 wx => ∃ L', Hid (Stay w sb mb kv vv (i + 1) L' wx))
      case first =>
        by_cases hkd : x.kind = 0
        · have hkd2 : (x.kind == 0) = true := by simpa using hkd
          clear hkd
          have hP := put12 HIA.out.st ⟨x.at_.r, x.at_.l, x.at_.p, x.k.v, x.v.v⟩ x.k x.v (rowsE_mk HXI.out.2.2.1 HXI.out.2.2.2 (by omega) (by omega)) ⟨HXI.out.2.1.1, HXI.out.2.1.2.1, HXI.out.2.1.2.2⟩
          obtain ⟨res, hres⟩ : ∃ res, putE 50 L ⟨x.at_.r, x.at_.l, x.at_.p, x.k.v, x.v.v⟩ = res := ⟨_, rfl⟩
          have HRES := Lib.hid hres
          rw [hres] at hP
          unfold spotV at hP
          simp only at hP
          clear hres
          go_wp2_with (refine hP.mono ?_)
          (first | rintro e wx rfl hS hg | rintro e wx ⟨rfl, hS, hg⟩)
          have HN : Hid (Stay w sb mb kv vv (i + 1) res.2 wx) := Lib.hid (by
            rw [← HRES.out] at hS ⊢
            exact HIA.out.put hS hg)
          clear hS hg hP a0 a1 a2 a3 a4 a5
          go_wp2
          go_meet
          case rel => exact ⟨_, HN⟩
        · have hkd2 : (x.kind == 0) = false := by simpa using hkd
          by_cases hk3 : x.kind = 1
          · have hk4 : (x.kind == 1) = true := by simpa using hk3
            clear hkd hk3
            by_cases hr3 : x.at_.r = 3
            · have hr4 : (x.at_.r != 3) = false := by simpa using hr3
              have HN := Lib.hid HIA.out.up
              clear hr3
              go_wp2
              go_meet
              case rel => exact ⟨_, HN⟩
            · have hr4 : (x.at_.r != 3) = true := by simpa using hr3
              have HR3 := Lib.hid hr3
              clear hr3
              have cD := drop12 (w := wA.alloc (.cells #[.int .i64 x.at_.r] 3)) (HIA.out.to ((Below.refl _ _).alloc (Nat.le_refl _) _)).st (a := some ⟨wA.heap.size, 0, none⟩) (c := 1) (lit64 rfl HXI.out.2.1.1)
              go_wp2_with (refine cD.mono ?_)
              (first | rintro e wx rfl hS hg | rintro e wx ⟨rfl, hS, hg⟩)
              have HN : Hid (Stay w sb mb kv vv (i + 1) _ wx) := Lib.hid ((HIA.out.to ((Below.refl _ _).alloc (Nat.le_refl _) _)).drop HR3.out hS hg)
              clear hS hg cD a0 a1 a2 a3 a4 a5
              go_wp2
              go_meet
              case rel => exact ⟨_, HN⟩
          · have hk4 : (x.kind == 1) = false := by simpa using hk3
            have HN := Lib.hid HIA.out.up
            clear hkd hk3
            go_wp2
            go_meet
            case rel => exact ⟨_, HN⟩
      case rest =>
        obtain ⟨L', HC⟩ := hcut
        clear HI HIA HXI HXin0 a0 a1 a2 a3 a4 a5 hk2 hv2
        have cS := spot_call 3 1 0 wc
        have HW : Hid (w64 3 ∧ w64 1 ∧ w64 0) := Lib.hid ⟨w64_bd.2 (by simp), w64_bd.2 (by simp), w64_bd.2 (by simp)⟩
        unfold spotV at cS
        go_wp2_with (refine cS.mono ?_)
        (first | rintro e ws rfl hb | rintro e ws ⟨rfl, hb⟩)
        have HBs := Lib.hid hb
        have cG := get12 (HC.out.to hb).st HW.out.1 HW.out.2.1 HW.out.2.2
        unfold GetR spotV at cG
        rw [HC.out.is.1, HC.out.is.2.1, HC.out.is.2.2] at cG
        clear hb cS
        go_wp2_with (refine cG.mono ?_)
        rintro e wG ⟨⟨⟨ga, gn, gc, gl⟩, ⟨ha, hn, hc, hl⟩, rfl, hgi, hhi, hgv, hhv, hga, hha, -, htg, hth⟩, hbG⟩
        obtain rfl : gl = kv := hgv
        obtain rfl : hl = vv := hhv
        have hbc : Below wc.heap.size wc wG := below_two HBs.out hbG
        have hbw : Below w.heap.size w wG := HC.out.bel.trans (hbc.mono HC.out.bel.size)
        have h0 := H0.out.below hbw
        have h1 := H1.out.below hbw
        obtain rfl : gn = vn := hgi.1.1.symm.trans h0.1.1
        obtain rfl : hn = gn := hhi.1.1.symm.trans h1.1.1
        have cB1 := bytes_yesB ga ka hn gc kcap gl wG hgi.1 h0.1
        have cB2 := fun W (hW : Below wG.heap.size wG W) => bytes_yesB ha va hn hc vcap hl W (hhi.1.below hW) (h1.1.below hW)
        have HP : Hid (Op8 wG ga hn ∧ Op8 wG ha hn) := Lib.hid ⟨op8_of hgi (fun _ => htg), op8_of hhi (fun _ => hth)⟩
        have HAD : Hid ((∀ x, ga = some x → wc.heap.size ≤ x.block) ∧ ∀ x, ha = some x → wc.heap.size ≤ x.block) := Lib.hid ⟨fun x hx => Nat.le_trans HBs.out.size (hga x hx), fun x hx => Nat.le_trans HBs.out.size (hha x hx)⟩
        have HBC := Lib.hid hbc
        clear hgi hhi hga hha htg hth hbG cG hbc hbw h0 h1 HBs
        go_wp2_with (refine cB1.mono ?_)
        (first | rintro e wg1 rfl hb | rintro e wg1 ⟨rfl, hb⟩)
        have HB1 := Lib.hid hb
        have cB3 := cB2 _ hb
        clear hb cB1 cB2
        go_wp2_with (refine cB3.mono ?_)
        (first | rintro e wg2 rfl hb | rintro e wg2 ⟨rfl, hb⟩)
        have hb2 := below_two HB1.out hb
        have HP2 : Hid (Op8 wg2 ga hn ∧ Op8 wg2 ha hn ∧ Below wc.heap.size wc wg2) := Lib.hid ⟨HP.out.1.bel hb2, HP.out.2.bel hb2, below_two HBC.out hb2⟩
        clear hb hb2 cB3 HP HB1 HBC
        go_upto_region 22 with (fail)
        go_loopw [14] (fun jv wx => ∃ j : Nat, j ≤ hn ∧ jv = .int .i64 j ∧ Hid (Op8 wx ga hn ∧ Op8 wx ha hn ∧ Below wc.heap.size wc wx)) (fun jv _ => hn - (intOf jv).toNat)
        case atStart => exact ⟨0, by omega, rfl, HP2⟩
        case round =>
          obtain ⟨j, hj, rfl, HJ⟩ := hrel
          clear HP2
          by_cases hjl : j < hn
          · --<F
            have hjl2 : (j : Int) < (hn : Int) := by omega
            have hj1 : IntKind.i64.wrap ((j : Int) + 1) = ((j + 1 : Nat) : Int) := by rw [IntWalk.i64_in _ (by omega)]; rfl
            obtain ⟨g1, o1, z1, e1, x1, f1⟩ := HJ.out.1.at_ hjl
            have h2 := HJ.out.2.1.set g1 (o1 + j) 0
            obtain ⟨g2, o2, z2, e2, x2, f2⟩ := h2.at_ hjl
            have HN : Hid (Op8 ((wr.setCell ⟨g1, o1 + j, none⟩ (.int .i8 0)).setCell ⟨g2, o2 + j, none⟩ (.int .i8 0)) ga hn ∧ Op8 ((wr.setCell ⟨g1, o1 + j, none⟩ (.int .i8 0)).setCell ⟨g2, o2 + j, none⟩ (.int .i8 0)) ha hn ∧ Below wc.heap.size wc ((wr.setCell ⟨g1, o1 + j, none⟩ (.int .i8 0)).setCell ⟨g2, o2 + j, none⟩ (.int .i8 0))) := Lib.hid
              ⟨(HJ.out.1.set _ _ _).set _ _ _, h2.set _ _ _, (HJ.out.2.2.setCell (p := ⟨g1, o1 + j, none⟩) (show wc.heap.size ≤ g1 from HAD.out.1 _ e1) _).setCell (p := ⟨g2, o2 + j, none⟩) (show wc.heap.size ≤ g2 from HAD.out.2 _ e2) _⟩
            subst e1
            subst e2
            clear h2
            go_wp2
            go_roundw
            case rel => exact ⟨j + 1, by omega, rfl, HN⟩
            case measure => simp [intOf]; omega
            -->F
          · obtain rfl : j = hn := by omega
            --<G
            have cL := line12 (HC.out.to HJ.out.2.2).st HW.out.1 HW.out.2.1
            have HJB := Lib.hid HJ.out.2.2
            clear hjl HJ
            go_wp2_with (with_reducible refine cL.mono ?_)
            rintro e wL ⟨⟨n, a, b2, c, d, ks, vs, rfl, hN, hnL, hks, -, hval, hnew, -, hth⟩, hbL⟩
            have hn0 : 0 < n := by
              rcases Nat.eq_zero_or_pos n with e | e
              · subst e
                have h1 := hN.2
                have h2 := HC.out.is.2.2
                rw [show (((0 : Nat) : Int)) = 0 from rfl, h2] at h1
                cases h1
              · exact e
            obtain ⟨kb, ko, ⟨qa, qn, qc, ql⟩, rfl, -, hkc, hkq, hqi⟩ := hks.at_ hn0
            have hql : ql = gl := by
              have h1 := (hval 0 hn0).1
              rw [hkq.out] at h1
              exact h1.trans HC.out.is.1
            subst hql
            have hbw : Below w.heap.size w wL := HC.out.bel.trans ((below_two HJB.out hbL).mono HC.out.bel.size)
            have h0 := H0.out.below hbw
            obtain rfl : qn = j := hqi.1.1.symm.trans h0.1.1
            have hmem : (⟨qa, qn, qc, ql⟩ : Rw) ∈ ks := by
              rw [← hkq.out, List.getD_eq_getElem?_getD, List.getElem?_eq_getElem (by rw [hks.1]; exact hn0)]
              exact List.getElem_mem _
            have HQ : Hid (Op8 wL qa qn ∧ wL.cell? ⟨kb, ko, none⟩ = some (.slice qa qn qc)) := Lib.hid ⟨op8_of hqi (hth _ hmem), hkc⟩
            have HQA : Hid (∀ x, qa = some x → wc.heap.size ≤ x.block) := Lib.hid (fun x hx => Nat.le_trans HJB.out.size (hnew _ hmem x hx))
            have HBL := Lib.hid (below_two HJB.out hbL)
            have cB1 := bytes_yesB qa ka qn qc kcap ql wL hqi.1 h0.1
            have hnb : ¬ n < 1 := by omega
            have hkc0 : wL.cell? ⟨kb, ko, none⟩ = some (.slice qa qn qc) := hkc
            clear cL hN hks hval hnew hth hbL hkc hkq hqi hbw h0 hmem HJB
            have hnbd : decide ((n : Int) < 1) = false := by simp; omega
            go_wp2_with (with_reducible refine cB1.mono ?_)
            (first | rintro e wM rfl hb | rintro e wM ⟨rfl, hb⟩)
            have HP3 : Hid (Op8 wM qa qn ∧ wM.cell? ⟨kb, ko, none⟩ = some (.slice qa qn qc) ∧ Below wc.heap.size wc wM) := Lib.hid ⟨HQ.out.1.bel hb, (hb.cell (p := ⟨kb, ko, none⟩) (World.block_lt_of_cell? _ _ HQ.out.2)).trans HQ.out.2, below_two HBL.out hb⟩
            clear hb cB1 hkc0 HQ HBL hnbd
            go_upto_region 29 with (fail)
            go_loopw [17] (fun jv wx => ∃ m : Nat, m ≤ qn ∧ jv = .int .i64 m ∧ Hid (Op8 wx qa qn ∧ wx.cell? ⟨kb, ko, none⟩ = some (.slice qa qn qc) ∧ Below wc.heap.size wc wx)) (fun jv _ => qn - (intOf jv).toNat)
            case atStart => exact ⟨0, by omega, rfl, HP3⟩
            case round =>
              obtain ⟨m, hm, rfl, HJ⟩ := hrel
              clear HP3
              by_cases hml : m < qn
              · --<H
                have hml2 : (m : Int) < (qn : Int) := by omega
                have hm1 : IntKind.i64.wrap ((m : Int) + 1) = ((m + 1 : Nat) : Int) := by rw [IntWalk.i64_in _ (by omega)]; rfl
                obtain ⟨g1, o1, z1, e1, y1, f1⟩ := HJ.out.1.at_ hml
                have k0 := HJ.out.2.1
                have HN : Hid (Op8 (wr.setCell ⟨g1, o1 + m, none⟩ (.int .i8 9)) qa qn ∧ (wr.setCell ⟨g1, o1 + m, none⟩ (.int .i8 9)).cell? ⟨kb, ko, none⟩ = some (.slice qa qn qc) ∧ Below wc.heap.size wc (wr.setCell ⟨g1, o1 + m, none⟩ (.int .i8 9))) := Lib.hid
                  ⟨HJ.out.1.set _ _ _, slice_set k0 y1, HJ.out.2.2.setCell (p := ⟨g1, o1 + m, none⟩) (show wc.heap.size ≤ g1 from HQA.out _ e1) _⟩
                subst e1
                go_wp2
                go_roundw
                case rel => exact ⟨m + 1, by omega, rfl, HN⟩
                case measure => simp [intOf]; omega
                -->H
              · obtain rfl : m = qn := by omega
                have HN := Lib.hid (HC.out.to HJ.out.2.2)
                clear hml
                go_wp2
                go_roundw
                case rel => exact ⟨i + 1, L', by omega, rfl, HN⟩
                case measure => simp [intOf]; omega
            -->G
    · obtain rfl : i = xn := by omega
      have hfl : ∀ q : Int, (L.filter fun x => !(x.r == q)).length ≤ L.length := fun q => List.length_filter_le _ _
      have hroom := HI.out.st.room
      have hfs : (L.filter fun x => !(x.r == 3)).length + 1 ≤ L.length := drops_some HI.out.mem rfl
      have hN1 : ∃ N : Nat, (L.length : Int) - ((L.filter fun x => !(x.r == 3)).length : Int) = (N : Int) ∧ 1 ≤ N := ⟨L.length - (L.filter fun x => !(x.r == 3)).length, by omega, by omega⟩
      obtain ⟨N, hN, hN2⟩ := hN1
      have cD := drop12 (w := wr.alloc (.cells #[.int .i64 3] 3)) (HI.out.to ((Below.refl _ _).alloc (Nat.le_refl _) _)).st (a := some ⟨wr.heap.size, 0, none⟩) (c := 1) (lit64 rfl (w64_bd.2 (by simp)))
      rw [hN] at cD
      have hge : decide ((1 : Int) ≤ (N : Int)) = true := by simp; omega
      have HBr := Lib.hid HI.out.bel
      have HLN := Lib.hid HI.out.len
      have HM2 := Lib.hid HI.out.mb
      clear hfl hroom hfs hN hlt
      go_wp2_with (with_reducible refine cD.mono ?_)
      (first | rintro e wx rfl hS hg | rintro e wx ⟨rfl, hS, hg⟩)
      have cR := reqs12 hS
      have HBx : Hid (Below w.heap.size w wx) := Lib.hid ((HBr.out.alloc HBr.out.size _).grown hg (by have := HBr.out.size; simp; omega) (fun j hj => by cases hj; exact HM2.out))
      clear hS hg cD
      go_wp2_with (with_reducible refine cR.mono ?_)
      rintro e wy ⟨⟨a, n, c, zs, rfl, -, -, -, hn⟩, hb⟩
      have HNX : Hid (n ≤ i) := Lib.hid (by have := HLN.out; omega)
      have HBy := Lib.hid (below_two HBx.out hb)
      clear hn hb cR
      go_wp2
      go_ret
      exact ⟨ret_bool (decide_eq_true HNX.out), HBy.out⟩

set_option maxRecDepth 100000 in
theorem lifted (os : Os) (started : os.Started) (H : Type) (enc : TypeId × Value → H) :
    ReturnsInHanded {} Try.checked os 4 .any (Rows.cacheStaysSpec.pre6 enc Try.prog Try.f4 Rows.cacheStaysRow.domain false) (Rows.cacheStaysSpec.post enc Try.prog Try.f4 false true false false) := by
  refine returnsInHanded_of_change (C := Try.checked) own started (by kernel_rfl) Try.func4
    (ChangeSpec.witness6 (enc := enc) (C := Try.checked) false ⟨#[], #[.slice none 0 0, .slice none 0 0, .slice none 0 0], []⟩ 8 (by kernel_rfl) (by kernel_rfl) (by kernel_rfl) (by kernel_rfl)) ?_
  intro W base args ds gs before hval0 hW hcnd _
  have hval : ∀ (j : Nat) t v, Try.f4.params[j]? = some t → args[j]? = some v → Value.okWide Try.prog W .any base t v := hval0
  have hW' := hW
  obtain ⟨p, q, hA0, hV, rfl, hfz, hnd⟩ := hW
  have hA : DataW.TrodAll enc Try.prog W 0 (fun _ => true) true Try.f4.params.toList args.toList ds p := hA0
  rw [Try.params4] at hA hval
  obtain ⟨v0, vs0, d0, ds0, p0, q0, hargs, rfl, rfl, h0, r0⟩ := trodAll_cons hA
  obtain ⟨v1, vs1, d1, ds1, p1, q1, rfl, rfl, rfl, h1, r1⟩ := trodAll_cons r0
  obtain ⟨v2, vs2, d2, ds2, p2, q2, rfl, rfl, rfl, h2, r2⟩ := trodAll_cons r1
  obtain ⟨rfl, rfl, rfl⟩ := trodAll_nil r2
  obtain rfl : args = #[v0, v1, v2] := by cases args; simp_all
  obtain ⟨rfl, rfl⟩ := trodVars_none hV
  have k0 := h0
  have lt0 : ∀ x ∈ p0, x.block < W.heap.size := by obtain ⟨m, hm⟩ := k0; exact DataW.trod_lt m _ _ _ hm
  obtain ⟨q0, rfl, w0⟩ := open_rw Try.underlying34 Try.underlying39 (by kernel_rfl) (hval 0 34 v0 rfl rfl) h0
  have k1 := h1
  have lt1 : ∀ x ∈ p1, x.block < W.heap.size := by obtain ⟨m, hm⟩ := k1; exact DataW.trod_lt m _ _ _ hm
  obtain ⟨q1, rfl, w1⟩ := open_rw Try.underlying34 Try.underlying39 (by kernel_rfl) (hval 1 34 v1 rfl rfl) h1
  have k2 := h2
  have lt2 : ∀ x ∈ p2, x.block < W.heap.size := by obtain ⟨m, hm⟩ := k2; exact DataW.trod_lt m _ _ _ hm
  obtain ⟨x2, rfl, w2⟩ := open_rowAct12 (hval 2 22 v2 rfl rfl) h2
  clear hA0 hval0
  refine (walk q0 q1 x2 W w0 w1 w2).mono fun e W' ⟨he, bel⟩ => ?_
  subst he
  exact ⟨_, rfl, _, _, _, [], _, [], hW', trodAll_mk1 (shut_bool Try.underlying4 _), (trodAll_cons_mk (Below.trod laidOut (by kernel_rfl) (of_decide_eq_true (by kernel_rfl)) k0 bel lt0) (trodAll_cons_mk (Below.trod laidOut (by kernel_rfl) (of_decide_eq_true (by kernel_rfl)) k1 bel lt1) (trodAll_cons_mk (Below.trod laidOut (by kernel_rfl) (of_decide_eq_true (by kernel_rfl)) k2 bel lt2) trodAll_mk0))), rfl, bel.frame _, fun h => by cases h⟩

theorem over : Rows.cacheStaysRow.holds Try.pinned (OpenSpec.ofChange Rows.cacheStaysSpec) :=
  OpenClaim.holds_of_wide 4 Try.f4 rfl rfl rfl rfl rfl rfl rfl ⟨rfl, rfl, rfl, rfl, rfl⟩ rfl rfl rfl rfl rfl (by kernel_rfl) Try.func4 (by kernel_rfl)
    (of_decide_eq_true (by kernel_rfl)) (by unfold Func.isWrapper; first | (rw [if_pos (by decide +kernel)]; kernel_rfl) | (rw [if_neg (by decide +kernel)]; exact ⟨rfl, rfl⟩))
    (fun os started H enc _ => lifted os started H enc)

/-- ████ THE STATEMENT ████ -/
theorem proved : Rows.CacheStaysSaid := over
#print axioms proved
end Go.Proofs.Ytolmejaedldeeaa.cacheStays
