/-
  Proved: for any small model and lists of tokens ModelFeeds returns true (call by call the weights, errors and places are the document's, and what is kept is too; more than 8 calls and calls of more than 20 tokens are let go) and nothing that was in memory turns. No condition beside the row's own on the two tables.
-/
import Derived.Test.YtoeihigdndkjeaaGreatDoorRows
import Derived.WalkKit
import Derived.ProofKit
import Derived.OpenShut
import Derived.ShutString
import Derived.ChangeOld
import Derived.Below
import Derived.Test.YtoeihigdndkjeaaGreatDoorJ05
import Derived.Test.YtoeihigdndkjeaaGreatDoorJ04
import Derived.Test.YtoeihigdndkjeaaGreatDoorTie
import Derived.Test.YtoeihigdndkjeaaGreatDoorCards
import Derived.SevenTiedAt
import Derived.Test.YtoeihigdndkjeaaGreatDoorJ32
import Derived.Test.YtoeihigdndkjeaaGreatDoorJ36
import Derived.Test.YtoeihigdndkjeaaGreatDoorJ35
namespace Go.Proofs.YtoeihigdndkjeaaGreatDoor.modelFeeds
open Go.ChangeShapes Go.WideShapes Go.ChangeAt Go.RowKit
open Go.ChangeMaps (open_string shut_string)
set_option linter.unusedVariables false

theorem own : ownKnob Tryz.prog.godebug = none := by kernel_rfl
theorem laidOut : laidOutB Tryz.prog = true := by kernel_rfl

set_option maxHeartbeats 32000000 in
set_option maxRecDepth 100000 in
theorem walk (sl0 sw0 sh0 si0 sv0 sp0 sd0 : Int) (q0 : Rw) (a1 : Option Addr) (n1 cap1 : Nat) (qs1 : List Rw) (w : World) (h0 : Six sl0 sw0 sh0 si0 sv0 sp0 ∧ (Lit.int .u64 sd0).wf = true ∧ q0.In .i8 w) (h1 : Rws .i64 w a1 n1 qs1 ∧ n1 ≤ cap1 ∧ cap1 ≤ 9223372036854775807 ∧ Sl a1 cap1) (hT : Tabs9 w) :
    Calls Tryz.prog 3 #[.agg #[.int .i64 sl0, .int .i64 sw0, .int .i64 sh0, .int .i64 si0, .int .i64 sv0, .int .i64 sp0, .int .u64 sd0, .slice q0.a q0.n q0.cap], .slice a1 n1 cap1] w fun e w' => e = .returned (.bool true) ∧ Below w.heap.size w w' := by
  obtain ⟨-, hsd, hq0⟩ := h0
  obtain ⟨sd, rfl, hsd2⟩ : ∃ k : Nat, sd0 = (k : Int) ∧ k < 18446744073709551616 := by
    have := wfu64 hsd
    exact ⟨sd0.toNat, by omega, by omega⟩
  obtain ⟨hR1, hcn1, hcx1, -⟩ := h1
  clear hsd
  have B1 : ∀ (U : World) (o : Obj), Below U.heap.size U (U.alloc o) := fun U o => (Below.refl _ _).alloc (Nat.le_refl _) o
  have HQ1 := Lib.hid hR1
  have HQ0 := Lib.hid hq0
  have HT := Lib.hid hT
  have hq3 := hq0.2.1
  have hq4 := hq0.2.2.1
  clear hR1 hq0 hT
  go_enter Tryz.func3, Tryz.ntmps3
  go_upto_region 1 with (fail)
  generalize hwa : World.alloc _ _ = wa
  have XS : Box wa w.heap.size 26 #[.int .i64 sl0, .int .i64 sw0, .int .i64 sh0, .int .i64 si0, .int .i64 sv0, .int .i64 sp0, .int .u64 sd, .slice q0.a q0.n q0.cap] := by rw [← hwa]; exact box_new _ _ _
  have HB : Below w.heap.size w wa := by rw [← hwa]; exact (Below.refl _ _).alloc (Nat.le_refl _) _
  clear hwa
  have cA := awake8 wa (HT.out.bel HB)
  have HXS := Lib.hid XS
  have HBA := Lib.hid HB
  clear XS HB
  by_cases hn : n1 ≤ 8 ∧ q0.n ≤ 2000
  · obtain ⟨hn1, hn2⟩ := hn
    go_wp2_with fail
    refine cA.mono ?_
    rintro e wb ⟨rfl, hb⟩
    have HXSb := Lib.hid (HXS.out.bel hb)
    have HBb := Lib.hid (below_two HBA.out hb)
    clear cA hb HXS HBA
    have z0 : wb.cell? ⟨w.heap.size, 0, none⟩ = some (.int .i64 sl0) := HXSb.out.cell 0
    have z1 : wb.cell? ⟨w.heap.size, 1, none⟩ = some (.int .i64 sw0) := HXSb.out.cell 1
    have z2 : wb.cell? ⟨w.heap.size, 2, none⟩ = some (.int .i64 sh0) := HXSb.out.cell 2
    have z3 : wb.cell? ⟨w.heap.size, 3, none⟩ = some (.int .i64 si0) := HXSb.out.cell 3
    have z4 : wb.cell? ⟨w.heap.size, 4, none⟩ = some (.int .i64 sv0) := HXSb.out.cell 4
    have z5 : wb.cell? ⟨w.heap.size, 5, none⟩ = some (.int .i64 sp0) := HXSb.out.cell 5
    have z6 : wb.cell? ⟨w.heap.size, 6, none⟩ = some (.int .u64 sd) := HXSb.out.cell 6
    have z7 : wb.cell? ⟨w.heap.size, 7, none⟩ = some (.slice q0.a q0.n q0.cap) := HXSb.out.cell 7
    have cM := made8 sl0 sw0 sh0 si0 sv0 sp0 sd hsd2 q0 wb (HQ0.out.below HBb.out) hn2
    have hwb := HBb.out.size
    go_wp2_with fail
    refine cM.mono ?_
    rintro e wc ⟨⟨m, rr, s, W, V, rfl, hm0, hrr0, hXR, hM⟩, hb⟩
    have HM := Lib.hid hM
    have HXR := Lib.hid hXR
    have HBc := Lib.hid (below_two HBb.out hb)
    have hwc := hb.size
    have hp12 : s.p ≤ 12 := hM.p12
    have OK := Lib.hid hM.tiny.1
    have bd := hM.tiny.1.bd
    have hv512 : s.v ≤ 512 := bd.2.2.2.2.1.2
    have hl1 : 1 ≤ s.l := bd.1.1
    have hw128 : s.w ≤ 128 := bd.2.2.1.2
    have hl3 : s.l ≤ 3 := hM.tiny.2.1
    have HSIX := Lib.hid hM.six
    have HWT := Lib.hid hM.whole
    have HSAME := Lib.hid hM.same
    have cR := run8 m s V wc hM.mod (fun _ _ => ([], []))
    clear cM hb hM hXR HXSb HBb z0 z1 z2 z3 z4 z5 z6 z7 bd
    go_wp2_with fail
    refine cR.mono ?_
    rintro e wd ⟨⟨r, mb, rfl, d11, d12, d13, hRR⟩, hb⟩
    have hBd := below_two HBc.out hb
    have P0 : PairS w wd r m mb rr (.slice none 0 0) s W V [] [] := ⟨⟨0, ⟨hRR, HM.out.mod.bel hb, (HT.out.bel hBd).1, (HT.out.bel hBd).2.1⟩, by simp⟩, docS_new (HXR.out.bel hb) (HM.out.inn.bel hb), hBd, by omega, by omega, by omega, by intro g hg; cases hg⟩
    have HP0 := Lib.hid P0
    have hlen0 : ([] : List Int).length ≤ s.p := by simp
    clear cR hb hBd P0 hRR HM HXR HBc d11 d12 d13
    go_wp2_with fail
    go_loopw [8] (fun i wr => ∃ (k : Nat) (fed : List Int) (lv : Value), k ≤ n1 ∧ i = .int .i64 k ∧ fed.length ≤ s.p ∧ Hid (PairS w wr r m mb rr lv s W V fed fed)) (fun i _ => n1 - (intOf i).toNat)
    case atStart => exact ⟨0, [], _, by omega, rfl, hlen0, HP0⟩
    case round =>
      clear HP0 hlen0
      obtain ⟨k, fed, lv, hk, rfl, hfp, HP⟩ := hrel
      by_cases hlt : k < n1
      · obtain ⟨bq, oq, q, rfl, hbl, hcq, HX, hqi⟩ := (HQ1.out.below HP.out.bel).at_ hlt
        have hq1 := hqi.2.1
        have hq2 := hqi.2.2.1
        by_cases h20 : 20 < q.n
        · go_wp2
          go_ret
          exact ⟨rfl, HP.out.bel⟩
        · have hqw : Hid (q.In .i64 w) := Lib.hid (by
            obtain ⟨_, _, q', e1, _, _, HX', hqi'⟩ := HQ1.out.at_ hlt
            have e2 := HX.out
            rw [HX'.out] at e2
            rw [← e2]
            exact hqi')
          have hqlt : Hid (0 < q.n → ∀ b o, q.a = some ⟨b, o, none⟩ → b < w.heap.size) := Lib.hid (fun h0 b o e => by
            obtain ⟨b', o', ha, hc⟩ := hqw.out.1.2.2.2 h0
            have h9 := World.block_lt_of_cell? _ _ (hc 0 h0)
            rw [e] at ha
            cases ha
            exact h9)
          have cC := feedX r m mb q.n q.cap s OK.out V fed q.v wr HP.out.run (by omega) hfp q.a hqi.1 (by omega) (fun h0 b o e => by have := hqlt.out h0 b o e; have := HP.out.hr; have := HP.out.hmb; omega)
          obtain ⟨f, hf⟩ : ∃ f, faultO s fed.length q.v = f := ⟨_, rfl⟩
          obtain ⟨fed2, hfe⟩ : ∃ fed2, onF s fed q.v = fed2 := ⟨_, rfl⟩
          obtain ⟨ys, hys⟩ : ∃ ys, ansF s (V.nums s) fed q.v = ys := ⟨_, rfl⟩
          have hfp2 : fed2.length ≤ s.p := by rw [← hfe]; exact onF_le hfp
          rw [hf, hfe, hys] at cC
          clear hqi hq1 hq2
          go_upto_region 12 with (fail)
          go_wp2_with fail
          refine cC.mono ?_
          rintro e wx ⟨⟨v, rfl, hAns, hE⟩, haw⟩
          have HPx := Lib.hid (HP.out.code haw hE)
          have HAx := Lib.hid hAns
          obtain ⟨_, _, q', e1, _, hcx, HX', hqx⟩ := (HQ1.out.below HPx.out.bel).at_ hlt
          cases e1
          have e2 := HX.out
          rw [HX'.out] at e2
          subst e2
          have cD := feedDX oneC rr q'.n q'.cap lv s OK.out W fed q'.v wx HPx.out.doc HSIX.out HWT.out (by omega) hfp q'.a hqx.1 (by omega) (fun h0 b o e => by have := hqlt.out h0 b o e; have := HPx.out.hrr; omega)
          rw [hf, hfe, show ansF s (W.nums s) fed q'.v = ys by rw [← hys, HSAME.out]] at cD
          clear cC hE haw HP hAns hqx HX HX' hcq hf hfe hys
          go_wp2_with fail
          refine cD.mono ?_
          rintro e wy ⟨⟨v2, lv2, rfl, hAns2, hD, hlv⟩, haw⟩
          have HPy := Lib.hid (HPx.out.docS haw hD hlv)
          have HAy := Lib.hid (HAx.out.stays (HPx.out.doc.stays HPy.out.doc.box haw))
          have HA2 := Lib.hid hAns2
          obtain ⟨la, lc, hlvf⟩ := HPy.out.doc.lvf
          subst hlvf
          obtain ⟨va, vc, rfl, hv1⟩ := HAy.out
          obtain ⟨ua, uc, rfl, hu1⟩ := HA2.out
          have hbd : Below wy.heap.size wy wy.drew := (Below.refl _ _).drew
          have cI := intsB va ua ys.length vc uc ys wy.drew (hv1.below hbd) (hu1.below hbd)
          have cP := fun (U : World) (hU : Below wy.heap.size wy U) => placeE r m mb fed2.length s V fed2 U (HPy.out.run.bel hU) rfl
          have k14 : wy.drew.cell? ⟨rr, 14, none⟩ = some (.slice la fed2.length lc) := (HPy.out.doc.bel hbd).box.cell 14
          have hff : (f != f) = false := by simp
          clear cD hAns2 hD hlv haw HPx HAx HAy HA2 hv1 hu1
          go_upto_region 14 with (fail)
          go_region_held3 (fun w' => w'.cell? ⟨rr, 14, none⟩ = some (.slice la fed2.length lc))
            (first | go_keep | assumption)
            (first
              | (go_at_call 13; (with_reducible refine cI.mono ?_); rintro e wi ⟨rfl, hbi⟩
                 have HBi := Lib.hid (below_two hbd hbi)
                 have k14i : wi.cell? ⟨rr, 14, none⟩ = some (.slice la fed2.length lc) := (HPy.out.doc.bel HBi.out).box.cell 14
                 clear hbi)
              | (go_at_call 14; (with_reducible refine (cP _ ?h9).mono ?_); (case h9 => exact HBi.out); rintro e wj ⟨rfl, rfl⟩))
          have HPz := Lib.hid (HPy.out.below HBi.out)
          clear cI cP k14 k14i HBi HPy hbd
          go_wp2
          go_roundw
          case rel => exact ⟨k + 1, fed2, _, by omega, by go_num, hfp2, HPz⟩
          case measure => simp [intOf]; omega
      · obtain rfl : k = n1 := by omega
        obtain ⟨L, hL⟩ : ∃ L, fed.length = L := ⟨_, rfl⟩
        obtain ⟨KF, hKF⟩ : ∃ KF, (runO (W.nums s) st09 (fed.map Int.toNat)).K = KF := ⟨_, rfl⟩
        have HKC : Hid ((runO (V.nums s) st09 (fed.map Int.toNat)).K = KF) := Lib.hid (by rw [← HSAME.out] at hKF; exact hKF)
        have HKD := Lib.hid hKF
        have HKL := Lib.hid hL
        have hL12 : L ≤ 12 := by omega
        obtain ⟨la, lc, hlf⟩ := HP.out.doc.lvf
        subst hlf
        rw [hL] at HP
        obtain ⟨wo, rfl⟩ : ∃ wo, wo = wr := ⟨_, rfl⟩
        clear hKF hL
        go_wp2_with fail
        go_loopw [13] (fun i wr => ∃ q : Nat, q ≤ L ∧ i = .int .i64 q ∧ Hid (PairS w wr r m mb rr (.slice la L lc) s W V fed fed)) (fun i _ => L - (intOf i).toNat)
        case atStart => exact ⟨0, by omega, rfl, HP⟩
        case round =>
          clear HP
          obtain ⟨q, hq, rfl, HP⟩ := hrel
          have k14 : wr.cell? ⟨rr, 14, none⟩ = some (.slice la L lc) := HP.out.doc.box.cell 14
          by_cases hqL : q < L
          · obtain ⟨lb, lc', e0⟩ : ∃ lb lc', Value.slice la L lc = .slice (some ⟨lb, 0, none⟩) L lc' := by
              obtain ⟨lb, lc', _, _, _, _, _, _, e0, _⟩ := HP.out.doc.spot (q := q) (l := 0) (by rw [HKL.out]; exact hqL) (by omega)
              rw [HKL.out] at e0
              exact ⟨lb, lc', e0⟩
            simp only [Value.slice.injEq, true_and] at e0
            obtain ⟨rfl, rfl⟩ := e0
            obtain ⟨wo2, rfl⟩ : ∃ wo2, wo2 = wr := ⟨_, rfl⟩
            go_wp2_with fail
            go_loopw [14] (fun i wr => ∃ l : Nat, l ≤ s.l ∧ i = .int .i64 l ∧ Hid (PairS w wr r m mb rr (.slice (some ⟨lb, 0, none⟩) L lc) s W V fed fed)) (fun i _ => s.l - (intOf i).toNat)
            case atStart => exact ⟨0, by omega, rfl, HP⟩
            case round =>
              clear HP k14
              obtain ⟨l, hl, rfl, HP⟩ := hrel
              have k14 : wr.cell? ⟨rr, 14, none⟩ = some (.slice (some ⟨lb, 0, none⟩) L lc) := HP.out.doc.box.cell 14
              obtain ⟨_, _, kb, kc, vb, vc, g, h, e1, c1, -⟩ := HP.out.doc.spot (q := q) (l := 0) (by rw [HKL.out]; exact hqL) (by omega)
              simp only [Value.slice.injEq, Option.some.injEq, Addr.mk.injEq, and_true] at e1
              obtain ⟨rfl, e2, rfl⟩ := e1
              clear e2
              by_cases hll : l < s.l
              · have cE := keptE r m mb l q s OK.out V fed wr HP.out.run hll (by rw [HKL.out]; exact hqL) (by rw [HKL.out]; omega)
                rw [HKC.out] at cE
                go_wp2_with fail
                refine cE.mono ?_
                rintro e wx ⟨⟨⟨ga, gn, gcap, gv⟩, ⟨ha, hn, hcap, hv⟩, rfl, gi, hi, gvv, hvv, gnn, hnn⟩, hb⟩
                simp only at gi hi gvv hvv gnn hnn
                subst gnn hnn gvv hvv
                have HPx := Lib.hid (HP.out.below hb)
                have HG := Lib.hid gi.1
                have HH := Lib.hid hi.1
                clear cE k14 c1 HP hb gi hi
                have k14 : wx.cell? ⟨rr, 14, none⟩ = some (.slice (some ⟨lb, 0, none⟩) L lc) := HPx.out.doc.box.cell 14
                obtain ⟨_, _, kb, kc, vb, vc, ⟨ja, jn, jcap, jv⟩, _, e1, c1, -, c3, -, ji, -, jnn, -, jvv, -⟩ := HPx.out.doc.spot (q := q) (l := l) (by rw [HKL.out]; exact hqL) hll
                simp only [Value.slice.injEq, Option.some.injEq, Addr.mk.injEq, and_true] at e1
                obtain ⟨rfl, e2, rfl⟩ := e1
                simp only at ji jnn jvv c3
                rw [HKD.out] at jvv
                subst jnn jvv
                have cB := bytesB ga ja s.w gcap jcap (KF l q).1 wx HG.out ji.1
                clear e2 ji
                go_wp2_with fail
                refine cB.mono ?_
                rintro e wy ⟨rfl, hb⟩
                have HPy := Lib.hid (HPx.out.below hb)
                have HHy := Lib.hid (HH.out.below hb)
                clear cB k14 c1 c3 HPx HG HH hb
                have k14 : wy.cell? ⟨rr, 14, none⟩ = some (.slice (some ⟨lb, 0, none⟩) L lc) := HPy.out.doc.box.cell 14
                obtain ⟨_, _, kb, kc, vb, vc, _, ⟨ja, jn, jcap, jv⟩, e1, -, c2, -, c4, -, ji, -, jnn, -, jvv⟩ := HPy.out.doc.spot (q := q) (l := l) (by rw [HKL.out]; exact hqL) hll
                simp only [Value.slice.injEq, Option.some.injEq, Addr.mk.injEq, and_true] at e1
                obtain ⟨rfl, e2, rfl⟩ := e1
                simp only at ji jnn jvv c4
                rw [HKD.out] at jvv
                subst jnn jvv
                have cB := bytesB ha ja s.w hcap jcap (KF l q).2 wy HHy.out ji.1
                clear e2 ji
                go_wp2_with fail
                refine cB.mono ?_
                rintro e wz ⟨rfl, hb⟩
                have HPz := Lib.hid (HPy.out.below hb)
                clear cB k14 c2 c4 HPy HHy hb
                go_wp2
                go_roundw
                case rel => exact ⟨l + 1, by omega, by go_num, HPz⟩
                case measure => simp [intOf]; omega
              · obtain rfl : l = s.l := by omega
                go_wp2
                go_roundw
                case rel => exact ⟨q + 1, by omega, by go_num, HP⟩
                case measure => simp [intOf]; omega
          · obtain rfl : q = L := by omega
            have hbn : W.bn = s.l := (wtB_yes HWT.out).2.2.2.1
            have cE := keptE_no r m mb 0 q s V fed wr HP.out.run (by omega) (by omega) (by rw [HKL.out]; omega)
            clear hbn
            go_wp2_with fail
            refine cE.mono ?_
            rintro e wx ⟨⟨g1, h1, rfl⟩, hb⟩
            have HPx := Lib.hid (HP.out.below hb)
            have k9 : wx.cell? ⟨rr, 9, none⟩ = some (.slice W.ba W.bn W.bcap) := HPx.out.doc.box.cell 9
            have hbn : W.bn = s.l := (wtB_yes HWT.out).2.2.2.1
            have cE := keptE_no r m mb W.bn 0 s V fed wx HPx.out.run (by omega) (by omega) (by omega)
            clear hbn k14 hb HP
            go_wp2_with fail
            refine cE.mono ?_
            rintro e wy ⟨⟨g2, h2, rfl⟩, hb⟩
            have HPy := Lib.hid (HPx.out.below hb)
            have cE := keptE_no r m mb (-1) 0 s V fed wy HPy.out.run (by omega) (by omega) (by omega)
            clear k9 hb HPx
            go_wp2_with fail
            refine cE.mono ?_
            rintro e wz ⟨⟨g3, h3, rfl⟩, hb⟩
            have HPz := Lib.hid (HPy.out.below hb)
            clear hb HPy cE
            go_wp2
            go_ret
            exact ⟨rfl, HPz.out.bel⟩
  · have hcase : 8 < n1 ∨ (n1 ≤ 8 ∧ 2000 < q0.n) := by omega
    clear hn
    rcases hcase with hn | ⟨hn, hn2⟩
    all_goals
      go_wp2_with fail
      refine cA.mono ?_
      rintro e wb ⟨rfl, hb⟩
      have HXSb := Lib.hid (HXS.out.bel hb)
      have z7 : wb.cell? ⟨w.heap.size, 7, none⟩ = some (.slice q0.a q0.n q0.cap) := HXSb.out.cell 7
      have HBb := Lib.hid (below_two HBA.out hb)
      have cA2 := awake8 wb (HT.out.bel HBb.out)
      clear cA hb HXS HBA
      go_wp2_with fail
      refine cA2.mono ?_
      rintro e wc ⟨rfl, hb⟩
      have HBc := Lib.hid (below_two HBb.out hb)
      clear cA2 hb z7
      go_wp2
      go_ret
      exact ⟨rfl, HBc.out⟩

set_option maxRecDepth 100000 in
theorem lifted (os : Os) (started : os.Started) (H : Type) (enc : TypeId × Value → H) :
    ReturnsInHanded {} Tryz.checked os 3 .any (fun w args => (Rows.modelFeedsSpec.pre enc Tryz.prog Tryz.f3 [] false w args ∧ laidMetH Tryz.prog laidList9 w) ∧ sizedMet enc Tryz.prog Tryz.f3 (OpenSpec.ofChange Rows.modelFeedsSpec) false w args) (Rows.modelFeedsSpec.post enc Tryz.prog Tryz.f3 false true false false) := by
  refine returnsInHanded_of_change_and (C := Tryz.checked) (X := fun w _ => laidMetH Tryz.prog laidList9 w) (fun _ _ _ hh h => h.of_heap hh) own started (by kernel_rfl) Tryz.func3
    (ChangeSpec.witness_shaped (enc := enc) (C := Tryz.checked) (os := os) (X := fun w _ => laidMetH Tryz.prog laidList9 w) false (World.doorLaid Tryz.prog 400 os) #[.agg #[.int .i64 0, .int .i64 0, .int .i64 0, .int .i64 0, .int .i64 0, .int .i64 0, .int .u64 0, .slice none 0 0], .slice none 0 0] 8 rfl (World.shaped_of_RefB (by kernel_rfl) (by kernel_rfl)) (by kernel_rfl) (by kernel_rfl) (by kernel_rfl) (door_met9 os _)) ?_
  intro W base args ds gs before hval0 hW _ _ hL _
  have hval : ∀ (j : Nat) t v, Tryz.f3.params[j]? = some t → args[j]? = some v → Value.okWide Tryz.prog W .any base t v := hval0
  have hW' := hW
  obtain ⟨p, q, hA0, hV, rfl, hfz, hnd⟩ := hW
  have hA : DataW.TrodAll enc Tryz.prog W 0 (fun _ => true) true Tryz.f3.params.toList args.toList ds p := hA0
  rw [Tryz.params3] at hA hval
  obtain ⟨v0, vs0, d0, ds0, p0, q0, hargs, rfl, rfl, h0, r0⟩ := trodAll_cons hA
  obtain ⟨v1, vs1, d1, ds1, p1, q1, rfl, rfl, rfl, h1, r1⟩ := trodAll_cons r0
  obtain ⟨rfl, rfl, rfl⟩ := trodAll_nil r1
  obtain rfl : args = #[v0, v1] := by cases args; simp_all
  obtain ⟨rfl, rfl⟩ := trodVars_none hV
  have k0 := h0
  have lt0 : ∀ x ∈ p0, x.block < W.heap.size := by obtain ⟨m, hm⟩ := k0; exact DataW.trod_lt m _ _ _ hm
  obtain ⟨xl0, xw0, xh0, xi0, xv0, xp0, sd0, q0, rfl, w0⟩ := open_seeds8 (hval 0 26 v0 rfl rfl) h0
  have k1 := h1
  have lt1 : ∀ x ∈ p1, x.block < W.heap.size := by obtain ⟨m, hm⟩ := k1; exact DataW.trod_lt m _ _ _ hm
  obtain ⟨a1, n1, cap1, qs1, rfl, w1⟩ := open_rws Tryz.underlying27 (by kernel_rfl) Tryz.underlying35 Tryz.underlying3 (by kernel_rfl) (hval 1 27 v1 rfl rfl) h1
  clear hA0 hval0
  have hT := tabs_of_laid hL
  refine (walk xl0 xw0 xh0 xi0 xv0 xp0 sd0 q0 a1 n1 cap1 qs1 W w0 w1 hT).mono fun e W' ⟨he, bel⟩ => ?_
  subst he
  exact ⟨_, rfl, _, _, _, [], _, [], hW', trodAll_mk1 (shut_bool Tryz.underlying4 _), (trodAll_cons_mk (Below.trod laidOut (by kernel_rfl) (of_decide_eq_true (by kernel_rfl)) k0 bel lt0) (trodAll_cons_mk (Below.trod laidOut (by kernel_rfl) (of_decide_eq_true (by kernel_rfl)) k1 bel lt1) trodAll_mk0)), rfl, bel.frame _, fun h => by cases h⟩

theorem over : Rows.modelFeedsRow.holds Tryz.pinned (OpenSpec.ofChange Rows.modelFeedsSpec) :=
  OpenClaim.holds_of_wide 3 Tryz.f3 rfl rfl rfl rfl rfl rfl rfl ⟨rfl, rfl, rfl, rfl, rfl⟩ rfl rfl rfl rfl rfl (by kernel_rfl) Tryz.func3 (by kernel_rfl)
    (of_decide_eq_true (by kernel_rfl)) (by unfold Func.isWrapper; first | (rw [if_pos (by decide +kernel)]; kernel_rfl) | (rw [if_neg (by decide +kernel)]; exact ⟨rfl, rfl⟩))
    (fun os started H enc _ => lifted os started H enc)

/-- the row's statement -/
theorem said : Rows.ModelFeedsSaid := over

/-- THE STATEMENT: the tied card -/
theorem proved : Rows.ModelFeedsCardSaid :=
  Claim7.holds_tied_plain_at .later [] [.data, .data] true (true, "9491c1b2270f2e0c101a760e0ee5449b3d1cdcca79f8ea9c1e20f63c71c59fbe") true
    said (fun _ h => by cases h) (by kernel_rfl) (fun _ h => by cases h) modelFeeds_row_tie rfl ⟨rfl, rfl⟩ (by kernel_rfl) rfl
    (fun f fn hf hfn => by
      obtain rfl : f = 3 := Option.some.inj ((show Tryz.prog.funcNamed "peloton/pelotonlaw08.ModelFeeds" = some 3 by kernel_rfl).symm.trans hf) |>.symm
      obtain rfl : fn = Tryz.f3 := (Option.some.inj (Tryz.func3.symm.trans hfn)).symm
      exact ⟨by kernel_rfl, fun j t ht => by
        rw [Tryz.params3] at ht
        have hm : t ∈ [26, 27] := by simpa using Array.mem_of_getElem? ht
        have hall : ([26, 27].all fun u => !Tryz.prog.wantsStandIn u) = true := by kernel_rfl
        exact (show Tryz.prog.wantsStandIn t = false by simpa using List.all_eq_true.1 hall t hm)⟩)
    (by kernel_rfl)
#print axioms proved
end Go.Proofs.YtoeihigdndkjeaaGreatDoor.modelFeeds
