/-
  Proved: for any small model, prompt and number GenEach returns true (each token that is generated is one of the model's, that of the greatest weight behind all that was fed, of several the first; prompts of more than 20 tokens are let go) and nothing that was in memory turns. No condition beside the row's own on the two tables.
-/
import Derived.Test.YtdclfcfdadkmeaaDoorRows
import Derived.WalkKit
import Derived.ProofKit
import Derived.OpenShut
import Derived.ShutString
import Derived.ChangeOld
import Derived.Below
import Derived.Test.YtdclfcfdadkmeaaDoorJ25
import Derived.Test.YtdclfcfdadkmeaaDoorJ02
import Derived.Test.YtdclfcfdadkmeaaDoorTie
import Derived.Test.YtdclfcfdadkmeaaDoorCards
import Derived.SevenTiedAt
import Derived.Test.YtdclfcfdadkmeaaDoorJ24
import Derived.Test.YtdclfcfdadkmeaaDoorJ29
namespace Go.Proofs.YtdclfcfdadkmeaaDoor.genEach
open Go.ChangeShapes Go.WideShapes Go.ChangeAt Go.RowKit
open Go.ChangeMaps (open_string shut_string)
set_option linter.unusedVariables false

theorem own : ownKnob Tryd.prog.godebug = none := by kernel_rfl
theorem laidOut : laidOutB Tryd.prog = true := by kernel_rfl

set_option maxHeartbeats 16000000 in
set_option maxRecDepth 100000 in
theorem walk (sl0 sw0 sh0 si0 sv0 sp0 sd0 : Int) (q0 : Rw) (q1 : Rw) (a2 : Int) (w : World) (h0 : Six sl0 sw0 sh0 si0 sv0 sp0 ∧ (Lit.int .u64 sd0).wf = true ∧ q0.In .i8 w) (h1 : q1.In .i64 w) (h2 : (Lit.int .i64 a2).wf = true) (hT : Tabs9 w) :
    Calls Tryd.prog 6 #[.agg #[.int .i64 sl0, .int .i64 sw0, .int .i64 sh0, .int .i64 si0, .int .i64 sv0, .int .i64 sp0, .int .u64 sd0, .slice q0.a q0.n q0.cap], .slice q1.a q1.n q1.cap, .int .i64 a2] w fun e w' => e = .returned (.bool true) ∧ Below w.heap.size w w' := by
  obtain ⟨-, hsd, hq0⟩ := h0
  obtain ⟨sd, rfl, hsd2⟩ : ∃ k : Nat, sd0 = (k : Int) ∧ k < 18446744073709551616 := by
    have := wfu64 hsd
    exact ⟨sd0.toNat, by omega, by omega⟩
  have hb2 := wf64 h2
  clear hsd h2
  have B1 : ∀ (U : World) (o : Obj), Below U.heap.size U (U.alloc o) := fun U o => (Below.refl _ _).alloc (Nat.le_refl _) o
  have HQ1 := Lib.hid h1
  have HQ0 := Lib.hid hq0
  have HT := Lib.hid hT
  have hq1 := h1.2.1
  have hq2 := h1.2.2.1
  have hq3 := hq0.2.1
  have hq4 := hq0.2.2.1
  clear h1 hq0 hT
  go_enter Tryd.func6, Tryd.ntmps6
  go_upto_region 1 with (fail)
  generalize hwa : World.alloc _ _ = wa
  have XS : Box wa w.heap.size 52 #[.int .i64 sl0, .int .i64 sw0, .int .i64 sh0, .int .i64 si0, .int .i64 sv0, .int .i64 sp0, .int .u64 sd, .slice q0.a q0.n q0.cap] := by rw [← hwa]; exact box_new _ _ _
  have HB : Below w.heap.size w wa := by rw [← hwa]; exact (Below.refl _ _).alloc (Nat.le_refl _) _
  clear hwa
  have cA := awake9 wa (HT.out.bel HB)
  have HXS := Lib.hid XS
  have HBA := Lib.hid HB
  clear XS HB
  by_cases hn : q1.n ≤ 20 ∧ q0.n ≤ 2000
  · obtain ⟨hn1, hn2⟩ := hn
    go_wp2_with fail
    refine cA.mono ?_
    rintro e wb ⟨rfl, hb⟩
    have HXSb := Lib.hid (HXS.out.bel hb)
    have HBb := Lib.hid (below_two HBA.out hb)
    clear cA hb HXS HBA
    have z0 : wb.cell? ⟨w.heap.size, 0, none⟩ = some (.int .i64 sl0) := HXSb.out.cell 0
    have z1 : wb.cell? ⟨w.heap.size, 1, none⟩ = some (.int .i64 sw0) := HXSb.out.cell 1
    have z2 : wb.cell? ⟨w.heap.size, 2, none⟩ = some (.int .i64 sh0) := HXSb.out.cell 2
    have z3 : wb.cell? ⟨w.heap.size, 3, none⟩ = some (.int .i64 si0) := HXSb.out.cell 3
    have z4 : wb.cell? ⟨w.heap.size, 4, none⟩ = some (.int .i64 sv0) := HXSb.out.cell 4
    have z5 : wb.cell? ⟨w.heap.size, 5, none⟩ = some (.int .i64 sp0) := HXSb.out.cell 5
    have z6 : wb.cell? ⟨w.heap.size, 6, none⟩ = some (.int .u64 sd) := HXSb.out.cell 6
    have z7 : wb.cell? ⟨w.heap.size, 7, none⟩ = some (.slice q0.a q0.n q0.cap) := HXSb.out.cell 7
    have cM := made9 sl0 sw0 sh0 si0 sv0 sp0 sd hsd2 q0 wb (HQ0.out.below HBb.out) hn2
    go_wp2_with fail
    refine cM.mono ?_
    rintro e wc ⟨⟨m, s, W, V, rfl, -, hM⟩, hb⟩
    have HM := Lib.hid hM
    have HBc := Lib.hid (below_two HBb.out hb)
    clear cM hb hM HXSb  HBb z0 z1 z2 z3 z4 z5 z6 z7
    go_upto_region 4 with (first
      | (refine wpList_store_row (o := ⟨none, .store _ _ _, _, _, _, _⟩) rfl 58 _ _ rfl wc.heap.size W.cells rfl rfl 58 _ (box_new _ _ _) (by kernel_rfl) rfl (by simp [Wt7.cells, Value.oneCell']) ?_))
    generalize hwd : World.setRow _ _ _ = wd
    have XW : Box wd wc.heap.size 58 W.cells := by rw [← hwd]; exact (box_new _ _ _).setRow
    have hbd : Below wc.heap.size wc wd := by rw [← hwd]; exact below_setRow ((Below.refl _ _).alloc (Nat.le_refl _) _) (Nat.le_refl _) (by simp)
    have HMd := Lib.hid (HM.out.bel hbd)
    have HBd := Lib.hid (below_two HBc.out hbd)
    have HXW := Lib.hid XW
    obtain ⟨z0, z1, z2, z3, z4, z5⟩ := HM.out.cells XW
    have ok := HM.out.tiny.1
    have bd := ok.bd
    have cK := check_doc s.l s.w s.h s.i s.v s.p 1 q1.a q1.n q1.cap q1.v wd (by omega) (by omega) (by omega) (HQ1.out.1.below HBd.out) (by omega)
    unfold sh9 at cK
    have hp12 := HM.out.p12
    have OK := Lib.hid ok
    clear hwd hbd HM  HBc XW ok bd
    by_cases hc : check9 s.v s.p q1.v 1 = 0
    · rw [hc] at cK
      have HC := Lib.hid hc
      obtain ⟨c1, -, -, c4, -⟩ := check9_ok hc
      rw [HQ1.out.1.1] at c1 c4
      clear hc
      go_wp2_with fail
      refine cK.mono ?_
      rintro e we ⟨rfl, hb⟩
      have HMe := Lib.hid (HMd.out.bel hb)
      have HMk : Hid (∀ {w' : World} {T : TypeId}, Box w' wc.heap.size T W.cells → w'.cell? ⟨wc.heap.size, 0, none⟩ = some (.int .i64 s.l) ∧ w'.cell? ⟨wc.heap.size, 1, none⟩ = some (.int .i64 s.w) ∧ w'.cell? ⟨wc.heap.size, 2, none⟩ = some (.int .i64 s.h) ∧ w'.cell? ⟨wc.heap.size, 3, none⟩ = some (.int .i64 s.i) ∧ w'.cell? ⟨wc.heap.size, 4, none⟩ = some (.int .i64 s.v) ∧ w'.cell? ⟨wc.heap.size, 5, none⟩ = some (.int .i64 s.p)) := Lib.hid (fun hX => HMd.out.cells hX)
      have HBe := Lib.hid (below_two HBd.out hb)
      have HXWe := Lib.hid (HXW.out.bel hb)
      clear cK hb HMd HBd HXW z0 z1 z2 z3 z4 z5
      have z5 := (HMe.out.cells HXWe.out).2.2.2.2.2
      go_upto_region 7 with (fail)
      obtain ⟨mm, hmm, m1, m2⟩ : ∃ mm : Nat, (s.p : Int) - q1.n + 1 = mm ∧ 1 ≤ mm ∧ mm ≤ 13 := ⟨s.p - q1.n + 1, by omega, by omega, by omega⟩
      rw [hmm]
      have HMM := Lib.hid hmm
      obtain ⟨r1, r2, k, a1, a2, a3⟩ := brought a2 mm (by omega) (by omega)
      have A3 := Lib.hid a3
      have nz : ¬ (mm : Int) = 0 := by omega
      clear hmm z5 a3
      go_upto_region 8 with (fail)
      rw [A3.out]
      clear r1 r2 nz
      have cG := generate9 m s OK.out V we HMe.out.mod (by omega) q1 (HQ1.out.below HBe.out) (by omega) k (check9_more HC.out (by omega) (by rw [HQ1.out.1.1]; have := HMM.out; omega)) (HT.out.bel HBe.out).1 (HT.out.bel HBe.out).2.1 (HT.out.bel HBe.out).2.2.1 (HT.out.bel HBe.out).2.2.2
      go_wp2_with fail
      refine cG.mono ?_
      rintro e wf ⟨⟨⟨ga, gn, gcap, gv⟩, rfl, hg1, hl1, hn3, hgb⟩, hb⟩
      simp only at hg1 hl1 hn3 hgb
      obtain rfl : gn = k := hn3
      have HMf := Lib.hid (HMe.out.bel hb)
      have HBf := Lib.hid (below_two HBe.out hb)
      have HXWf := Lib.hid (HXWe.out.bel hb)
      have HG1 := Lib.hid hg1
      have HL1 := Lib.hid hl1
      have cR := run8 m s V wf HMf.out.mod (fun _ _ => ([], []))
      have hglen : Hid (gv.length = gn) := Lib.hid hg1.1.1
      have hgt : ∀ x, ga = some x → x.block < wf.heap.size := fun x hx => by
        obtain ⟨bb, off, ha, hc⟩ := hg1.1.2.2.2 (by show 0 < gn; omega)
        have h9 := World.block_lt_of_cell? _ _ (hc 0 (by show 0 < gn; omega))
        simp only at ha
        rw [hx] at ha
        cases ha
        exact h9
      have HGT := Lib.hid hgt
      clear cG hb HMe HBe HXWe hg1 hl1 hgb hgt
      go_wp2_with fail
      refine cR.mono ?_
      rintro e wg ⟨⟨r, mb, rfl, t1, t2, t3, hR⟩, hb⟩
      have HMg := Lib.hid (HMf.out.bel hb)
      have HBg := Lib.hid (below_two HBf.out hb)
      have HXWg := Lib.hid (HXWf.out.bel hb)
      have HG1g : Hid (Rw.In .i64 wg ⟨ga, gn, gcap, gv⟩) := Lib.hid (HG1.out.below hb)
      have hwn : wc.heap.size < wf.heap.size := HXWf.out.lt
      have hwf : w.heap.size ≤ wf.heap.size := HBf.out.size
      have RS0 : RunS wg r m mb s V [] 0 := ⟨hR, HMg.out.mod, (HT.out.bel HBg.out).1, (HT.out.bel HBg.out).2.1⟩
      have hodd : ∀ x ∈ q1.v, 0 ≤ x ∧ x < s.v := fun x hx => by
        obtain ⟨-, c2, -⟩ := check9_ok HC.out
        rw [List.any_eq_false] at c2
        have := c2 x hx
        unfold odd9 at this
        simp at this
        omega
      have hne1 : ∀ b o, q1.a = some ⟨b, o, none⟩ → b ≠ r ∧ b ≠ mb := fun b o hbo => by
        obtain ⟨b', off', ha, hc⟩ := HQ1.out.1.2.2.2 (by omega)
        have h9 := World.block_lt_of_cell? _ _ (hc 0 (by omega))
        rw [hbo] at ha
        cases ha
        simp only at h9
        omega
      have hne2 : Hid (∀ b o, ga = some ⟨b, o, none⟩ → b ≠ r ∧ b ≠ mb) := Lib.hid fun b o hbo => by
        have := HGT.out _ hbo
        simp only at this
        omega
      have cF := fed9 r m mb q1.n 0 q1.cap s OK.out V [] q1.v wg RS0 (by omega) q1.a (HQ1.out.1.below HBg.out) (by omega) (by omega) hne1 hodd (by simp; omega) (by simp)
      have HQL : Hid (q1.v.length = q1.n) := Lib.hid HQ1.out.1.1
      clear hb hR HMf HBf HXWf HG1 RS0 hodd hne1 HGT cR
      go_wp2_with fail
      refine cF.mono ?_
      rintro e wh ⟨⟨g, c, N, rfl, y1, y2, y3, hRS, hN⟩, haw⟩
      rw [List.nil_append] at y3 hRS hN
      have HY := Lib.hid y3
      have HRS := Lib.hid hRS
      have HN := Lib.hid hN
      have HBh : Hid (Below w.heap.size w wh) := Lib.hid (below_away HBg.out haw (by omega) (by omega) HBg.out.size)
      have HG1h : Hid (Rw.In .i64 wh ⟨ga, gn, gcap, gv⟩) := Lib.hid ⟨haw.elems HG1g.out.1 hne2.out, HG1g.out.2⟩
      have HXWh : Hid (Box wh wc.heap.size 58 W.cells) := Lib.hid ((haw.block _ HXWg.out.lt (by omega) (by omega)).trans HXWg.out)
      clear cF y3 hRS hN haw HMg HBg HG1g HXWg
      have hfed0 : Hid (q1.v = q1.v ++ gv.take (min 0 (gn - 1))) := Lib.hid (by simp)
      go_wp2_with fail
      go_loopw [14, 15, 16] (fun y f i wr => ∃ (j g c N : Nat) (fed : List Int), j ≤ gn ∧ i = .int .i64 j ∧ f = .int .i64 0 ∧ y = .slice (some ⟨g, 0, none⟩) s.v c ∧ s.v ≤ c ∧ c ≤ 9223372036854775807 ∧ Hid (fed = q1.v ++ gv.take (min j (gn - 1))) ∧ Hid (Elems .i32 wr (some ⟨g, 0, none⟩) s.v (outO (V.nums s) (runO (V.nums s) st09 (fed.map Int.toNat)).x)) ∧ Hid (RunS wr r m mb s V fed N) ∧ Hid (N ≤ 16 * fed.length) ∧ Hid (Rw.In .i64 wr ⟨ga, gn, gcap, gv⟩) ∧ Hid (Box wr wc.heap.size 58 W.cells) ∧ Hid (Below w.heap.size w wr)) (fun _ _ i _ => gn - (intOf i).toNat)
      case atStart => exact ⟨0, g, c, N, q1.v, by omega, rfl, rfl, rfl, y1, y2, hfed0, HY, HRS, HN, HG1h, HXWh, HBh⟩
      case round =>
        clear hfed0 HY HRS HN HG1h HXWh HBh y1 y2
        obtain ⟨j, g, c, N, fed, hj, rfl, rfl, rfl, y1, y2, hfed, hY, hRS, hN, hG, hXW, hBl⟩ := hrel
        by_cases hlt : j < gn
        · obtain ⟨B, e1, hBv, hBest⟩ := HL1.out j (by rw [hglen.out]; exact hlt)
          have hfj : Hid (fed = q1.v ++ gv.take j) := Lib.hid (by rw [hfed.out, Nat.min_eq_left (by omega)])
          rw [← hfj.out] at hBest
          obtain ⟨bb, off, x, hga, hc, HTv, -⟩ := hG.out.1.at_ hlt
          simp only at hga hc HTv
          obtain rfl : x = (B : Int) := by rw [← HTv.out]; exact e1
          subst hga
          have hflen : Hid (fed.length = q1.n + j) := Lib.hid (by rw [hfj.out, List.length_append, List.length_take, hglen.out, HQL.out, Nat.min_eq_left (by omega)])
          have z4 := (HMk.out hXW.out).2.2.2.2.1
          obtain ⟨L, hL⟩ : ∃ L, outO (V.nums s) (runO (V.nums s) st09 (fed.map Int.toNat)).x = L := ⟨_, rfl⟩
          rw [hL] at hBest
          have hYL : Hid (Elems .i32 wr (some ⟨g, 0, none⟩) s.v L) := Lib.hid (by rw [← hL]; exact hY.out)
          have HBEST := Lib.hid hBest
          have HE1 := Lib.hid e1
          have HL := Lib.hid hL
          have hv512 : s.v ≤ 512 := OK.out.bd.2.2.2.2.1.2
          have hgcap := hG.out.2.1
          have hgcap2 := hG.out.2.2.1
          simp only at hgcap hgcap2
          clear hBest e1 HTv hfed hL
          obtain ⟨wo, rfl⟩ : ∃ wo, wo = wr := ⟨_, rfl⟩
          go_wp2_with fail
          go_loopw [17] (fun t wx => ∃ t' : Nat, t' ≤ s.v ∧ t = .int .i64 t' ∧ Hid (Below wo.heap.size wo wx)) (fun t _ => s.v - (intOf t).toNat)
          case atStart => exact ⟨0, by omega, rfl, Lib.hid (Below.refl _ _)⟩
          case round =>
            obtain ⟨t, ht, rfl, hbx⟩ := hrel
            have hcx := cell_kept6 hbx.out hc
            by_cases htl : t < s.v
            · have hYx := hYL.out.below hbx.out
              obtain ⟨g1, o1, yt, he1, ct, HYt, -⟩ := hYx.at_ htl
              cases he1
              obtain ⟨g2, o2, yB, he2, cB, HYB, -⟩ := hYx.at_ hBv
              cases he2
              rw [Nat.zero_add] at ct cB
              obtain ⟨hle, hmn⟩ : yt ≤ yB ∧ (t < B → yt < yB) := by
                rcases HBEST.out with ⟨h0, -⟩ | ⟨jj, hb9, -, hmax, hmin⟩
                · omega
                · obtain rfl : B = jj := by omega
                  rw [← HYt.out, ← HYB.out]
                  exact ⟨hmax t htl, hmin t⟩
              have d1 : decide (yB < yt) = false := by simp; omega
              clear hYx HYt HYB
              by_cases he : yt = yB
              · subst he
                have d2 : decide (t < B) = false := by simp; omega
                clear hle hmn d1
                go_upto_region 21 with (fail)
                go_quiet (fail)
                go_wp2
                go_roundw
                case rel => exact ⟨t + 1, by omega, by go_num, Lib.hid (hbx.out.trans ((below_drewN (Below.refl _ _) _).mono hbx.out.size))⟩
                case measure => simp [intOf]; omega
              · have d3 : (yt == yB) = false := by simpa using he
                clear hle hmn he
                go_upto_region 21 with (fail)
                go_quiet (fail)
                go_wp2
                go_roundw
                case rel => exact ⟨t + 1, by omega, by go_num, Lib.hid (hbx.out.trans ((below_drewN (Below.refl _ _) _).mono hbx.out.size))⟩
                case measure => simp [intOf]; omega
            · obtain rfl : t = s.v := by omega
              have hRSx := hRS.out.bel hbx.out
              have hBx : Hid (Below w.heap.size w wr) := Lib.hid (below_two hBl.out hbx.out)
              have hXWx : Hid (Box wr wc.heap.size 58 W.cells) := Lib.hid (hXW.out.bel hbx.out)
              have hGx : Hid (Rw.In .i64 wr ⟨some ⟨bb, off, none⟩, gn, gcap, gv⟩) := Lib.hid (hG.out.below hbx.out)
              by_cases hk : j + 1 < gn
              · have hlt2 := hRSx.lts
                have hp9 : fed.length + 1 ≤ s.p := by have := HMM.out; rw [hflen.out]; omega
                have cF := fun (T : TypeId) => fed9 r m mb 1 N 1 s OK.out V fed [(B : Int)] (wr.alloc (.cells #[.int .i64 B] T)) (hRSx.bel (B1 _ _)) (by omega) (some ⟨wr.heap.size, 0, none⟩) (elems_litK [(B : Int)] rfl rfl (fun x hx => by rw [List.mem_singleton.1 hx]; exact wf_n (by omega)) (by simp) rfl) (by omega) (by omega) (fun b o hbo => by cases hbo; omega) (fun x hx => by rw [List.mem_singleton.1 hx]; omega) hp9 hN.out
                have hk2 : (j : Int) + 1 < (gn : Int) := by omega
                clear hRS hBl hXW hG hbx hRSx hY hYL HBEST HL z4 hc
                go_wp2_with fail
                refine (cF _).mono ?_
                rintro e wy ⟨⟨g', c', N', rfl, v1, v2, v3, hRS', hN'⟩, haw⟩
                have hsz : ∀ T, wr.heap.size ≤ (wr.alloc (.cells #[.int .i64 B] T)).heap.size := fun T => (B1 _ _).size
                have HY' := Lib.hid v3
                have HRS' := Lib.hid hRS'
                have HN' := Lib.hid hN'
                have HB' : Hid (Below w.heap.size w wy) := Lib.hid (below_away (below_two hBx.out (B1 _ _)) haw (by omega) (by omega) (Nat.le_trans hBx.out.size (hsz _)))
                have HG' : Hid (Rw.In .i64 wy ⟨some ⟨bb, off, none⟩, gn, gcap, gv⟩) := Lib.hid ⟨haw.elems (hGx.out.below (B1 _ _)).1 hne2.out, hGx.out.2⟩
                have HXW' : Hid (Box wy wc.heap.size 58 W.cells) := Lib.hid ((haw.block _ (hXWx.out.alloc _).lt (by omega) (by omega)).trans (hXWx.out.alloc _))
                have hfed' : Hid (fed ++ [(B : Int)] = q1.v ++ gv.take (min (j + 1) (gn - 1))) := Lib.hid (by
                  rw [Nat.min_eq_left (by omega), hfj.out, List.take_add_one, List.append_assoc]
                  congr 2
                  have h8 := HE1.out
                  have h9 : j < gv.length := by rw [hglen.out]; exact hlt
                  rw [List.getD_eq_getElem?_getD, List.getElem?_eq_getElem h9] at h8
                  rw [List.getElem?_eq_getElem h9]
                  simp only [Option.getD_some] at h8
                  simp [h8])
                clear cF v3 hRS' hN' haw hsz hBx hGx hXWx
                go_wp2
                go_roundw
                case rel => exact ⟨j + 1, g', c', N', fed ++ [(B : Int)], by omega, by go_num, rfl, rfl, v1, v2, hfed', HY', HRS', HN', HG', HXW', HB'⟩
                case measure => simp [intOf]; omega
              · have hk2 : ¬ (j : Int) + 1 < (gn : Int) := by omega
                have HY' := Lib.hid (hY.out.below hbx.out)
                have HRS' := Lib.hid hRSx
                have hfed' : Hid (fed = q1.v ++ gv.take (min (j + 1) (gn - 1))) := Lib.hid (by rw [hfj.out, Nat.min_eq_right (by omega), show gn - 1 = j by omega])
                clear hRS hBl hXW hG hbx hRSx hY hYL HBEST HL z4 hc
                go_wp2
                go_roundw
                case rel => exact ⟨j + 1, g, c, N, fed, by omega, by go_num, rfl, rfl, y1, y2, hfed', HY', HRS', hN, hGx, hXWx, hBx⟩
                case measure => simp [intOf]; omega
        · obtain rfl : j = gn := by omega
          have HBF := hBl
          clear hfed hY hRS hN hG hXW hBl
          go_wp2
          go_ret
          exact ⟨rfl, HBF.out⟩
    · obtain ⟨c, hcc⟩ : ∃ c, check9 s.v s.p q1.v 1 = c := ⟨_, rfl⟩
      rw [hcc] at cK hc
      have hc2 : (c == 0) = false := by simpa using hc
      have hc3 : (c != 0) = true := by simpa using hc
      clear hcc
      go_wp2_with fail
      refine cK.mono ?_
      rintro e we ⟨rfl, hb⟩
      have HBe := Lib.hid (below_two HBd.out hb)
      clear cK hb
      go_wp2
      go_ret
      exact ⟨rfl, HBe.out⟩
  · have hcase : 20 < q1.n ∨ (q1.n ≤ 20 ∧ 2000 < q0.n) := by omega
    clear hn
    rcases hcase with hn | ⟨hn, hn2⟩
    all_goals
      go_wp2_with fail
      refine cA.mono ?_
      rintro e wb ⟨rfl, hb⟩
      have HXSb := Lib.hid (HXS.out.bel hb)
      have z7 : wb.cell? ⟨w.heap.size, 7, none⟩ = some (.slice q0.a q0.n q0.cap) := HXSb.out.cell 7
      have HBb := Lib.hid (below_two HBA.out hb)
      have cA2 := awake9 wb (HT.out.bel HBb.out)
      clear cA hb HXS HBA
      go_wp2_with fail
      refine cA2.mono ?_
      rintro e wc ⟨rfl, hb⟩
      have HBc := Lib.hid (below_two HBb.out hb)
      clear cA2 hb z7
      go_wp2
      go_ret
      exact ⟨rfl, HBc.out⟩

set_option maxRecDepth 100000 in
theorem lifted (os : Os) (started : os.Started) (H : Type) (enc : TypeId × Value → H) :
    ReturnsInHanded {} Tryd.checked os 6 .any (fun w args => (Rows.genEachSpec.pre enc Tryd.prog Tryd.f6 [] false w args ∧ laidMetH Tryd.prog laidList9 w) ∧ sizedMet enc Tryd.prog Tryd.f6 (OpenSpec.ofChange Rows.genEachSpec) false w args) (Rows.genEachSpec.post enc Tryd.prog Tryd.f6 false true false false) := by
  refine returnsInHanded_of_change_and (C := Tryd.checked) (X := fun w _ => laidMetH Tryd.prog laidList9 w) (fun _ _ _ hh h => h.of_heap hh) own started (by kernel_rfl) Tryd.func6
    (ChangeSpec.witness_shaped (enc := enc) (C := Tryd.checked) (os := os) (X := fun w _ => laidMetH Tryd.prog laidList9 w) false (World.doorLaid Tryd.prog 400 os) #[.agg #[.int .i64 0, .int .i64 0, .int .i64 0, .int .i64 0, .int .i64 0, .int .i64 0, .int .u64 0, .slice none 0 0], .slice none 0 0, .int .i64 0] 8 rfl (World.shaped_of_RefB (by kernel_rfl) (by kernel_rfl)) (by kernel_rfl) (by kernel_rfl) (by kernel_rfl) (door_met9 os _)) ?_
  intro W base args ds gs before hval0 hW _ _ hL _
  have hval : ∀ (j : Nat) t v, Tryd.f6.params[j]? = some t → args[j]? = some v → Value.okWide Tryd.prog W .any base t v := hval0
  have hW' := hW
  obtain ⟨p, q, hA0, hV, rfl, hfz, hnd⟩ := hW
  have hA : DataW.TrodAll enc Tryd.prog W 0 (fun _ => true) true Tryd.f6.params.toList args.toList ds p := hA0
  rw [Tryd.params6] at hA hval
  obtain ⟨v0, vs0, d0, ds0, p0, q0, hargs, rfl, rfl, h0, r0⟩ := trodAll_cons hA
  obtain ⟨v1, vs1, d1, ds1, p1, q1, rfl, rfl, rfl, h1, r1⟩ := trodAll_cons r0
  obtain ⟨v2, vs2, d2, ds2, p2, q2, rfl, rfl, rfl, h2, r2⟩ := trodAll_cons r1
  obtain ⟨rfl, rfl, rfl⟩ := trodAll_nil r2
  obtain rfl : args = #[v0, v1, v2] := by cases args; simp_all
  obtain ⟨rfl, rfl⟩ := trodVars_none hV
  have k0 := h0
  have lt0 : ∀ x ∈ p0, x.block < W.heap.size := by obtain ⟨m, hm⟩ := k0; exact DataW.trod_lt m _ _ _ hm
  obtain ⟨xl0, xw0, xh0, xi0, xv0, xp0, sd0, q0, rfl, w0⟩ := open_seeds9 (hval 0 52 v0 rfl rfl) h0
  have k1 := h1
  have lt1 : ∀ x ∈ p1, x.block < W.heap.size := by obtain ⟨m, hm⟩ := k1; exact DataW.trod_lt m _ _ _ hm
  obtain ⟨q1, rfl, w1⟩ := open_rw Tryd.underlying27 Tryd.underlying3 (by kernel_rfl) (hval 1 27 v1 rfl rfl) h1
  obtain ⟨a2, rfl, rfl, rfl, w2⟩ := open_int Tryd.underlying3 (hval 2 3 v2 rfl rfl) h2
  clear hA0 hval0
  have hT := tabs_of_laid hL
  refine (walk xl0 xw0 xh0 xi0 xv0 xp0 sd0 q0 q1 a2 W w0 w1 w2 hT).mono fun e W' ⟨he, bel⟩ => ?_
  subst he
  exact ⟨_, rfl, _, _, _, [], _, [], hW', trodAll_mk1 (shut_bool Tryd.underlying4 _), (trodAll_cons_mk (Below.trod laidOut (by kernel_rfl) (of_decide_eq_true (by kernel_rfl)) k0 bel lt0) (trodAll_cons_mk (Below.trod laidOut (by kernel_rfl) (of_decide_eq_true (by kernel_rfl)) k1 bel lt1) (trodAll_cons_mk (shut_int Tryd.underlying3 w2) trodAll_mk0))), rfl, bel.frame _, fun h => by cases h⟩

theorem over : Rows.genEachRow.holds Tryd.pinned (OpenSpec.ofChange Rows.genEachSpec) :=
  OpenClaim.holds_of_wide 6 Tryd.f6 rfl rfl rfl rfl rfl rfl rfl ⟨rfl, rfl, rfl, rfl, rfl⟩ rfl rfl rfl rfl rfl (by kernel_rfl) Tryd.func6 (by kernel_rfl)
    (of_decide_eq_true (by kernel_rfl)) (by unfold Func.isWrapper; first | (rw [if_pos (by decide +kernel)]; kernel_rfl) | (rw [if_neg (by decide +kernel)]; exact ⟨rfl, rfl⟩))
    (fun os started H enc _ => lifted os started H enc)

/-- the row's statement -/
theorem said : Rows.GenEachSaid := over

/-- THE STATEMENT: the tied card -/
theorem proved : Rows.GenEachCardSaid :=
  Claim7.holds_tied_plain_at .later [] [.data, .data] true (true, "af47729238bd4eb6deba0d8dacfa67202db43c79d262ee87be7b2fd57e2adb8c") true
    said (fun _ h => by cases h) (by kernel_rfl) (fun _ h => by cases h) genEach_row_tie rfl ⟨rfl, rfl⟩ (by kernel_rfl) rfl
    (fun f fn hf hfn => by
      obtain rfl : f = 6 := Option.some.inj ((show Tryd.prog.funcNamed "peloton/pelotonlaw09.GenEach" = some 6 by kernel_rfl).symm.trans hf) |>.symm
      obtain rfl : fn = Tryd.f6 := (Option.some.inj (Tryd.func6.symm.trans hfn)).symm
      exact ⟨by kernel_rfl, fun j t ht => by
        rw [Tryd.params6] at ht
        have hm : t ∈ [52, 27, 3] := by simpa using Array.mem_of_getElem? ht
        have hall : ([52, 27, 3].all fun u => !Tryd.prog.wantsStandIn u) = true := by kernel_rfl
        exact (show Tryd.prog.wantsStandIn t = false by simpa using List.all_eq_true.1 hall t hm)⟩)
    (by kernel_rfl)
#print axioms proved
end Go.Proofs.YtdclfcfdadkmeaaDoor.genEach
