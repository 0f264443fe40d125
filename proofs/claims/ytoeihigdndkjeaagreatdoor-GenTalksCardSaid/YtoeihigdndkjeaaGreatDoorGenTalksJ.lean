/-
  Proved: for any small model, prompt and number GenTalks returns true (a talk says, token by token, what the document says, until there is no place; what may not be generated is refused; prompts of more than 20 tokens are let go) and nothing that was in memory turns. No condition beside the row's own on the two tables.
-/
import Derived.Test.YtoeihigdndkjeaaGreatDoorRows
import Derived.WalkKit
import Derived.ProofKit
import Derived.OpenShut
import Derived.ShutString
import Derived.ChangeOld
import Derived.Below
import Derived.Test.YtoeihigdndkjeaaGreatDoorJ05
import Derived.Test.YtoeihigdndkjeaaGreatDoorJ04
import Derived.Test.YtoeihigdndkjeaaGreatDoorTie
import Derived.Test.YtoeihigdndkjeaaGreatDoorCards
import Derived.SevenTiedAt
import Derived.Test.YtoeihigdndkjeaaGreatDoorJ24
import Derived.Test.YtoeihigdndkjeaaGreatDoorJ33
import Derived.Test.YtoeihigdndkjeaaGreatDoorJ37
import Derived.Test.YtoeihigdndkjeaaGreatDoorJ35
namespace Go.Proofs.YtoeihigdndkjeaaGreatDoor.genTalks
open Go.ChangeShapes Go.WideShapes Go.ChangeAt Go.RowKit
open Go.ChangeMaps (open_string shut_string)
set_option linter.unusedVariables false

theorem own : ownKnob Tryz.prog.godebug = none := by kernel_rfl
theorem laidOut : laidOutB Tryz.prog = true := by kernel_rfl

set_option maxHeartbeats 16000000 in
set_option maxRecDepth 100000 in
theorem walk (sl0 sw0 sh0 si0 sv0 sp0 sd0 : Int) (q0 : Rw) (q1 : Rw) (a2 : Int) (w : World) (h0 : Six sl0 sw0 sh0 si0 sv0 sp0 ∧ (Lit.int .u64 sd0).wf = true ∧ q0.In .i8 w) (h1 : q1.In .i64 w) (h2 : (Lit.int .i64 a2).wf = true) (hT : Tabs9 w) :
    Calls Tryz.prog 7 #[.agg #[.int .i64 sl0, .int .i64 sw0, .int .i64 sh0, .int .i64 si0, .int .i64 sv0, .int .i64 sp0, .int .u64 sd0, .slice q0.a q0.n q0.cap], .slice q1.a q1.n q1.cap, .int .i64 a2] w fun e w' => e = .returned (.bool true) ∧ Below w.heap.size w w' := by
  obtain ⟨-, hsd, hq0⟩ := h0
  obtain ⟨sd, rfl, hsd2⟩ : ∃ k : Nat, sd0 = (k : Int) ∧ k < 18446744073709551616 := by
    have := wfu64 hsd
    exact ⟨sd0.toNat, by omega, by omega⟩
  have hb2 := wf64 h2
  clear hsd h2
  have B1 : ∀ (U : World) (o : Obj), Below U.heap.size U (U.alloc o) := fun U o => (Below.refl _ _).alloc (Nat.le_refl _) o
  have HQ1 := Lib.hid h1
  have HQ0 := Lib.hid hq0
  have HT := Lib.hid hT
  have hq1 := h1.2.1
  have hq2 := h1.2.2.1
  have hq3 := hq0.2.1
  have hq4 := hq0.2.2.1
  clear h1 hq0 hT
  go_enter Tryz.func7, Tryz.ntmps7
  go_upto_region 1 with (fail)
  generalize hwa : World.alloc _ _ = wa
  have XS : Box wa w.heap.size 73 #[.int .i64 sl0, .int .i64 sw0, .int .i64 sh0, .int .i64 si0, .int .i64 sv0, .int .i64 sp0, .int .u64 sd, .slice q0.a q0.n q0.cap] := by rw [← hwa]; exact box_new _ _ _
  have HB : Below w.heap.size w wa := by rw [← hwa]; exact (Below.refl _ _).alloc (Nat.le_refl _) _
  clear hwa
  have cA := awake9 wa (HT.out.bel HB)
  have HXS := Lib.hid XS
  have HBA := Lib.hid HB
  clear XS HB
  by_cases hn : q1.n ≤ 20 ∧ q0.n ≤ 2000
  · obtain ⟨hn1, hn2⟩ := hn
    go_wp2_with fail
    refine cA.mono ?_
    rintro e wb ⟨rfl, hb⟩
    have HXSb := Lib.hid (HXS.out.bel hb)
    have HBb := Lib.hid (below_two HBA.out hb)
    clear cA hb HXS HBA
    have z0 : wb.cell? ⟨w.heap.size, 0, none⟩ = some (.int .i64 sl0) := HXSb.out.cell 0
    have z1 : wb.cell? ⟨w.heap.size, 1, none⟩ = some (.int .i64 sw0) := HXSb.out.cell 1
    have z2 : wb.cell? ⟨w.heap.size, 2, none⟩ = some (.int .i64 sh0) := HXSb.out.cell 2
    have z3 : wb.cell? ⟨w.heap.size, 3, none⟩ = some (.int .i64 si0) := HXSb.out.cell 3
    have z4 : wb.cell? ⟨w.heap.size, 4, none⟩ = some (.int .i64 sv0) := HXSb.out.cell 4
    have z5 : wb.cell? ⟨w.heap.size, 5, none⟩ = some (.int .i64 sp0) := HXSb.out.cell 5
    have z6 : wb.cell? ⟨w.heap.size, 6, none⟩ = some (.int .u64 sd) := HXSb.out.cell 6
    have z7 : wb.cell? ⟨w.heap.size, 7, none⟩ = some (.slice q0.a q0.n q0.cap) := HXSb.out.cell 7
    have cM := made9 sl0 sw0 sh0 si0 sv0 sp0 sd hsd2 q0 wb (HQ0.out.below HBb.out) hn2
    go_wp2_with fail
    refine cM.mono ?_
    rintro e wc ⟨⟨m, s, W, V, rfl, -, hM⟩, hb⟩
    have HM := Lib.hid hM
    have HBc := Lib.hid (below_two HBb.out hb)
    clear cM hb hM HXSb  HBb z0 z1 z2 z3 z4 z5 z6 z7
    go_upto_region 4 with (first
      | (refine wpList_store_row (o := ⟨none, .store _ _ _, _, _, _, _⟩) rfl 50 _ _ rfl wc.heap.size W.cells rfl rfl 50 _ (box_new _ _ _) (by kernel_rfl) rfl (by simp [Wt7.cells, Value.oneCell']) ?_))
    generalize hwd : World.setRow _ _ _ = wd
    have XW : Box wd wc.heap.size 50 W.cells := by rw [← hwd]; exact (box_new _ _ _).setRow
    have hbd : Below wc.heap.size wc wd := by rw [← hwd]; exact below_setRow ((Below.refl _ _).alloc (Nat.le_refl _) _) (Nat.le_refl _) (by simp)
    have HMd := Lib.hid (HM.out.bel hbd)
    have HBd := Lib.hid (below_two HBc.out hbd)
    have HXW := Lib.hid XW
    obtain ⟨z0, z1, z2, z3, z4, z5⟩ := HM.out.cells XW
    have ok := HM.out.tiny.1
    have bd := ok.bd
    have hp12 := HM.out.p12
    have OK := Lib.hid ok
    have HSAME := Lib.hid HM.out.same
    clear hwd hbd HM  HBc XW ok z0 z1 z2 z3 z4 z5
    by_cases hc : check9 s.v s.p q1.v 1 = 0
    · obtain ⟨c1, c2, c3, c4, c5⟩ := check9_ok hc
      rw [HQ1.out.1.1] at c1 c4 c5
      have HC := Lib.hid hc
      have hn0 : 0 < q1.n := by omega
      have hodd : ∀ x ∈ q1.v, 0 ≤ x ∧ x < s.v := fun x hx => by
        rw [List.any_eq_false] at c2
        have := c2 x hx
        unfold odd9 at this
        simp at this
        omega
      have HODD := Lib.hid hodd
      have cB := begin9 m s OK.out V wd HMd.out.mod q1 (HQ1.out.below HBd.out) (by omega) (HT.out.bel HBd.out).1 (HT.out.bel HBd.out).2.1 (HT.out.bel HBd.out).2.2.1 (HT.out.bel HBd.out).2.2.2 hc
      have hsd0 := HBd.out.size
      clear hc c1 c2 c3 c5 bd hodd
      go_wp2_with fail
      refine cB.mono ?_
      rintro e we ⟨⟨T, r, mb, due, rfl, t1, t2, t3, hTS, hdv, hdn⟩, hb⟩
      have HMe := Lib.hid (HMd.out.bel hb)
      have HBe := Lib.hid (below_two HBd.out hb)
      have HXWe := Lib.hid (HXW.out.bel hb)
      have HTS := Lib.hid hTS
      have HDV := Lib.hid (And.intro hdv hdn)
      have bd := OK.out.bd
      have cK := check_doc s.l s.w s.h s.i s.v s.p 1 q1.a q1.n q1.cap q1.v we (by omega) (by omega) (by omega) (HQ1.out.1.below HBe.out) (by omega)
      unfold sh9 at cK
      rw [HC.out] at cK
      obtain ⟨z0, z1, z2, z3, z4, z5⟩ := HMe.out.cells HXWe.out
      clear cB hb HMd HBd HXW hTS hdv hdn bd
      go_wp2_with fail
      refine cK.mono ?_
      rintro e wf ⟨rfl, hb⟩
      have HMf := Lib.hid (HMe.out.bel hb)
      have HBf := Lib.hid (below_two HBe.out hb)
      have HXWf := Lib.hid (HXWe.out.bel hb)
      have HTSf := Lib.hid (HTS.out.bel hb)
      have HLT : Hid (T < we.heap.size ∧ r < we.heap.size ∧ mb < we.heap.size) := Lib.hid ⟨HTS.out.box.lt, HTS.out.run.box.lt, let ⟨D, hO, _⟩ := HTS.out.run.map; hO.lt⟩
      have hsf := hb.size
      clear cK hb HMe HBe HXWe HTS z0 z1 z2 z3 z4 z5
      have z5 := (HMf.out.cells HXWf.out).2.2.2.2.2
      go_upto_region 13 with (fail)
      obtain ⟨mm, hmm, m1, m2⟩ : ∃ mm : Nat, (s.p : Int) - q1.n + 1 = mm ∧ 1 ≤ mm ∧ mm ≤ 13 := ⟨s.p - q1.n + 1, by omega, by omega, by omega⟩
      rw [hmm]
      have HMM := Lib.hid hmm
      clear hmm z5
      have XWf := HXWf.out
      have cD := generateD oneC s OK.out W wf HMf.out.inn HMf.out.six HMf.out.whole (by omega) q1 (HQ1.out.below HBf.out) (by omega) mm (check9_more HC.out (by omega) (by rw [HQ1.out.1.1]; have := HMM.out; omega))
      go_wp2_with (first
        | (refine wpList_load_row rfl 50 _ rfl wc.heap.size rfl 50 _ (0, 0) _ XWf Tryz.underlying50 rfl (by kernel_rfl) ?_))
      refine cD.mono ?_
      rintro e wg ⟨⟨⟨ga, gn, gcap, gv⟩, rfl, hE2, hl2, hn2, hgb, hgc1, hgc2⟩, hb⟩
      simp only at hE2 hl2 hn2 hgb hgc1 hgc2
      obtain rfl : gn = mm := hn2
      have HBg := Lib.hid (below_two HBf.out hb)
      have hTabs := HT.out.bel HBg.out
      have HTSg := Lib.hid ((HTSf.out.bel hb).rebase hTabs.2.2.1 hTabs.2.2.2)
      have HW := Lib.hid hE2
      have HL2 := Lib.hid hl2
      have hgl : gv.length = gn := hE2.1
      have HGL := Lib.hid hgl
      have hsg := hb.size
      have HGA : Hid (∀ x, ga = some x → x.block < wg.heap.size ∧ x.block ≠ T ∧ x.block ≠ r ∧ x.block ≠ mb) := Lib.hid (fun x hx => by
        have h1 := hgb x hx
        obtain ⟨h2, h3, h4⟩ := HLT.out
        obtain ⟨b', o', ha, hc⟩ := hE2.2.2.2 (by omega)
        have h9 := World.block_lt_of_cell? _ _ (hc 0 (by omega))
        rw [hx] at ha
        cases ha
        simp only at h9 h1 ⊢
        omega)
      have hTr : w.heap.size ≤ T ∧ w.heap.size ≤ r ∧ w.heap.size ≤ mb := by omega
      have hwg := HBg.out.size
      have hwc : wc.heap.size < wf.heap.size := HXWf.out.lt
      have HGB := Lib.hid (genL_bd hl2)
      clear cD hb hTabs hE2 hl2 hgb hgl HMf HBf HXWf HTSf XWf HLT t1 t2 t3 hsd0 hsf hsg hwc
      obtain ⟨r1, r2, k, a1, a3⟩ := brought3 a2 gn (by omega)
      have A3 := Lib.hid a3
      have nz : ¬ ((gn : Int) + 3) = 0 := by omega
      clear a3
      go_upto_region 15 with (fail)
      rw [A3.out]
      clear r1 r2 nz A3
      have H0 : Hid (TalkSt wg T r m mb s V ⟨[], ([] : List Int).length, (runO (V.nums s) st09 (([] : List Int).map Int.toNat)).K⟩ 0 due (.slice none 0 0) (min 0 gn) (gv.take (min 0 gn)) wg.heap.size) := Lib.hid (by simpa using HTSg.out)
      have H1 : Hid (([] : List Int) ++ due.v = q1.v ++ gv.take (min 0 gn)) := Lib.hid (by simpa using HDV.out.1)
      have H2 : Hid (0 < due.n) := Lib.hid (by rw [HDV.out.2]; exact hn0)
      have HQL : Hid (q1.v.length = q1.n) := Lib.hid HQ1.out.1.1
      have HMP : Hid (q1.n + gn = s.p + 1) := Lib.hid (by have := HMM.out; omega)
      clear HTSg HDV HMM
      go_wp2_with fail
      go_loopw [15] (fun i wr => ∃ (j N : Nat) (due : Rw) (v : Value) (fed : List Int), j ≤ k ∧ i = .int .i64 j ∧ Hid (TalkSt wr T r m mb s V ⟨[], fed.length, (runO (V.nums s) st09 (fed.map Int.toNat)).K⟩ N due v (min j gn) (gv.take (min j gn)) wg.heap.size) ∧ Hid (fed ++ due.v = q1.v ++ gv.take (min j gn)) ∧ Hid (0 < due.n) ∧ N ≤ 16 * fed.length ∧ Hid (Elems .i64 wr ga gn gv) ∧ Hid (Below w.heap.size w wr)) (fun i _ => k - (intOf i).toNat)
      case atStart => exact ⟨0, 0, due, _, [], by omega, rfl, H0, H1, H2, by simp, HW, HBg⟩
      case round =>
        clear H0 H1 H2 HW HBg
        obtain ⟨j, N, du, v, fed, hj, rfl, hTS, hfd, hd0, hN, hW, hBl⟩ := hrel
        have hlen : fed.length + du.n = q1.n + min j gn := by
          have := congrArg List.length hfd.out
          rw [List.length_append, List.length_append, hTS.out.dueIn.1.1, HQL.out, List.length_take, HGL.out, Nat.min_eq_left (Nat.min_le_right _ _)] at this
          exact this
        by_cases hlt : j < k
        · have hdb : ∀ t ∈ du.v, 0 ≤ t ∧ t < s.v := fun t ht => by
            have hmem : t ∈ q1.v ++ gv.take (min j gn) := by rw [← hfd.out]; exact List.mem_append.2 (.inr ht)
            exact (List.mem_append.1 hmem).elim (HODD.out t) (fun h => HGB.out t (List.mem_of_mem_take h))
          have hmp := HMP.out
          by_cases hjg : j < gn
          · have hmj : min j gn = j := Nat.min_eq_left (by omega)
            have hmj2 : min (j + 1) gn = j + 1 := Nat.min_eq_left (by omega)
            rw [hmj] at hTS hfd hlen
            have hdne : du.v ≠ [] := fun e => by have h1 := hTS.out.dueIn.1.1; rw [e] at h1; have := hd0.out; simp at h1; omega
            have hf := fault_none (p := fed.length) hdb (by rw [hTS.out.dueIn.1.1]; omega)
            have cN := next9 T r m mb N j wg.heap.size s OK.out V ⟨[], fed.length, (runO (V.nums s) st09 (fed.map Int.toNat)).K⟩ du v (gv.take j) wr hTS.out rfl (by omega) (by show fed.length ≤ s.p; omega) hd0.out (by omega) (by omega) (by omega) hf
            have hrun : Hid (runO (V.nums s) ⟨[], fed.length, (runO (V.nums s) st09 (fed.map Int.toNat)).K⟩ (du.v.map Int.toNat) = runO (V.nums s) st09 ((fed ++ du.v).map Int.toNat)) := Lib.hid (fed_step _ _ _ hdne)
            rw [hrun.out] at cN
            have hfl : Hid ((fed ++ du.v).length = fed.length + du.n) := Lib.hid (by rw [List.length_append, hTS.out.dueIn.1.1])
            obtain ⟨B0, e1, hBv0, hBest0⟩ := HL2.out j (by rw [HGL.out]; exact hjg)
            have HBEST0 := Lib.hid hBest0
            have HE1 := Lib.hid e1
            have HM2 := Lib.hid hmj2
            clear hTS hdb hdne hf hrun hmj hmj2 hBest0 e1
            go_wp2_with fail
            refine cN.mono ?_
            rintro e wx ⟨B, du2, v2, N2, rfl, hBv, hBest, hTS2, hd2, hdn2, hN2, -, hAT⟩
            obtain rfl : B = B0 := by
              have h1 := HBEST0.out
              rw [← HSAME.out, ← hfd.out] at h1
              have := best_uniq hBest h1
              omega
            have hW2 := hAT.elems hW.out HGA.out
            obtain ⟨bb, off, x, hga, hc, hX, hw⟩ := hW2.at_ hjg
            obtain rfl : x = (B : Int) := by rw [← hX.out]; exact HE1.out
            have HW2 := Lib.hid hW2
            have hgt : gv.take (j + 1) = gv.take j ++ [(B : Int)] := by
              have h9 : j < gv.length := by rw [HGL.out]; exact hjg
              have h8 := hX.out
              rw [List.getD_eq_getElem?_getD, List.getElem?_eq_getElem h9] at h8
              simp only [Option.getD_some] at h8
              rw [List.take_add_one, List.getElem?_eq_getElem h9, h8]
              rfl
            have hTS3 : Hid (TalkSt wx T r m mb s V ⟨[], (fed ++ du.v).length, (runO (V.nums s) st09 ((fed ++ du.v).map Int.toNat)).K⟩ N2 du2 v2 (min (j + 1) gn) (gv.take (min (j + 1) gn)) wg.heap.size) := Lib.hid (by rw [hfl.out, HM2.out, hgt]; exact hTS2)
            have hfd2 : Hid ((fed ++ du.v) ++ du2.v = q1.v ++ gv.take (min (j + 1) gn)) := Lib.hid (by rw [hfd.out, hd2, HM2.out, hgt, List.append_assoc])
            have hd02 : Hid (0 < du2.n) := Lib.hid (by rw [hdn2]; omega)
            have hN3 : N2 ≤ 16 * (fed ++ du.v).length := by rw [hfl.out]; omega
            have hBl2 : Hid (Below w.heap.size w wx) := Lib.hid (hAT.below hBl.out hTr.1 hTr.2.1 hTr.2.2 hwg)
            subst hga
            clear cN hTS2 hd2 hdn2 hBest HBEST0 hfd hd0 hBl hW hW2 hX hw hgt hN2 hAT hfl HE1 HM2
            go_wp2
            go_roundw
            case rel => exact ⟨j + 1, N2, du2, v2, fed ++ du.v, by omega, by go_num, hTS3, hfd2, hd02, hN3, HW2, hBl2⟩
            case measure => simp [intOf]; omega
          · have hmj : min j gn = gn := Nat.min_eq_right (by omega)
            have hmj2 : min (j + 1) gn = min j gn := by omega
            have hf : faultO s fed.length du.v ≠ 0 := by
              have hodd : du.v.any (oddO s) = false := by
                rw [List.any_eq_false]
                intro t ht
                have := oddO_no.2 (hdb t ht)
                simp [this]
              rw [fault_full hodd, hTS.out.dueIn.1.1, if_pos (by omega)]
              decide
            have cN := next_no T r m mb N (min j gn) wg.heap.size s OK.out V ⟨[], fed.length, (runO (V.nums s) st09 (fed.map Int.toNat)).K⟩ du v _ wr hTS.out (by show fed.length ≤ 1000; omega) (by omega) hf
            clear hdb hf hmj
            go_wp2_with fail
            refine cN.mono ?_
            rintro e wx ⟨rfl, hb⟩
            have hTS3 : Hid (TalkSt wx T r m mb s V ⟨[], fed.length, (runO (V.nums s) st09 (fed.map Int.toNat)).K⟩ N du v (min (j + 1) gn) (gv.take (min (j + 1) gn)) wg.heap.size) := Lib.hid (by rw [hmj2]; exact hTS.out.bel hb)
            have hfd2 : Hid (fed ++ du.v = q1.v ++ gv.take (min (j + 1) gn)) := Lib.hid (by rw [hmj2]; exact hfd.out)
            have HW2 := Lib.hid (hW.out.below hb)
            have hBl2 := Lib.hid (below_two hBl.out hb)
            clear cN hTS hfd hBl hW hb hmj2
            go_wp2
            go_roundw
            case rel => exact ⟨j + 1, N, du, v, fed, by omega, by go_num, hTS3, hfd2, hd0, hN, HW2, hBl2⟩
            case measure => simp [intOf]; omega
        · obtain rfl : j = k := by omega
          obtain ⟨sn, hsn⟩ : ∃ sn, min j gn = sn := ⟨_, rfl⟩
          have hsg : sn ≤ gn := by omega
          have hodd2 : ∀ c ∈ gv.take sn, 0 ≤ c ∧ c < s.v := fun c hc => HGB.out c (List.mem_of_mem_take hc)
          have HSN := Lib.hid hsn
          rw [hsn] at hTS
          obtain ⟨g, hgv, hgi, hgvv, hgn, -⟩ := own_rw hTS.out.saidR.own (fun c hc => by have := hodd2 c hc; have := OK.out.bd.2.2.2.2.1.2; obtain ⟨z, hz⟩ : ∃ z : Nat, c = z := ⟨c.toNat, by omega⟩; rw [hz]; exact wf_n (by omega)) (by omega)
          have cS := said9 T r du g wr ⟨by rw [← hgv]; exact hTS.out.box, hTS.out.dueIn, hgi⟩ (by omega)
          clear hTS hfd hd0 hN hgv hgi hodd2 hlen hsn
          go_wp2_with fail
          refine cS.mono ?_
          rintro e wx ⟨⟨g3, rfl, u1, u2, u3, -⟩, hb⟩
          have HBx := Lib.hid (below_two hBl.out hb)
          have HW2 := Lib.hid (hW.out.below hb)
          have hc1 := u1.2.1
          have hc2 := u1.2.2.1
          have cI := fun (U : World) (hU : Below wx.heap.size wx U) => ints9 g3.a ga g3.n sn g3.cap gcap g3.v (gv.take sn) U (u1.1.below hU) ((HW2.out.below hU).take sn hsg)
          have hg3 : g3.n = sn := u3.trans hgn
          rw [u2, hgvv, decide_eq_true rfl, hg3] at cI
          clear cS hb hBl hW u2
          clear u1
          go_wp2_with fail
          · have hsj : sn = gn := by have := HSN.out; omega
            subst hsj
            have cJ := cI wx (Below.refl _ _)
            clear cI HSN hsg
            with_reducible refine cJ.mono ?_
            rintro e wy ⟨rfl, hb⟩
            have HBy := Lib.hid (below_two HBx.out hb)
            clear cJ hb HBx
            go_wp2
            go_ret
            exact ⟨rfl, HBy.out⟩
          · have hsj : sn = j := by have := HSN.out; omega
            subst hsj
            have cJ := cI wx (Below.refl _ _)
            clear cI HSN hsg
            with_reducible refine cJ.mono ?_
            rintro e wy ⟨rfl, hb⟩
            have HBy := Lib.hid (below_two HBx.out hb)
            clear cJ hb HBx
            go_wp2
            go_ret
            exact ⟨rfl, HBy.out⟩
    · have cB := begin_no m s OK.out V wd HMd.out.mod q1 (HQ1.out.below HBd.out) (by omega) hc
      have cK0 := fun wf h => check_doc s.l s.w s.h s.i s.v s.p 1 q1.a q1.n q1.cap q1.v wf (by omega) (by omega) (by omega) h (by omega)
      unfold sh9 at cK0
      obtain ⟨c, hcc⟩ : ∃ c, check9 s.v s.p q1.v 1 = c := ⟨_, rfl⟩
      rw [hcc] at cB cK0 hc
      have hcne : (c != 0) = true := by simpa using hc
      clear bd hcc hc
      go_wp2_with fail
      refine cB.mono ?_
      rintro e we ⟨rfl, hb⟩
      have HMe := Lib.hid (HMd.out.bel hb)
      have HBe := Lib.hid (below_two HBd.out hb)
      have HXWe := Lib.hid (HXW.out.bel hb)
      have cK := cK0 we (HQ1.out.1.below HBe.out)
      obtain ⟨z0, z1, z2, z3, z4, z5⟩ := HMe.out.cells HXWe.out
      clear cB hb HMd HBd HXW cK0
      go_wp2_with fail
      refine cK.mono ?_
      rintro e wf ⟨rfl, hb⟩
      have HBf := Lib.hid (below_two HBe.out hb)
      clear cK hb HMe HBe HXWe z0 z1 z2 z3 z4 z5
      go_wp2
      go_ret
      exact ⟨rfl, HBf.out⟩
  · have hcase : 20 < q1.n ∨ (q1.n ≤ 20 ∧ 2000 < q0.n) := by omega
    clear hn
    rcases hcase with hn | ⟨hn, hn2⟩
    all_goals
      go_wp2_with fail
      refine cA.mono ?_
      rintro e wb ⟨rfl, hb⟩
      have HXSb := Lib.hid (HXS.out.bel hb)
      have z7 : wb.cell? ⟨w.heap.size, 7, none⟩ = some (.slice q0.a q0.n q0.cap) := HXSb.out.cell 7
      have HBb := Lib.hid (below_two HBA.out hb)
      have cA2 := awake9 wb (HT.out.bel HBb.out)
      clear cA hb HXS HBA
      go_wp2_with fail
      refine cA2.mono ?_
      rintro e wc ⟨rfl, hb⟩
      have HBc := Lib.hid (below_two HBb.out hb)
      clear cA2 hb z7
      go_wp2
      go_ret
      exact ⟨rfl, HBc.out⟩

set_option maxRecDepth 100000 in
theorem lifted (os : Os) (started : os.Started) (H : Type) (enc : TypeId × Value → H) :
    ReturnsInHanded {} Tryz.checked os 7 .any (fun w args => (Rows.genTalksSpec.pre enc Tryz.prog Tryz.f7 [] false w args ∧ laidMetH Tryz.prog laidList9 w) ∧ sizedMet enc Tryz.prog Tryz.f7 (OpenSpec.ofChange Rows.genTalksSpec) false w args) (Rows.genTalksSpec.post enc Tryz.prog Tryz.f7 false true false false) := by
  refine returnsInHanded_of_change_and (C := Tryz.checked) (X := fun w _ => laidMetH Tryz.prog laidList9 w) (fun _ _ _ hh h => h.of_heap hh) own started (by kernel_rfl) Tryz.func7
    (ChangeSpec.witness_shaped (enc := enc) (C := Tryz.checked) (os := os) (X := fun w _ => laidMetH Tryz.prog laidList9 w) false (World.doorLaid Tryz.prog 400 os) #[.agg #[.int .i64 0, .int .i64 0, .int .i64 0, .int .i64 0, .int .i64 0, .int .i64 0, .int .u64 0, .slice none 0 0], .slice none 0 0, .int .i64 0] 8 rfl (World.shaped_of_RefB (by kernel_rfl) (by kernel_rfl)) (by kernel_rfl) (by kernel_rfl) (by kernel_rfl) (door_met9 os _)) ?_
  intro W base args ds gs before hval0 hW _ _ hL _
  have hval : ∀ (j : Nat) t v, Tryz.f7.params[j]? = some t → args[j]? = some v → Value.okWide Tryz.prog W .any base t v := hval0
  have hW' := hW
  obtain ⟨p, q, hA0, hV, rfl, hfz, hnd⟩ := hW
  have hA : DataW.TrodAll enc Tryz.prog W 0 (fun _ => true) true Tryz.f7.params.toList args.toList ds p := hA0
  rw [Tryz.params7] at hA hval
  obtain ⟨v0, vs0, d0, ds0, p0, q0, hargs, rfl, rfl, h0, r0⟩ := trodAll_cons hA
  obtain ⟨v1, vs1, d1, ds1, p1, q1, rfl, rfl, rfl, h1, r1⟩ := trodAll_cons r0
  obtain ⟨v2, vs2, d2, ds2, p2, q2, rfl, rfl, rfl, h2, r2⟩ := trodAll_cons r1
  obtain ⟨rfl, rfl, rfl⟩ := trodAll_nil r2
  obtain rfl : args = #[v0, v1, v2] := by cases args; simp_all
  obtain ⟨rfl, rfl⟩ := trodVars_none hV
  have k0 := h0
  have lt0 : ∀ x ∈ p0, x.block < W.heap.size := by obtain ⟨m, hm⟩ := k0; exact DataW.trod_lt m _ _ _ hm
  obtain ⟨xl0, xw0, xh0, xi0, xv0, xp0, sd0, q0, rfl, w0⟩ := open_seeds9 (hval 0 73 v0 rfl rfl) h0
  have k1 := h1
  have lt1 : ∀ x ∈ p1, x.block < W.heap.size := by obtain ⟨m, hm⟩ := k1; exact DataW.trod_lt m _ _ _ hm
  obtain ⟨q1, rfl, w1⟩ := open_rw Tryz.underlying35 Tryz.underlying3 (by kernel_rfl) (hval 1 35 v1 rfl rfl) h1
  obtain ⟨a2, rfl, rfl, rfl, w2⟩ := open_int Tryz.underlying3 (hval 2 3 v2 rfl rfl) h2
  clear hA0 hval0
  have hT := tabs_of_laid hL
  refine (walk xl0 xw0 xh0 xi0 xv0 xp0 sd0 q0 q1 a2 W w0 w1 w2 hT).mono fun e W' ⟨he, bel⟩ => ?_
  subst he
  exact ⟨_, rfl, _, _, _, [], _, [], hW', trodAll_mk1 (shut_bool Tryz.underlying4 _), (trodAll_cons_mk (Below.trod laidOut (by kernel_rfl) (of_decide_eq_true (by kernel_rfl)) k0 bel lt0) (trodAll_cons_mk (Below.trod laidOut (by kernel_rfl) (of_decide_eq_true (by kernel_rfl)) k1 bel lt1) (trodAll_cons_mk (shut_int Tryz.underlying3 w2) trodAll_mk0))), rfl, bel.frame _, fun h => by cases h⟩

theorem over : Rows.genTalksRow.holds Tryz.pinned (OpenSpec.ofChange Rows.genTalksSpec) :=
  OpenClaim.holds_of_wide 7 Tryz.f7 rfl rfl rfl rfl rfl rfl rfl ⟨rfl, rfl, rfl, rfl, rfl⟩ rfl rfl rfl rfl rfl (by kernel_rfl) Tryz.func7 (by kernel_rfl)
    (of_decide_eq_true (by kernel_rfl)) (by unfold Func.isWrapper; first | (rw [if_pos (by decide +kernel)]; kernel_rfl) | (rw [if_neg (by decide +kernel)]; exact ⟨rfl, rfl⟩))
    (fun os started H enc _ => lifted os started H enc)

/-- the row's statement -/
theorem said : Rows.GenTalksSaid := over

/-- THE STATEMENT: the tied card -/
theorem proved : Rows.GenTalksCardSaid :=
  Claim7.holds_tied_plain_at .later [] [.data, .data] true (true, "9491c1b2270f2e0c101a760e0ee5449b3d1cdcca79f8ea9c1e20f63c71c59fbe") true
    said (fun _ h => by cases h) (by kernel_rfl) (fun _ h => by cases h) genTalks_row_tie rfl ⟨rfl, rfl⟩ (by kernel_rfl) rfl
    (fun f fn hf hfn => by
      obtain rfl : f = 7 := Option.some.inj ((show Tryz.prog.funcNamed "peloton/pelotonlaw09.GenTalks" = some 7 by kernel_rfl).symm.trans hf) |>.symm
      obtain rfl : fn = Tryz.f7 := (Option.some.inj (Tryz.func7.symm.trans hfn)).symm
      exact ⟨by kernel_rfl, fun j t ht => by
        rw [Tryz.params7] at ht
        have hm : t ∈ [73, 35, 3] := by simpa using Array.mem_of_getElem? ht
        have hall : ([73, 35, 3].all fun u => !Tryz.prog.wantsStandIn u) = true := by kernel_rfl
        exact (show Tryz.prog.wantsStandIn t = false by simpa using List.all_eq_true.1 hall t hm)⟩)
    (by kernel_rfl)
#print axioms proved
end Go.Proofs.YtoeihigdndkjeaaGreatDoor.genTalks
