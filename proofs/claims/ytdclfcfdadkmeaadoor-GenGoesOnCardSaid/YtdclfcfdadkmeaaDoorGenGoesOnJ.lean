/-
  Proved: for any small model, prompt and numbers GenGoesOn returns true (what is generated with less is how what is generated with more begins, and behind the prompt and what was said it goes on in the same way; prompts of more than 20 tokens are let go) and nothing that was in memory turns. No condition beside the row's own on the two tables.
-/
import Derived.Test.YtdclfcfdadkmeaaDoorRows
import Derived.WalkKit
import Derived.ProofKit
import Derived.OpenShut
import Derived.ShutString
import Derived.ChangeOld
import Derived.Below
import Derived.Test.YtdclfcfdadkmeaaDoorJ25
import Derived.Test.YtdclfcfdadkmeaaDoorJ02
import Derived.Test.YtdclfcfdadkmeaaDoorTie
import Derived.Test.YtdclfcfdadkmeaaDoorCards
import Derived.SevenTiedAt
import Derived.Test.YtdclfcfdadkmeaaDoorJ24
import Derived.Test.YtdclfcfdadkmeaaDoorJ28
namespace Go.Proofs.YtdclfcfdadkmeaaDoor.genGoesOn
open Go.ChangeShapes Go.WideShapes Go.ChangeAt Go.RowKit
open Go.ChangeMaps (open_string shut_string)
set_option linter.unusedVariables false

theorem own : ownKnob Tryd.prog.godebug = none := by kernel_rfl
theorem laidOut : laidOutB Tryd.prog = true := by kernel_rfl

set_option maxHeartbeats 16000000 in
set_option maxRecDepth 100000 in
theorem walk (sl0 sw0 sh0 si0 sv0 sp0 sd0 : Int) (q0 : Rw) (q1 : Rw) (x2 y2 : Int) (w : World) (h0 : Six sl0 sw0 sh0 si0 sv0 sp0 ∧ (Lit.int .u64 sd0).wf = true ∧ q0.In .i8 w) (h1 : q1.In .i64 w) (h2 : (Lit.int .i64 x2).wf = true ∧ (Lit.int .i64 y2).wf = true) (hT : Tabs9 w) :
    Calls Tryd.prog 5 #[.agg #[.int .i64 sl0, .int .i64 sw0, .int .i64 sh0, .int .i64 si0, .int .i64 sv0, .int .i64 sp0, .int .u64 sd0, .slice q0.a q0.n q0.cap], .slice q1.a q1.n q1.cap, .agg #[.int .i64 x2, .int .i64 y2]] w fun e w' => e = .returned (.bool true) ∧ Below w.heap.size w w' := by
  obtain ⟨-, hsd, hq0⟩ := h0
  obtain ⟨sd, rfl, hsd2⟩ : ∃ k : Nat, sd0 = (k : Int) ∧ k < 18446744073709551616 := by
    have := wfu64 hsd
    exact ⟨sd0.toNat, by omega, by omega⟩
  have hb2 := And.intro (wf64 h2.1) (wf64 h2.2)
  clear hsd h2
  have B1 : ∀ (U : World) (o : Obj), Below U.heap.size U (U.alloc o) := fun U o => (Below.refl _ _).alloc (Nat.le_refl _) o
  have HQ1 := Lib.hid h1
  have HQ0 := Lib.hid hq0
  have HT := Lib.hid hT
  have hq1 := h1.2.1
  have hq2 := h1.2.2.1
  have hq3 := hq0.2.1
  have hq4 := hq0.2.2.1
  clear h1 hq0 hT
  go_enter Tryd.func5, Tryd.ntmps5
  go_upto_region 1 with (fail)
  generalize hwa : World.alloc _ _ = wa
  have XS : Box wa w.heap.size 52 #[.int .i64 sl0, .int .i64 sw0, .int .i64 sh0, .int .i64 si0, .int .i64 sv0, .int .i64 sp0, .int .u64 sd, .slice q0.a q0.n q0.cap] := by rw [← hwa]; exact (box_new _ _ _).alloc _
  have XC : Box wa (w.heap.size + 1) 53 #[.int .i64 x2, .int .i64 y2] := by rw [← hwa]; exact box_at (by simp) _ _
  have HB : Below w.heap.size w wa := by rw [← hwa]; exact ((Below.refl _ _).alloc (Nat.le_refl _) _).alloc (by simp) _
  clear hwa
  have cA := awake9 wa (HT.out.bel HB)
  have HXS := Lib.hid XS
  have HXC := Lib.hid XC
  have HBA := Lib.hid HB
  clear XS XC HB
  by_cases hn : q1.n ≤ 20 ∧ q0.n ≤ 2000
  · obtain ⟨hn1, hn2⟩ := hn
    go_wp2_with fail
    refine cA.mono ?_
    rintro e wb ⟨rfl, hb⟩
    have HXSb := Lib.hid (HXS.out.bel hb)
    have HXCb := Lib.hid (HXC.out.bel hb)
    have HBb := Lib.hid (below_two HBA.out hb)
    clear cA hb HXS HXC HBA
    have z0 : wb.cell? ⟨w.heap.size, 0, none⟩ = some (.int .i64 sl0) := HXSb.out.cell 0
    have z1 : wb.cell? ⟨w.heap.size, 1, none⟩ = some (.int .i64 sw0) := HXSb.out.cell 1
    have z2 : wb.cell? ⟨w.heap.size, 2, none⟩ = some (.int .i64 sh0) := HXSb.out.cell 2
    have z3 : wb.cell? ⟨w.heap.size, 3, none⟩ = some (.int .i64 si0) := HXSb.out.cell 3
    have z4 : wb.cell? ⟨w.heap.size, 4, none⟩ = some (.int .i64 sv0) := HXSb.out.cell 4
    have z5 : wb.cell? ⟨w.heap.size, 5, none⟩ = some (.int .i64 sp0) := HXSb.out.cell 5
    have z6 : wb.cell? ⟨w.heap.size, 6, none⟩ = some (.int .u64 sd) := HXSb.out.cell 6
    have z7 : wb.cell? ⟨w.heap.size, 7, none⟩ = some (.slice q0.a q0.n q0.cap) := HXSb.out.cell 7
    have cM := made9 sl0 sw0 sh0 si0 sv0 sp0 sd hsd2 q0 wb (HQ0.out.below HBb.out) hn2
    go_wp2_with fail
    refine cM.mono ?_
    rintro e wc ⟨⟨m, s, W, V, rfl, -, hM⟩, hb⟩
    have HM := Lib.hid hM
    have HXCc := Lib.hid (HXCb.out.bel hb)
    have HBc := Lib.hid (below_two HBb.out hb)
    clear cM hb hM HXSb HXCb HBb z0 z1 z2 z3 z4 z5 z6 z7
    go_upto_region 4 with (first
      | (refine wpList_store_row (o := ⟨none, .store _ _ _, _, _, _, _⟩) rfl 58 _ _ rfl wc.heap.size W.cells rfl rfl 58 _ (box_new _ _ _) (by kernel_rfl) rfl (by simp [Wt7.cells, Value.oneCell']) ?_))
    generalize hwd : World.setRow _ _ _ = wd
    have XW : Box wd wc.heap.size 58 W.cells := by rw [← hwd]; exact (box_new _ _ _).setRow
    have hbd : Below wc.heap.size wc wd := by rw [← hwd]; exact below_setRow ((Below.refl _ _).alloc (Nat.le_refl _) _) (Nat.le_refl _) (by simp)
    have HMd := Lib.hid (HM.out.bel hbd)
    have HXCd := Lib.hid (HXCc.out.bel hbd)
    have HBd := Lib.hid (below_two HBc.out hbd)
    have HXW := Lib.hid XW
    obtain ⟨z0, z1, z2, z3, z4, z5⟩ := HM.out.cells XW
    have ok := HM.out.tiny.1
    have bd := ok.bd
    have cK := check_doc s.l s.w s.h s.i s.v s.p 1 q1.a q1.n q1.cap q1.v wd (by omega) (by omega) (by omega) (HQ1.out.1.below HBd.out) (by omega)
    unfold sh9 at cK
    have hp12 := HM.out.p12
    have OK := Lib.hid ok
    clear hwd hbd HM HXCc HBc XW ok bd
    by_cases hc : check9 s.v s.p q1.v 1 = 0
    · rw [hc] at cK
      have HC := Lib.hid hc
      obtain ⟨c1, -, -, c4, -⟩ := check9_ok hc
      rw [HQ1.out.1.1] at c1 c4
      clear hc
      go_wp2_with fail
      refine cK.mono ?_
      rintro e we ⟨rfl, hb⟩
      have HMe := Lib.hid (HMd.out.bel hb)
      have HXCe := Lib.hid (HXCd.out.bel hb)
      have HBe := Lib.hid (below_two HBd.out hb)
      have HXWe := Lib.hid (HXW.out.bel hb)
      clear cK hb HMd HXCd HBd HXW z0 z1 z2 z3 z4 z5
      have z5 := (HMe.out.cells HXWe.out).2.2.2.2.2
      go_upto_region 7 with (fail)
      obtain ⟨mm, hmm, m1, m2⟩ : ∃ mm : Nat, (s.p : Int) - q1.n + 1 = mm ∧ 1 ≤ mm ∧ mm ≤ 13 := ⟨s.p - q1.n + 1, by omega, by omega, by omega⟩
      rw [hmm]
      have HMM := Lib.hid hmm
      have x0 : we.cell? ⟨w.heap.size + 1, 0, none⟩ = some (.int .i64 x2) := HXCe.out.cell 0
      have x1 : we.cell? ⟨w.heap.size + 1, 1, none⟩ = some (.int .i64 y2) := HXCe.out.cell 1
      obtain ⟨r1, r2, a, a1, a2, a3⟩ := brought x2 mm (by omega) (by omega)
      have A3 := Lib.hid a3
      have nz : ¬ (mm : Int) = 0 := by omega
      clear hmm z5 a3
      go_upto_region 8 with (fail)
      rw [A3.out]
      obtain ⟨s1, s2, b, b1, b2, b3⟩ := brought y2 a (by omega) (by omega)
      have B3 := Lib.hid b3
      have nz2 : ¬ (a : Int) = 0 := by omega
      clear b3 r1 r2 nz
      go_upto_region 9 with (fail)
      rw [B3.out]
      clear s1 s2 nz2 x0 x1
      have cG := generate9 m s OK.out V we HMe.out.mod (by omega) q1 (HQ1.out.below HBe.out) (by omega) a (check9_more HC.out (by omega) (by rw [HQ1.out.1.1]; have := HMM.out; omega)) (HT.out.bel HBe.out).1 (HT.out.bel HBe.out).2.1 (HT.out.bel HBe.out).2.2.1 (HT.out.bel HBe.out).2.2.2
      go_wp2_with fail
      refine cG.mono ?_
      rintro e wf ⟨⟨g1, rfl, hg1, hl1, hn3, -⟩, hb⟩
      have HMf := Lib.hid (HMe.out.bel hb)
      have HBf := Lib.hid (below_two HBe.out hb)
      have HG1 := Lib.hid hg1
      have HL1 := Lib.hid hl1
      have HN1 := Lib.hid hn3
      clear cG hb HMe HBe HXCe HXWe hg1 hl1 hn3
      have cG := generate9 m s OK.out V wf HMf.out.mod (by omega) q1 (HQ1.out.below HBf.out) (by omega) b (check9_more HC.out (by omega) (by rw [HQ1.out.1.1]; have := HMM.out; omega)) (HT.out.bel HBf.out).1 (HT.out.bel HBf.out).2.1 (HT.out.bel HBf.out).2.2.1 (HT.out.bel HBf.out).2.2.2
      go_wp2_with fail
      refine cG.mono ?_
      rintro e wg ⟨⟨g2, rfl, hg2, hl2, hn4, -⟩, hb⟩
      have HMg := Lib.hid (HMf.out.bel hb)
      have HBg := Lib.hid (below_two HBf.out hb)
      have HG1g := Lib.hid (HG1.out.below hb)
      have HG2 := Lib.hid hg2
      have HL2 := Lib.hid hl2
      have HN2 := Lib.hid hn4
      clear cG hb HMf HBf HG1 hg2 hl2 hn4
      have hlen1 : Hid (g1.v.length = a) := Lib.hid (by rw [HG1g.out.1.1]; exact HN1.out)
      have hlen2 : Hid (g2.v.length = b) := Lib.hid (by rw [HG2.out.1.1]; exact HN2.out)
      have hbeg : Hid (g2.v = g1.v.take g2.n) := Lib.hid (by
        have := genL_begins HL2.out HL1.out (by rw [hlen1.out, hlen2.out]; exact b2)
        rwa [HG2.out.1.1] at this)
      have cP1 := prefix9 g2 g1 wg HG2.out HG1g.out
      rw [decide_eq_true hbeg.out] at cP1
      go_wp2_with fail
      refine cP1.mono ?_
      rintro e wh ⟨rfl, hb⟩
      have HMh := Lib.hid (HMg.out.bel hb)
      have HBh := Lib.hid (below_two HBg.out hb)
      have HG1h := Lib.hid (HG1g.out.below hb)
      have HG2h := Lib.hid (HG2.out.below hb)
      clear cP1 hb HMg HBg HG1g HG2
      have cP2 := prefix9 g1 g2 wh HG1h.out HG2h.out
      have hab : decide (g1.v = g2.v.take g1.n) = decide (a = b) := by
        rw [HN1.out]
        by_cases hE : a = b
        · have h5 : g1.v = g2.v := by
            have := genL_uniq HL1.out HL2.out (by rw [hlen1.out, hlen2.out]; exact hE)
            exact this
          simp only [hE, decide_true]
          rw [h5, List.take_of_length_le (by rw [hlen2.out]; exact Nat.le_refl _)]
          simp
        · have h5 : ¬ g1.v = g2.v.take a := fun h6 => by
            have := congrArg List.length h6
            rw [List.length_take, hlen1.out, hlen2.out] at this
            omega
          simp only [hE, h5, decide_false]
      rw [hab] at cP2
      clear hab
      have cP3 := fun (W : World) (h : g2.In .i64 W) => prefix9 ⟨none, 0, 0, []⟩ g2 W ⟨Elems.nil_ _ _ _, Nat.le_refl _, by show (0 : Nat) ≤ _; omega, ⟨(fun _ => rfl), (fun x hx => by cases hx)⟩⟩ h
      simp only [List.take_zero, decide_true] at cP3
      by_cases hE : a = b
      · subst hE
        simp only [decide_true] at cP2
        go_wp2_with fail
        refine cP2.mono ?_
        rintro e wi ⟨rfl, hb⟩
        have cP4 := cP3 wi (HG2h.out.below hb)
        have HBi := Lib.hid (below_two HBh.out hb)
        clear cP2 cP3 hb
        go_wp2_with fail
        refine cP4.mono ?_
        rintro e wj ⟨rfl, hb⟩
        have HBj := Lib.hid (below_two HBi.out hb)
        clear cP4 hb
        go_wp2
        go_ret
        exact ⟨rfl, HBj.out⟩
      · simp only [hE, decide_false] at cP2
        have hE1 : ((a : Int) == (b : Int)) = false := by simp; omega
        go_wp2_with fail
        refine cP2.mono ?_
        rintro e wi ⟨rfl, hb⟩
        have cP4 := cP3 wi (HG2h.out.below hb)
        have HBi := Lib.hid (below_two HBh.out hb)
        have HMi := Lib.hid (HMh.out.bel hb)
        have HG1i := Lib.hid (HG1h.out.below hb)
        have HG2i := Lib.hid (HG2h.out.below hb)
        clear cP2 cP3 hb HMh HBh HG1h HG2h
        go_wp2_with fail
        refine cP4.mono ?_
        rintro e wj ⟨rfl, hb⟩
        have HBj := Lib.hid (below_two HBi.out hb)
        have HMj := Lib.hid (HMi.out.bel hb)
        have HG1j := Lib.hid (HG1i.out.below hb)
        have HG2j := Lib.hid (HG2i.out.below hb)
        clear cP4 hb HMi HBi HG1i HG2i
        have hbW := B1 wj (.cells #[] 3)
        have hown : (wj.alloc (.cells #[] 3)).ownsRow wj.heap.size 3 1 (.slice (some ⟨wj.heap.size, 0, none⟩) 0 0) 0 (([] : List Int).map (.int .i64)) :=
          World.ownsRow_lit (e := 3) (size := 1) wj #[] 0 (Nat.le_refl _) (by unfold maxLen; omega) rfl
        have HQj := Lib.hid (HQ1.out.below HBj.out)
        obtain ⟨v1, wk, hrun1, ho1, hgr1, -⟩ := run_append_elems (P := Tryd.prog) .i64 (wj.alloc (.cells #[] 3)) wj.heap.size 27 3 8 (by omega) Tryd.underlying27 info_int _ 0 [] hown q1.a q1.n q1.cap q1.v (HQj.out.1.below hbW) HQj.out.2.2.2.1 (by omega) (by omega) hbW.size
        have hbk : Below wj.heap.size wj wk := hbW.grown hgr1 hbW.size (fun k hk => (hown.lt k hk).1)
        have hg2n : g2.n ≤ 1000 := by rw [HN2.out]; omega
        obtain ⟨v2, wl, hrun2, ho2, hgr2, -⟩ := run_append_elems (P := Tryd.prog) .i64 wk wj.heap.size 27 3 8 (by omega) Tryd.underlying27 info_int v1 (0 + q1.n) ([] ++ q1.v) ho1 g2.a g2.n g2.cap g2.v (HG2j.out.1.below hbk) HG2j.out.2.2.2.1 (by omega) (by omega) hbk.size
        have hbl : Below wj.heap.size wj wl := hbk.grown hgr2 hbk.size (fun k hk => (ho1.lt k hk).1)
        obtain ⟨q3, rfl, hq3i, hq3v, hq3n, -⟩ := own_rw ho2 (by
          intro x hx
          rcases List.mem_append.1 hx with h | h
          · exact HQj.out.1.2.2.1 x (by simpa using h)
          · exact HG2j.out.1.2.2.1 x h) (by omega)
        have HQ3 := Lib.hid hq3i
        have HQ3V : Hid (q3.v = q1.v ++ g2.v) := Lib.hid (by simpa using hq3v)
        have hq3N : q3.n ≤ 100 := by rw [hq3n, HN2.out]; omega
        have HBl := Lib.hid (below_two HBj.out hbl)
        have HMl := Lib.hid (HMj.out.bel hbl)
        have HG1l := Lib.hid (HG1j.out.below hbl)
        have hba : b < a := by omega
        obtain ⟨d, hd⟩ : ∃ d : Nat, (a : Int) - (b : Int) = (d : Int) := ⟨a - b, by omega⟩
        have hck : check9 s.v s.p q3.v d = 0 := by
          rw [HQ3V.out]
          exact check9_on HC.out (genL_bd HL2.out) (by omega) (by rw [HQ1.out.1.1, hlen2.out]; have := HMM.out; omega) (by rw [HQ1.out.1.1, hlen2.out]; have := HMM.out; omega)
        have cG := generate9 m s OK.out V wl HMl.out.mod (by omega) q3 HQ3.out (by omega) d hck (HT.out.bel HBl.out).1 (HT.out.bel HBl.out).2.1 (HT.out.bel HBl.out).2.2.1 (HT.out.bel HBl.out).2.2.2
        clear hown ho1 hgr1 hbk ho2 hgr2 hbl hq3i hq3v hq3n hck hbW HMj HBj HG1j HG2j HQj
        go_wp2_with (at_builtin; first | (refine wpList_append_run (by rfl) _ _ _ (by rfl) _ _ (by rfl) (by rfl) hrun1 ?_) | (refine wpList_append_run (by rfl) _ _ _ (by rfl) _ _ (by rfl) (by rfl) hrun2 ?_))
        clear hrun1 hrun2
        refine cG.mono ?_
        rintro e wm ⟨⟨g4, rfl, hg4, hl4, hn4, -⟩, hb⟩
        have HBm := Lib.hid (below_two HBl.out hb)
        have HG1m := Lib.hid (HG1l.out.below hb)
        have hval : Hid (g4.v = g1.v.drop b) := Lib.hid (by
          have h1 := genL_behind b HL1.out
          rw [HQ3V.out] at hl4
          have h2 : g2.v = g1.v.take b := by rw [hbeg.out, HN2.out]
          rw [← h2] at h1
          refine genL_uniq hl4 h1 ?_
          rw [hg4.1.1, hn4, List.length_drop, hlen1.out]
          omega)
        have HG4 := Lib.hid hg4
        obtain ⟨bb, off, hga, hgc⟩ := HG1m.out.1.2.2.2 (by rw [HN1.out]; omega)
        have hEl := HG1m.out.1
        rw [hga] at hEl
        have hEd := hEl.drop b (by rw [HN1.out]; omega)
        have cI := ints9 g4.a (some ⟨bb, off + b, none⟩) g4.n (g1.n - b) g4.cap (g1.cap - b) g4.v (g1.v.drop b) wm hg4.1 hEd
        rw [decide_eq_true hval.out] at cI
        rw [hga]
        have l2 := HG1m.out.2.1
        have l1 : b < g1.n := by rw [HN1.out]; omega
        have l3 : ¬ g1.cap = b := by omega
        have l4 := HG1m.out.2.2.1
        clear cG hb HMl HBl HG1l hg4 hl4 hn4 hgc hga hEl hEd
        go_wp2_with fail
        refine cI.mono ?_
        rintro e wn ⟨rfl, hb⟩
        have HBn := Lib.hid (below_two HBm.out hb)
        clear cI hb
        go_wp2
        go_ret
        exact ⟨rfl, HBn.out⟩
    · obtain ⟨c, hcc⟩ : ∃ c, check9 s.v s.p q1.v 1 = c := ⟨_, rfl⟩
      rw [hcc] at cK hc
      have hc2 : (c == 0) = false := by simpa using hc
      have hc3 : (c != 0) = true := by simpa using hc
      clear hcc
      go_wp2_with fail
      refine cK.mono ?_
      rintro e we ⟨rfl, hb⟩
      have HBe := Lib.hid (below_two HBd.out hb)
      clear cK hb
      go_wp2
      go_ret
      exact ⟨rfl, HBe.out⟩
  · have hcase : 20 < q1.n ∨ (q1.n ≤ 20 ∧ 2000 < q0.n) := by omega
    clear hn
    rcases hcase with hn | ⟨hn, hn2⟩
    all_goals
      go_wp2_with fail
      refine cA.mono ?_
      rintro e wb ⟨rfl, hb⟩
      have HXSb := Lib.hid (HXS.out.bel hb)
      have z7 : wb.cell? ⟨w.heap.size, 7, none⟩ = some (.slice q0.a q0.n q0.cap) := HXSb.out.cell 7
      have HBb := Lib.hid (below_two HBA.out hb)
      have cA2 := awake9 wb (HT.out.bel HBb.out)
      clear cA hb HXS HXC HBA
      go_wp2_with fail
      refine cA2.mono ?_
      rintro e wc ⟨rfl, hb⟩
      have HBc := Lib.hid (below_two HBb.out hb)
      clear cA2 hb z7
      go_wp2
      go_ret
      exact ⟨rfl, HBc.out⟩

set_option maxRecDepth 100000 in
theorem lifted (os : Os) (started : os.Started) (H : Type) (enc : TypeId × Value → H) :
    ReturnsInHanded {} Tryd.checked os 5 .any (fun w args => (Rows.genGoesOnSpec.pre enc Tryd.prog Tryd.f5 [] false w args ∧ laidMetH Tryd.prog laidList9 w) ∧ sizedMet enc Tryd.prog Tryd.f5 (OpenSpec.ofChange Rows.genGoesOnSpec) false w args) (Rows.genGoesOnSpec.post enc Tryd.prog Tryd.f5 false true false false) := by
  refine returnsInHanded_of_change_and (C := Tryd.checked) (X := fun w _ => laidMetH Tryd.prog laidList9 w) (fun _ _ _ hh h => h.of_heap hh) own started (by kernel_rfl) Tryd.func5
    (ChangeSpec.witness_shaped (enc := enc) (C := Tryd.checked) (os := os) (X := fun w _ => laidMetH Tryd.prog laidList9 w) false (World.doorLaid Tryd.prog 400 os) #[.agg #[.int .i64 0, .int .i64 0, .int .i64 0, .int .i64 0, .int .i64 0, .int .i64 0, .int .u64 0, .slice none 0 0], .slice none 0 0, .agg #[.int .i64 0, .int .i64 0]] 8 rfl (World.shaped_of_RefB (by kernel_rfl) (by kernel_rfl)) (by kernel_rfl) (by kernel_rfl) (by kernel_rfl) (door_met9 os _)) ?_
  intro W base args ds gs before hval0 hW _ _ hL _
  have hval : ∀ (j : Nat) t v, Tryd.f5.params[j]? = some t → args[j]? = some v → Value.okWide Tryd.prog W .any base t v := hval0
  have hW' := hW
  obtain ⟨p, q, hA0, hV, rfl, hfz, hnd⟩ := hW
  have hA : DataW.TrodAll enc Tryd.prog W 0 (fun _ => true) true Tryd.f5.params.toList args.toList ds p := hA0
  rw [Tryd.params5] at hA hval
  obtain ⟨v0, vs0, d0, ds0, p0, q0, hargs, rfl, rfl, h0, r0⟩ := trodAll_cons hA
  obtain ⟨v1, vs1, d1, ds1, p1, q1, rfl, rfl, rfl, h1, r1⟩ := trodAll_cons r0
  obtain ⟨v2, vs2, d2, ds2, p2, q2, rfl, rfl, rfl, h2, r2⟩ := trodAll_cons r1
  obtain ⟨rfl, rfl, rfl⟩ := trodAll_nil r2
  obtain rfl : args = #[v0, v1, v2] := by cases args; simp_all
  obtain ⟨rfl, rfl⟩ := trodVars_none hV
  have k0 := h0
  have lt0 : ∀ x ∈ p0, x.block < W.heap.size := by obtain ⟨m, hm⟩ := k0; exact DataW.trod_lt m _ _ _ hm
  obtain ⟨xl0, xw0, xh0, xi0, xv0, xp0, sd0, q0, rfl, w0⟩ := open_seeds9 (hval 0 52 v0 rfl rfl) h0
  have k1 := h1
  have lt1 : ∀ x ∈ p1, x.block < W.heap.size := by obtain ⟨m, hm⟩ := k1; exact DataW.trod_lt m _ _ _ hm
  obtain ⟨q1, rfl, w1⟩ := open_rw Tryd.underlying27 Tryd.underlying3 (by kernel_rfl) (hval 1 27 v1 rfl rfl) h1
  obtain ⟨x2, y2, rfl, rfl, rfl, wx2, wy2⟩ := Go.WideMaps.open_pair arr2 Tryd.underlying3 (hval 2 53 v2 rfl rfl) h2
  have w2 := And.intro wx2 wy2
  clear hA0 hval0
  have hT := tabs_of_laid hL
  refine (walk xl0 xw0 xh0 xi0 xv0 xp0 sd0 q0 q1 x2 y2 W w0 w1 w2 hT).mono fun e W' ⟨he, bel⟩ => ?_
  subst he
  exact ⟨_, rfl, _, _, _, [], _, [], hW', trodAll_mk1 (shut_bool Tryd.underlying4 _), (trodAll_cons_mk (Below.trod laidOut (by kernel_rfl) (of_decide_eq_true (by kernel_rfl)) k0 bel lt0) (trodAll_cons_mk (Below.trod laidOut (by kernel_rfl) (of_decide_eq_true (by kernel_rfl)) k1 bel lt1) (trodAll_cons_mk (Go.WideMaps.shut_pair arr2 Tryd.underlying3 wx2 wy2) trodAll_mk0))), rfl, bel.frame _, fun h => by cases h⟩

theorem over : Rows.genGoesOnRow.holds Tryd.pinned (OpenSpec.ofChange Rows.genGoesOnSpec) :=
  OpenClaim.holds_of_wide 5 Tryd.f5 rfl rfl rfl rfl rfl rfl rfl ⟨rfl, rfl, rfl, rfl, rfl⟩ rfl rfl rfl rfl rfl (by kernel_rfl) Tryd.func5 (by kernel_rfl)
    (of_decide_eq_true (by kernel_rfl)) (by unfold Func.isWrapper; first | (rw [if_pos (by decide +kernel)]; kernel_rfl) | (rw [if_neg (by decide +kernel)]; exact ⟨rfl, rfl⟩))
    (fun os started H enc _ => lifted os started H enc)

/-- the row's statement -/
theorem said : Rows.GenGoesOnSaid := over

/-- THE STATEMENT: the tied card -/
theorem proved : Rows.GenGoesOnCardSaid :=
  Claim7.holds_tied_plain_at .later [] [.data, .data] true (true, "af47729238bd4eb6deba0d8dacfa67202db43c79d262ee87be7b2fd57e2adb8c") true
    said (fun _ h => by cases h) (by kernel_rfl) (fun _ h => by cases h) genGoesOn_row_tie rfl ⟨rfl, rfl⟩ (by kernel_rfl) rfl
    (fun f fn hf hfn => by
      obtain rfl : f = 5 := Option.some.inj ((show Tryd.prog.funcNamed "peloton/pelotonlaw09.GenGoesOn" = some 5 by kernel_rfl).symm.trans hf) |>.symm
      obtain rfl : fn = Tryd.f5 := (Option.some.inj (Tryd.func5.symm.trans hfn)).symm
      exact ⟨by kernel_rfl, fun j t ht => by
        rw [Tryd.params5] at ht
        have hm : t ∈ [52, 27, 53] := by simpa using Array.mem_of_getElem? ht
        have hall : ([52, 27, 53].all fun u => !Tryd.prog.wantsStandIn u) = true := by kernel_rfl
        exact (show Tryd.prog.wantsStandIn t = false by simpa using List.all_eq_true.1 hall t hm)⟩)
    (by kernel_rfl)
#print axioms proved
end Go.Proofs.YtdclfcfdadkmeaaDoor.genGoesOn
