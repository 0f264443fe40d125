/-
  Proved: for any small model, prompt and number GenSays returns true (what is generated is the document's, what may not be is refused; prompts of more than 20 tokens are let go) and nothing that was in memory turns. No condition beside the row's own on the two tables.
-/
import Derived.Test.YtoeihigdndkjeaaGreatDoorRows
import Derived.WalkKit
import Derived.ProofKit
import Derived.OpenShut
import Derived.ShutString
import Derived.ChangeOld
import Derived.Below
import Derived.Test.YtoeihigdndkjeaaGreatDoorJ05
import Derived.Test.YtoeihigdndkjeaaGreatDoorJ04
import Derived.Test.YtoeihigdndkjeaaGreatDoorTie
import Derived.Test.YtoeihigdndkjeaaGreatDoorCards
import Derived.SevenTiedAt
import Derived.Test.YtoeihigdndkjeaaGreatDoorJ24
import Derived.Test.YtoeihigdndkjeaaGreatDoorJ33
import Derived.Test.YtoeihigdndkjeaaGreatDoorJ35
namespace Go.Proofs.YtoeihigdndkjeaaGreatDoor.genSays
open Go.ChangeShapes Go.WideShapes Go.ChangeAt Go.RowKit
open Go.ChangeMaps (open_string shut_string)
set_option linter.unusedVariables false

theorem own : ownKnob Tryz.prog.godebug = none := by kernel_rfl
theorem laidOut : laidOutB Tryz.prog = true := by kernel_rfl

set_option maxHeartbeats 16000000 in
set_option maxRecDepth 100000 in
theorem walk (sl0 sw0 sh0 si0 sv0 sp0 sd0 : Int) (q0 : Rw) (q1 : Rw) (a2 : Int) (w : World) (h0 : Six sl0 sw0 sh0 si0 sv0 sp0 ∧ (Lit.int .u64 sd0).wf = true ∧ q0.In .i8 w) (h1 : q1.In .i64 w) (h2 : (Lit.int .i64 a2).wf = true) (hT : Tabs9 w) :
    Calls Tryz.prog 6 #[.agg #[.int .i64 sl0, .int .i64 sw0, .int .i64 sh0, .int .i64 si0, .int .i64 sv0, .int .i64 sp0, .int .u64 sd0, .slice q0.a q0.n q0.cap], .slice q1.a q1.n q1.cap, .int .i64 a2] w fun e w' => e = .returned (.bool true) ∧ Below w.heap.size w w' := by
  obtain ⟨-, hsd, hq0⟩ := h0
  obtain ⟨sd, rfl, hsd2⟩ : ∃ k : Nat, sd0 = (k : Int) ∧ k < 18446744073709551616 := by
    have := wfu64 hsd
    exact ⟨sd0.toNat, by omega, by omega⟩
  have hb2 := wf64 h2
  clear hsd h2
  have B1 : ∀ (U : World) (o : Obj), Below U.heap.size U (U.alloc o) := fun U o => (Below.refl _ _).alloc (Nat.le_refl _) o
  have HQ1 := Lib.hid h1
  have HQ0 := Lib.hid hq0
  have HT := Lib.hid hT
  have hq1 := h1.2.1
  have hq2 := h1.2.2.1
  have hq3 := hq0.2.1
  have hq4 := hq0.2.2.1
  clear h1 hq0 hT
  go_enter Tryz.func6, Tryz.ntmps6
  go_upto_region 1 with (fail)
  generalize hwa : World.alloc _ _ = wa
  have XS : Box wa w.heap.size 73 #[.int .i64 sl0, .int .i64 sw0, .int .i64 sh0, .int .i64 si0, .int .i64 sv0, .int .i64 sp0, .int .u64 sd, .slice q0.a q0.n q0.cap] := by rw [← hwa]; exact box_new _ _ _
  have HB : Below w.heap.size w wa := by rw [← hwa]; exact (Below.refl _ _).alloc (Nat.le_refl _) _
  clear hwa
  have cA := awake9 wa (HT.out.bel HB)
  have HXS := Lib.hid XS
  have HBA := Lib.hid HB
  clear XS HB
  by_cases hn : q1.n ≤ 20 ∧ q0.n ≤ 2000
  · obtain ⟨hn1, hn2⟩ := hn
    go_wp2_with fail
    refine cA.mono ?_
    rintro e wb ⟨rfl, hb⟩
    have HXSb := Lib.hid (HXS.out.bel hb)
    have HBb := Lib.hid (below_two HBA.out hb)
    clear cA hb HXS HBA
    have z0 : wb.cell? ⟨w.heap.size, 0, none⟩ = some (.int .i64 sl0) := HXSb.out.cell 0
    have z1 : wb.cell? ⟨w.heap.size, 1, none⟩ = some (.int .i64 sw0) := HXSb.out.cell 1
    have z2 : wb.cell? ⟨w.heap.size, 2, none⟩ = some (.int .i64 sh0) := HXSb.out.cell 2
    have z3 : wb.cell? ⟨w.heap.size, 3, none⟩ = some (.int .i64 si0) := HXSb.out.cell 3
    have z4 : wb.cell? ⟨w.heap.size, 4, none⟩ = some (.int .i64 sv0) := HXSb.out.cell 4
    have z5 : wb.cell? ⟨w.heap.size, 5, none⟩ = some (.int .i64 sp0) := HXSb.out.cell 5
    have z6 : wb.cell? ⟨w.heap.size, 6, none⟩ = some (.int .u64 sd) := HXSb.out.cell 6
    have z7 : wb.cell? ⟨w.heap.size, 7, none⟩ = some (.slice q0.a q0.n q0.cap) := HXSb.out.cell 7
    have cM := made9 sl0 sw0 sh0 si0 sv0 sp0 sd hsd2 q0 wb (HQ0.out.below HBb.out) hn2
    go_wp2_with fail
    refine cM.mono ?_
    rintro e wc ⟨⟨m, s, W, V, rfl, -, hM⟩, hb⟩
    have HM := Lib.hid hM
    have HBc := Lib.hid (below_two HBb.out hb)
    clear cM hb hM HXSb  HBb z0 z1 z2 z3 z4 z5 z6 z7
    go_upto_region 4 with (first
      | (refine wpList_store_row (o := ⟨none, .store _ _ _, _, _, _, _⟩) rfl 50 _ _ rfl wc.heap.size W.cells rfl rfl 50 _ (box_new _ _ _) (by kernel_rfl) rfl (by simp [Wt7.cells, Value.oneCell']) ?_))
    generalize hwd : World.setRow _ _ _ = wd
    have XW : Box wd wc.heap.size 50 W.cells := by rw [← hwd]; exact (box_new _ _ _).setRow
    have hbd : Below wc.heap.size wc wd := by rw [← hwd]; exact below_setRow ((Below.refl _ _).alloc (Nat.le_refl _) _) (Nat.le_refl _) (by simp)
    have HMd := Lib.hid (HM.out.bel hbd)
    have HBd := Lib.hid (below_two HBc.out hbd)
    have HXW := Lib.hid XW
    obtain ⟨z0, z1, z2, z3, z4, z5⟩ := HM.out.cells XW
    have ok := HM.out.tiny.1
    have bd := ok.bd
    have hp12 := HM.out.p12
    have OK := Lib.hid ok
    have HSAME := Lib.hid HM.out.same
    clear hwd hbd HM  HBc XW ok z0 z1 z2 z3 z4 z5
    by_cases hc : check9 s.v s.p q1.v a2 = 0
    · obtain ⟨c1, -, c3, c4, c5⟩ := check9_ok hc
      rw [HQ1.out.1.1] at c1 c4 c5
      obtain ⟨most, rfl⟩ : ∃ most : Nat, a2 = (most : Int) := ⟨a2.toNat, by omega⟩
      have HC := Lib.hid hc
      have hmost : most ≤ 100 := by omega
      have cG := generate9 m s OK.out V wd HMd.out.mod (by omega) q1 (HQ1.out.below HBd.out) (by omega) most hc (HT.out.bel HBd.out).1 (HT.out.bel HBd.out).2.1 (HT.out.bel HBd.out).2.2.1 (HT.out.bel HBd.out).2.2.2
      clear hc c1 c3 c4 c5 bd
      go_wp2_with fail
      refine cG.mono ?_
      rintro e we ⟨⟨g1, rfl, hg1, hl1, hn3, -⟩, hb⟩
      have HMe := Lib.hid (HMd.out.bel hb)
      have HBe := Lib.hid (below_two HBd.out hb)
      have HXWe := Lib.hid (HXW.out.bel hb)
      have HG1 := Lib.hid hg1
      have HL1 := Lib.hid hl1
      have HN1 := Lib.hid hn3
      have cN := generate_nil q1.a q1.n q1.cap (most : Int) we
      clear cG hb HMd HBd HXW hg1 hl1 hn3
      go_wp2_with fail
      refine cN.mono ?_
      rintro e wf ⟨rfl, hb⟩
      have HMf := Lib.hid (HMe.out.bel hb)
      have HBf := Lib.hid (below_two HBe.out hb)
      have HXWf := Lib.hid (HXWe.out.bel hb)
      have HG1f := Lib.hid (HG1.out.below hb)
      have bd := OK.out.bd
      have cK := check_doc s.l s.w s.h s.i s.v s.p most q1.a q1.n q1.cap q1.v wf (by omega) (by omega) (by omega) (HQ1.out.1.below HBf.out) (by omega)
      unfold sh9 at cK
      rw [HC.out] at cK
      obtain ⟨z0, z1, z2, z3, z4, z5⟩ := HMf.out.cells HXWf.out
      clear cN hb HMe HBe HXWe HG1 bd
      go_wp2_with fail
      refine cK.mono ?_
      rintro e wg ⟨rfl, hb⟩
      have HMg := Lib.hid (HMf.out.bel hb)
      have HBg := Lib.hid (below_two HBf.out hb)
      have HXWg := Lib.hid (HXWf.out.bel hb)
      have HG1g := Lib.hid (HG1f.out.below hb)
      have XWg := HXWg.out
      have cD := generateD oneC s OK.out W wg HMg.out.inn HMg.out.six HMg.out.whole (by omega) q1 (HQ1.out.below HBg.out) (by omega) most HC.out
      clear cK hb HMf HBf HXWf HG1f z0 z1 z2 z3 z4 z5
      go_wp2_with (first
        | (refine wpList_load_row rfl 50 _ rfl wc.heap.size rfl 50 _ (0, 0) _ XWg Tryz.underlying50 rfl (by kernel_rfl) ?_)
        | (go_at_call 29; (with_reducible refine cD.mono ?_); rintro e wh ⟨⟨g2, rfl, hE2, hl2, hn2, -⟩, hb⟩
           have cI := ints9 g1.a g2.a g1.n g2.n g1.cap g2.cap g1.v g2.v wh (HG1g.out.1.below hb) hE2
           have heq : g1.v = g2.v := genL_uniq (by rw [← HSAME.out]; exact HL1.out) hl2 (by rw [HG1g.out.1.1, hE2.1, HN1.out, hn2])
           rw [decide_eq_true heq] at cI
           have HBh := Lib.hid (below_two HBg.out hb)
           clear hE2 hl2 hn2 hb heq cD)
        | (go_at_call 28; (with_reducible refine cI.mono ?_); rintro e wi ⟨rfl, hb⟩
           have HBi := Lib.hid (below_two HBh.out hb)
           clear hb cI))
      go_ret
      exact ⟨rfl, HBi.out⟩
    · have cG := generate_fault m s OK.out V wd HMd.out.mod q1.a q1.n q1.cap q1.v a2 hb2 (HQ1.out.1.below HBd.out) (by omega) hc
      have cK0 := fun wf h => check_doc s.l s.w s.h s.i s.v s.p a2 q1.a q1.n q1.cap q1.v wf (by omega) (by omega) hb2 h (by omega)
      unfold sh9 at cK0
      obtain ⟨c, hcc⟩ : ∃ c, check9 s.v s.p q1.v a2 = c := ⟨_, rfl⟩
      rw [hcc] at cG cK0 hc
      clear bd hcc
      go_wp2_with fail
      refine cG.mono ?_
      rintro e we ⟨rfl, hb⟩
      have HMe := Lib.hid (HMd.out.bel hb)
      have HBe := Lib.hid (below_two HBd.out hb)
      have HXWe := Lib.hid (HXW.out.bel hb)
      have cN := generate_nil q1.a q1.n q1.cap a2 we
      clear cG hb HMd HBd HXW
      go_wp2_with fail
      refine cN.mono ?_
      rintro e wf ⟨rfl, hb⟩
      have HMf := Lib.hid (HMe.out.bel hb)
      have HBf := Lib.hid (below_two HBe.out hb)
      have HXWf := Lib.hid (HXWe.out.bel hb)
      have cK := cK0 wf (HQ1.out.1.below HBf.out)
      obtain ⟨z0, z1, z2, z3, z4, z5⟩ := HMf.out.cells HXWf.out
      clear cN hb HMe HBe HXWe cK0
      go_wp2_with fail
      refine cK.mono ?_
      rintro e wg ⟨rfl, hb⟩
      have HBg := Lib.hid (below_two HBf.out hb)
      have hcne : (c != 0) = true := by simpa using hc
      clear cK hb HMf HBf HXWf z0 z1 z2 z3 z4 z5
      go_wp2
      go_ret
      exact ⟨rfl, HBg.out⟩
  · have hcase : 20 < q1.n ∨ (q1.n ≤ 20 ∧ 2000 < q0.n) := by omega
    clear hn
    rcases hcase with hn | ⟨hn, hn2⟩
    all_goals
      go_wp2_with fail
      refine cA.mono ?_
      rintro e wb ⟨rfl, hb⟩
      have HXSb := Lib.hid (HXS.out.bel hb)
      have z7 : wb.cell? ⟨w.heap.size, 7, none⟩ = some (.slice q0.a q0.n q0.cap) := HXSb.out.cell 7
      have HBb := Lib.hid (below_two HBA.out hb)
      have cA2 := awake9 wb (HT.out.bel HBb.out)
      clear cA hb HXS HBA
      go_wp2_with fail
      refine cA2.mono ?_
      rintro e wc ⟨rfl, hb⟩
      have HBc := Lib.hid (below_two HBb.out hb)
      clear cA2 hb z7
      go_wp2
      go_ret
      exact ⟨rfl, HBc.out⟩

set_option maxRecDepth 100000 in
theorem lifted (os : Os) (started : os.Started) (H : Type) (enc : TypeId × Value → H) :
    ReturnsInHanded {} Tryz.checked os 6 .any (fun w args => (Rows.genSaysSpec.pre enc Tryz.prog Tryz.f6 [] false w args ∧ laidMetH Tryz.prog laidList9 w) ∧ sizedMet enc Tryz.prog Tryz.f6 (OpenSpec.ofChange Rows.genSaysSpec) false w args) (Rows.genSaysSpec.post enc Tryz.prog Tryz.f6 false true false false) := by
  refine returnsInHanded_of_change_and (C := Tryz.checked) (X := fun w _ => laidMetH Tryz.prog laidList9 w) (fun _ _ _ hh h => h.of_heap hh) own started (by kernel_rfl) Tryz.func6
    (ChangeSpec.witness_shaped (enc := enc) (C := Tryz.checked) (os := os) (X := fun w _ => laidMetH Tryz.prog laidList9 w) false (World.doorLaid Tryz.prog 400 os) #[.agg #[.int .i64 0, .int .i64 0, .int .i64 0, .int .i64 0, .int .i64 0, .int .i64 0, .int .u64 0, .slice none 0 0], .slice none 0 0, .int .i64 0] 8 rfl (World.shaped_of_RefB (by kernel_rfl) (by kernel_rfl)) (by kernel_rfl) (by kernel_rfl) (by kernel_rfl) (door_met9 os _)) ?_
  intro W base args ds gs before hval0 hW _ _ hL _
  have hval : ∀ (j : Nat) t v, Tryz.f6.params[j]? = some t → args[j]? = some v → Value.okWide Tryz.prog W .any base t v := hval0
  have hW' := hW
  obtain ⟨p, q, hA0, hV, rfl, hfz, hnd⟩ := hW
  have hA : DataW.TrodAll enc Tryz.prog W 0 (fun _ => true) true Tryz.f6.params.toList args.toList ds p := hA0
  rw [Tryz.params6] at hA hval
  obtain ⟨v0, vs0, d0, ds0, p0, q0, hargs, rfl, rfl, h0, r0⟩ := trodAll_cons hA
  obtain ⟨v1, vs1, d1, ds1, p1, q1, rfl, rfl, rfl, h1, r1⟩ := trodAll_cons r0
  obtain ⟨v2, vs2, d2, ds2, p2, q2, rfl, rfl, rfl, h2, r2⟩ := trodAll_cons r1
  obtain ⟨rfl, rfl, rfl⟩ := trodAll_nil r2
  obtain rfl : args = #[v0, v1, v2] := by cases args; simp_all
  obtain ⟨rfl, rfl⟩ := trodVars_none hV
  have k0 := h0
  have lt0 : ∀ x ∈ p0, x.block < W.heap.size := by obtain ⟨m, hm⟩ := k0; exact DataW.trod_lt m _ _ _ hm
  obtain ⟨xl0, xw0, xh0, xi0, xv0, xp0, sd0, q0, rfl, w0⟩ := open_seeds9 (hval 0 73 v0 rfl rfl) h0
  have k1 := h1
  have lt1 : ∀ x ∈ p1, x.block < W.heap.size := by obtain ⟨m, hm⟩ := k1; exact DataW.trod_lt m _ _ _ hm
  obtain ⟨q1, rfl, w1⟩ := open_rw Tryz.underlying35 Tryz.underlying3 (by kernel_rfl) (hval 1 35 v1 rfl rfl) h1
  obtain ⟨a2, rfl, rfl, rfl, w2⟩ := open_int Tryz.underlying3 (hval 2 3 v2 rfl rfl) h2
  clear hA0 hval0
  have hT := tabs_of_laid hL
  refine (walk xl0 xw0 xh0 xi0 xv0 xp0 sd0 q0 q1 a2 W w0 w1 w2 hT).mono fun e W' ⟨he, bel⟩ => ?_
  subst he
  exact ⟨_, rfl, _, _, _, [], _, [], hW', trodAll_mk1 (shut_bool Tryz.underlying4 _), (trodAll_cons_mk (Below.trod laidOut (by kernel_rfl) (of_decide_eq_true (by kernel_rfl)) k0 bel lt0) (trodAll_cons_mk (Below.trod laidOut (by kernel_rfl) (of_decide_eq_true (by kernel_rfl)) k1 bel lt1) (trodAll_cons_mk (shut_int Tryz.underlying3 w2) trodAll_mk0))), rfl, bel.frame _, fun h => by cases h⟩

theorem over : Rows.genSaysRow.holds Tryz.pinned (OpenSpec.ofChange Rows.genSaysSpec) :=
  OpenClaim.holds_of_wide 6 Tryz.f6 rfl rfl rfl rfl rfl rfl rfl ⟨rfl, rfl, rfl, rfl, rfl⟩ rfl rfl rfl rfl rfl (by kernel_rfl) Tryz.func6 (by kernel_rfl)
    (of_decide_eq_true (by kernel_rfl)) (by unfold Func.isWrapper; first | (rw [if_pos (by decide +kernel)]; kernel_rfl) | (rw [if_neg (by decide +kernel)]; exact ⟨rfl, rfl⟩))
    (fun os started H enc _ => lifted os started H enc)

/-- the row's statement -/
theorem said : Rows.GenSaysSaid := over

/-- THE STATEMENT: the tied card -/
theorem proved : Rows.GenSaysCardSaid :=
  Claim7.holds_tied_plain_at .later [] [.data, .data] true (true, "9491c1b2270f2e0c101a760e0ee5449b3d1cdcca79f8ea9c1e20f63c71c59fbe") true
    said (fun _ h => by cases h) (by kernel_rfl) (fun _ h => by cases h) genSays_row_tie rfl ⟨rfl, rfl⟩ (by kernel_rfl) rfl
    (fun f fn hf hfn => by
      obtain rfl : f = 6 := Option.some.inj ((show Tryz.prog.funcNamed "peloton/pelotonlaw09.GenSays" = some 6 by kernel_rfl).symm.trans hf) |>.symm
      obtain rfl : fn = Tryz.f6 := (Option.some.inj (Tryz.func6.symm.trans hfn)).symm
      exact ⟨by kernel_rfl, fun j t ht => by
        rw [Tryz.params6] at ht
        have hm : t ∈ [73, 35, 3] := by simpa using Array.mem_of_getElem? ht
        have hall : ([73, 35, 3].all fun u => !Tryz.prog.wantsStandIn u) = true := by kernel_rfl
        exact (show Tryz.prog.wantsStandIn t = false by simpa using List.all_eq_true.1 hall t hm)⟩)
    (by kernel_rfl)
#print axioms proved
end Go.Proofs.YtoeihigdndkjeaaGreatDoor.genSays
