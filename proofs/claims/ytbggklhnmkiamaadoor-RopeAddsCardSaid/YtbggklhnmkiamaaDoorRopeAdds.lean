/-
  Proved: for any two places, pair and row RopeAdds returns true (angles add up place by place; pairs are turned each by itself, whatever stands beside) and nothing that was in memory turns. Conditions: the table reads as the program's initialisers lay it (tied by the card).
-/
import Derived.Test.YtbggklhnmkiamaaDoorRows
import Derived.WalkKit
import Derived.ProofKit
import Derived.OpenShut
import Derived.ShutString
import Derived.ChangeOld
import Derived.Below
import Derived.Test.YtbggklhnmkiamaaDoorRwRow
import Derived.Test.YtbggklhnmkiamaaDoorLaid6
import Derived.Test.YtbggklhnmkiamaaDoorTie
import Derived.Test.YtbggklhnmkiamaaDoorCards
import Derived.SevenTiedAt
import Derived.Test.YtbggklhnmkiamaaDoorAwake6
import Derived.Test.YtbggklhnmkiamaaDoorPairMap
import Derived.Test.YtbggklhnmkiamaaDoorTurnZero
import Derived.Test.YtbggklhnmkiamaaDoorRwRow
import Derived.Deep.CutRange
import Derived.Deep.RegionHeld3
namespace Go.Proofs.YtbggklhnmkiamaaDoor.ropeAdds
open Go.ChangeShapes Go.WideShapes Go.ChangeAt Go.RowKit
open Go.ChangeMaps (open_string shut_string)
set_option linter.unusedVariables false

theorem own : ownKnob Tryd.prog.godebug = none := by kernel_rfl
theorem laidOut : laidOutB Tryd.prog = true := by kernel_rfl

set_option maxHeartbeats 3200000 in
set_option maxRecDepth 100000 in
theorem walk (x0 y0 : Int) (a1 : Int) (q2 : Rw) (w : World) (h0 : (Lit.int .i64 x0).wf = true ∧ (Lit.int .i64 y0).wf = true) (h1 : (Lit.int .i64 a1).wf = true) (h2 : q2.In .i8 w) (hT : STab w) :
    Calls Tryd.prog 7 #[.agg #[.int .i64 x0, .int .i64 y0], .int .i64 a1, .slice q2.a q2.n q2.cap] w fun e w' => e = .returned (.bool true) ∧ Below w.heap.size w w' := by
  obtain ⟨a2, len2, cap2, xs⟩ := q2
  have hX := h2
  have n1 := hX.1.2.1
  simp only at n1 ⊢
  obtain ⟨x1, x2⟩ := wf64 h0.1
  obtain ⟨y1, y2⟩ := wf64 h0.2
  obtain ⟨p1, p2⟩ := wf64 h1
  clear h2 h0 h1
  have B0 := (Below.refl w.heap.size w).alloc (Nat.le_refl _) (.cells #[.int .i64 x0, .int .i64 y0] 38)
  have hT0 := hT.below B0
  have hX0 := hX.below B0
  by_cases c0 : 100 < len2
  · have c0' : (100 : Int) < (len2 : Int) := by omega
    clear hX hX0 hT
    go_enter Tryd.func7, Tryd.ntmps7
    go_wp2_with fail
    refine (awake6 _ hT0).mono ?_
    rintro e wa ⟨rfl, hb1⟩
    have hT1 := hT0.below hb1
    have hb2 := below_two B0 hb1
    clear hT0 hb1 B0
    go_wp2_with fail
    refine (awake6 _ hT1).mono ?_
    rintro e wb ⟨rfl, hb3⟩
    clear hT1
    go_wp2
    go_ret
    exact ⟨rfl, below_two hb2 hb3⟩
  · have c0' : ¬ (100 : Int) < (len2 : Int) := by omega
    by_cases c1 : len2 % 2 = 1
    · have c1' : ((len2 : Int) % 2 != 0) = true := by simp; omega
      clear hX hX0 hT c1
      go_enter Tryd.func7, Tryd.ntmps7
      go_wp2_with fail
      refine (awake6 _ hT0).mono ?_
      rintro e wa ⟨rfl, hb1⟩
      have hT1 := hT0.below hb1
      have hb2 := below_two B0 hb1
      clear hT0 hb1 B0
      go_wp2_with fail
      refine (awake6 _ hT1).mono ?_
      rintro e wb ⟨rfl, hb3⟩
      clear hT1
      go_wp2
      go_ret
      exact ⟨rfl, below_two hb2 hb3⟩
    · have c1' : ((len2 : Int) % 2 != 0) = false := by simp; omega
      have H1 : Hid (len2 % 2 = 0) := Lib.hid (by omega)
      clear c1 hX hT
      have r1 := rest_by x0 1000 (by decide)
      have r2 := rest_by y0 1000 (by decide)
      have r3 := rest_by a1 20 (by decide)
      have z0 : (w.alloc (.cells #[.int .i64 x0, .int .i64 y0] 38)).cell? ⟨w.heap.size, 0, none⟩ = some (.int .i64 x0) := by simp
      have z1 : (w.alloc (.cells #[.int .i64 x0, .int .i64 y0] 38)).cell? ⟨w.heap.size, 1, none⟩ = some (.int .i64 y0) := by simp
      obtain ⟨u, hu⟩ : ∃ u, x0.tmod 1000 = u := ⟨_, rfl⟩
      obtain ⟨v, hv⟩ : ∃ v, y0.tmod 1000 = v := ⟨_, rfl⟩
      obtain ⟨t, ht⟩ : ∃ t, a1.tmod 20 = t := ⟨_, rfl⟩
      rw [hu] at r1
      rw [hv] at r2
      rw [ht] at r3
      obtain ⟨A, hA⟩ : ∃ A, (u + 1000).tmod 1000 = A := ⟨_, rfl⟩
      obtain ⟨B, hB⟩ : ∃ B, (v + 1000).tmod 1000 = B := ⟨_, rfl⟩
      obtain ⟨K, hK⟩ : ∃ K, t % 20 = K := ⟨_, rfl⟩
      have A0 : 0 ≤ A ∧ A < 1000 := by rw [← hA, Int.tmod_eq_emod_of_nonneg (by omega)]; omega
      have B0' : 0 ≤ B ∧ B < 1000 := by rw [← hB, Int.tmod_eq_emod_of_nonneg (by omega)]; omega
      have K0 : 0 ≤ K ∧ K < 20 := by omega
      have e0 : IntKind.i64.wrap (u + 1000) = u + 1000 := IntWalk.i64_in _ (by omega)
      have e1 : IntKind.i64.wrap (v + 1000) = v + 1000 := IntWalk.i64_in _ (by omega)
      have g1 := angle_any A K (by omega) (by omega)
      have g2 := angle_any B K (by omega) (by omega)
      have g3 := angle_any (A + B) K (by omega) (by omega)
      have b1 := ang_bd A K
      have b2 := ang_bd B K
      have hg := ang_add (a := A) (b := B) (k := K) A0.1 B0'.1 (by omega) K0.1
      generalize ang A K = G1 at g1 b1 hg
      generalize ang B K = G2 at g2 b2 hg
      generalize ang (A + B) K = G3 at g3 hg
      have hne : (G3 != G3) = false := by simp
      go_enter Tryd.func7, Tryd.ntmps7
      go_wp2_with fail
      refine (awake6 _ hT0).mono ?_
      rintro e wa ⟨rfl, hb1⟩
      have hT1 := hT0.below hb1
      have hX1 := hX0.below hb1
      have hb2 := below_two B0 hb1
      have k0 := hb1.cell (p := ⟨w.heap.size, 0, none⟩) (by simp)
      have k1 := hb1.cell (p := ⟨w.heap.size, 1, none⟩) (by simp)
      rw [z0] at k0
      rw [z1] at k1
      clear hT0 hX0 hb1 B0 z0 z1
      go_upto_region 3 with (fail)
      go_quiet (fail)
      clear e0 e1 hu hv hA hB
      go_upto_region 5 with (fail)
      clear ht
      go_wp2_with (first
        | (go_at_call 13; (with_reducible refine (g1 _).mono ?_); rintro e w' ⟨rfl, rfl⟩)
        | (go_at_call 13; (with_reducible refine (g2 _).mono ?_); rintro e w' ⟨rfl, rfl⟩)
        | (go_at_call 13; (with_reducible refine (g3 _).mono ?_); rintro e w' ⟨rfl, rfl⟩))
      clear g1 g2 g3 hK hg hne
      go_upto_region 7 with (fail)
      generalize hwb : wa.drewN _ = wb
      have hbb : Below wa.heap.size wa wb := by rw [← hwb]; exact below_drewN (Below.refl _ _) _
      have hT2 := hT1.below hbb
      have hX2 := hX1.below hbb
      have hb3 := below_two hb2 hbb
      clear hwb hbb hT1 hX1 hb2 k0 k1
      refine (turn_yes A _ len2 cap2 xs wb hX2.1 (by omega) H1.out (by omega) (by omega) hT2).mono ?_
      rintro e wc ⟨⟨g, rfl, hY⟩, hb4⟩
      have hT3 := hT2.below hb4
      have hX3 := hX2.below hb4
      have hb5 := below_two hb3 hb4
      have hl : ((len2 : Int) != (len2 : Int)) = false := by simp
      clear hT2 hX2 hb3 hb4
      obtain ⟨m, hm⟩ : ∃ m : Nat, len2 ≤ 2 * m ∧ 2 * m ≤ len2 := ⟨len2 / 2, by have := H1.out; omega⟩
      have hlen : xs.length = len2 := hX3.1.1
      have HLEN := Lib.hid hlen
      clear hlen
      go_upto_region 10 with (fail)
      clear hl
      go_wp2
      go_loopw [12] (fun x wr => ∃ (k j : Nat), (j ≤ 2 * k ∧ 2 * k ≤ j) ∧ j ≤ len2 ∧ x = .int .i64 j ∧ Below wc.heap.size wc wr) (fun x _ => len2 - (intOf x).toNat)
      case atStart => exact ⟨0, 0, by omega, by omega, rfl, Below.refl _ _⟩
      case round =>
        obtain ⟨k, j, hjk, hj, rfl, hbel⟩ := hrel
        by_cases hlt : j + 1 < len2
        · obtain ⟨j1, hj1⟩ : ∃ j1 : Nat, (j : Int) + 1 = (j1 : Int) := ⟨j + 1, by omega⟩
          have hjn1 : j1 < len2 := by omega
          have hjn : j < len2 := by omega
          have hmk := run_make_row' (P := Tryd.prog) 26 41 (.int .i8 0) 1 Tryd.underlying26 info8 rfl .i64 .i64 len2 (by omega) (by omega)
          have hXr := hX3.below hbel
          have hYr := hY.below hbel
          obtain ⟨b, off, x, he, hc, hv, wv⟩ := hXr.1.at_ (i := j) (by show j < len2; omega)
          simp only at he
          subst he
          obtain ⟨b', off', y, he, hc2, hu2, wu⟩ := hXr.1.at_ (i := j1) hjn1
          cases he
          have hbn := hXr.1.blk _ rfl (by show 0 < len2; omega)
          simp only at hbn
          have hmine := mine_made .i8 wr 41 len2 rfl
          have Bv := hbel.alloc hbel.size (.cells (madeCells #[Value.int .i8 0] len2) 41)
          have c1 := cell_kept6 ((Below.refl wr.heap.size wr).alloc (Nat.le_refl _) (.cells (madeCells #[Value.int .i8 0] len2) 41)) hc
          have c2 := cell_kept6 ((Below.refl wr.heap.size wr).alloc (Nat.le_refl _) (.cells (madeCells #[Value.int .i8 0] len2) 41)) hc2
          have hz := hbel.size
          have hxv : xs.getD j 0 = x := hv.out
          have hyv : xs.getD j1 0 = y := hu2.out
          have HV := Lib.hid hxv
          have HU := Lib.hid hyv
          clear hv hu2 hxv hyv hXr hYr
          go_upto_region 14 with (fail)
          generalize wr.alloc (.cells (madeCells #[Value.int .i8 0] len2) 41) = wv at hmine Bv c1 c2 ⊢
          generalize wr.heap.size = D at hmine hbn hz hmk ⊢
          clear hmk hc hc2
          have hr0 : (List.replicate len2 (0 : Int)).length = len2 := by simp
          have o0 := hmine.cell (k := j) (by omega)
          have o1 := (hmine.set j x).cell (k := j1) (by simp; omega)
          have f0 := hmine.frozen j
          have f1 := (hmine.set j x).frozen j1
          have hm3 := (hmine.set j x).set j1 y
          have k4 := (World.cell?_setCell_other wv ⟨D, j, none⟩ ⟨b, off + j, none⟩ (.int .i8 x) (by first | (simp; done) | (simp; omega))).trans c1
          have k5 := (World.cell?_setCell_other wv ⟨D, j, none⟩ ⟨b, off + j1, none⟩ (.int .i8 x) (by first | (simp; done) | (simp; omega))).trans c2
          have k6 := (World.cell?_setCell_other (wv.setCell ⟨D, j, none⟩ (.int .i8 x)) ⟨D, j1, none⟩ ⟨b, off + j, none⟩ (.int .i8 y) (by first | (simp; done) | (simp; omega))).trans k4
          have k7 := (World.cell?_setCell_other (wv.setCell ⟨D, j, none⟩ (.int .i8 x)) ⟨D, j1, none⟩ ⟨b, off + j1, none⟩ (.int .i8 y) (by first | (simp; done) | (simp; omega))).trans k5
          have hbz := (Bv.setCell (p := ⟨D, j, none⟩) hz (.int .i8 x)).setCell (p := ⟨D, j1, none⟩) hz (.int .i8 y)
          have e1 : IntKind.i64.wrap ((j : Int) + 1) = (j1 : Int) := by rw [hj1]; exact IntWalk.i64_in _ (by omega)
          clear hr0
          have HJ := Lib.hid hj1
          clear hj1
          go_region_held3 (fun w' => w'.cell? ⟨b, off + j, none⟩ = some (.int .i8 x) ∧ w'.cell? ⟨b, off + j1, none⟩ = some (.int .i8 y)) (first | go_keep | (go_split_ands; refine ⟨?_, ?_⟩ <;> assumption)) (fail)
          generalize hW : ((wv.setCell ⟨D, j, none⟩ (.int .i8 x)).setCell ⟨D, j1, none⟩ (.int .i8 y)).drew = W2
          have Bz : Below wc.heap.size wc W2 := by rw [← hW]; exact hbz.drew
          have hm4 : MineK .i8 W2 D 41 (((List.replicate len2 (0 : Int)).set j x).set j1 y) := by rw [← hW]; exact hm3
          have hEl := hm4.elems (n := len2) (by simp) (by omega) (pair_wf len2 j j1 x y (by assumption) wu)
          have hT4 := hT3.below Bz
          clear hW hm4 hm3 hbz k4 k5 k6 k7 o0 o1 f0 f1 hmine Bv c1 c2 hbn hz
          go_wp2_with fail
          refine (turn_yes A _ len2 len2 _ W2 hEl (by omega) H1.out (by omega) (by omega) hT4).mono ?_
          rintro e wx ⟨⟨g2, rfl, hZ⟩, hb6⟩
          have Bx := below_two Bz hb6
          have hYx := hY.below Bx
          have HP : Hid (turnAt A (((List.replicate len2 (0 : Int)).set j x).set j1 y) j = turnAt A xs j ∧ turnAt A (((List.replicate len2 (0 : Int)).set j x).set j1 y) j1 = turnAt A xs j1) := Lib.hid (by
            have a0 : j = 2 * k := by omega
            have a1 : j1 = 2 * k + 1 := by have := HJ.out; omega
            obtain ⟨q0, q1⟩ := one_pair len2 j j1 x y hjn hjn1 (by omega)
            have h := turn_same (place := A) (xs := ((List.replicate len2 (0 : Int)).set j x).set j1 y) (ys := xs) (k := k) (by rw [← a0, q0, HV.out]) (by rw [← a1, q1, HU.out])
            rw [← a1, ← a0] at h
            exact h)
          obtain ⟨_, _, p, he, d0, hp, _⟩ := hYx.at_ hjn
          cases he
          obtain ⟨_, _, q, he, d1, hq, _⟩ := hYx.at_ hjn1
          cases he
          obtain ⟨_, _, p', he, d2, hp', _⟩ := hZ.at_ hjn
          cases he
          obtain ⟨_, _, q', he, d3, hq', _⟩ := hZ.at_ hjn1
          cases he
          obtain rfl : p' = p := by rw [← hp'.out, ← hp.out, turnL_at _ _ _ _ hjn, turnL_at _ _ _ _ hjn, HP.out.1]
          obtain rfl : q' = q := by rw [← hq'.out, ← hq.out, turnL_at _ _ _ _ hjn1, turnL_at _ _ _ _ hjn1, HP.out.2]
          rw [Nat.zero_add] at d0 d1 d2 d3
          have t0 : (p' != p') = false := by simp
          have t1 : (q' != q') = false := by simp
          have t2 : ((len2 : Int) != (len2 : Int)) = false := by simp
          clear hp hq hp' hq' HP hYx hZ hEl hT4 Bz hb6 HV HU
          go_upto_region 16 with (fail)
          go_quiet (fail)
          clear t0 t1 t2 d0 d1 d2 d3 e1
          go_wp2
          go_roundw
          case rel => exact ⟨k + 1, j + 2, by omega, by have := HJ.out; omega, by go_num, below_drewN Bx _⟩
          case measure => simp [intOf]; omega
        · clear hX3 hY
          go_wp2
          go_ret
          exact ⟨rfl, below_two hb5 hbel⟩

set_option maxRecDepth 100000 in
theorem lifted (os : Os) (started : os.Started) (H : Type) (enc : TypeId × Value → H) :
    ReturnsInHanded {} Tryd.checked os 7 .any (fun w args => (Rows.ropeAddsSpec.pre enc Tryd.prog Tryd.f7 [] false w args ∧ laidMetH Tryd.prog laidList6 w) ∧ sizedMet enc Tryd.prog Tryd.f7 (OpenSpec.ofChange Rows.ropeAddsSpec) false w args) (Rows.ropeAddsSpec.post enc Tryd.prog Tryd.f7 false true false false) := by
  refine returnsInHanded_of_change_and (C := Tryd.checked) (X := fun w _ => laidMetH Tryd.prog laidList6 w) (fun _ _ _ hh h => h.of_heap hh) own started (by kernel_rfl) Tryd.func7
    (ChangeSpec.witness_shaped (enc := enc) (C := Tryd.checked) (os := os) (X := fun w _ => laidMetH Tryd.prog laidList6 w) false (World.doorLaid Tryd.prog 400 os) #[.agg #[.int .i64 0, .int .i64 0], .int .i64 0, .slice none 0 0] 8 rfl (World.shaped_of_RefB (by kernel_rfl) (by kernel_rfl)) (by kernel_rfl) (by kernel_rfl) (by kernel_rfl) (door_met6 os _)) ?_
  intro W base args ds gs before hval0 hW _ _ hL _
  have hval : ∀ (j : Nat) t v, Tryd.f7.params[j]? = some t → args[j]? = some v → Value.okWide Tryd.prog W .any base t v := hval0
  have hW' := hW
  obtain ⟨p, q, hA0, hV, rfl, hfz, hnd⟩ := hW
  have hA : DataW.TrodAll enc Tryd.prog W 0 (fun _ => true) true Tryd.f7.params.toList args.toList ds p := hA0
  rw [Tryd.params7] at hA hval
  obtain ⟨v0, vs0, d0, ds0, p0, q0, hargs, rfl, rfl, h0, r0⟩ := trodAll_cons hA
  obtain ⟨v1, vs1, d1, ds1, p1, q1, rfl, rfl, rfl, h1, r1⟩ := trodAll_cons r0
  obtain ⟨v2, vs2, d2, ds2, p2, q2, rfl, rfl, rfl, h2, r2⟩ := trodAll_cons r1
  obtain ⟨rfl, rfl, rfl⟩ := trodAll_nil r2
  obtain rfl : args = #[v0, v1, v2] := by cases args; simp_all
  obtain ⟨rfl, rfl⟩ := trodVars_none hV
  obtain ⟨x0, y0, rfl, rfl, rfl, wx0, wy0⟩ := Go.WideMaps.open_pair arr2 Tryd.underlying3 (hval 0 38 v0 rfl rfl) h0
  have w0 := And.intro wx0 wy0
  obtain ⟨a1, rfl, rfl, rfl, w1⟩ := open_int Tryd.underlying3 (hval 1 3 v1 rfl rfl) h1
  have k2 := h2
  have lt2 : ∀ x ∈ p2, x.block < W.heap.size := by obtain ⟨m, hm⟩ := k2; exact DataW.trod_lt m _ _ _ hm
  obtain ⟨q2, rfl, w2⟩ := open_rw Tryd.underlying26 Tryd.underlying41 (by kernel_rfl) (hval 2 26 v2 rfl rfl) h2
  clear hA0 hval0
  have hT := stab_of_laid hL
  refine (walk x0 y0 a1 q2 W w0 w1 w2 hT).mono fun e W' ⟨he, bel⟩ => ?_
  subst he
  exact ⟨_, rfl, _, _, _, [], _, [], hW', trodAll_mk1 (shut_bool Tryd.underlying4 _), (trodAll_cons_mk (Go.WideMaps.shut_pair arr2 Tryd.underlying3 wx0 wy0) (trodAll_cons_mk (shut_int Tryd.underlying3 w1) (trodAll_cons_mk (Below.trod laidOut (by kernel_rfl) (of_decide_eq_true (by kernel_rfl)) k2 bel lt2) trodAll_mk0))), rfl, bel.frame _, fun h => by cases h⟩

theorem over : Rows.ropeAddsRow.holds Tryd.pinned (OpenSpec.ofChange Rows.ropeAddsSpec) :=
  OpenClaim.holds_of_wide 7 Tryd.f7 rfl rfl rfl rfl rfl rfl rfl ⟨rfl, rfl, rfl, rfl, rfl⟩ rfl rfl rfl rfl rfl (by kernel_rfl) Tryd.func7 (by kernel_rfl)
    (of_decide_eq_true (by kernel_rfl)) (by unfold Func.isWrapper; first | (rw [if_pos (by decide +kernel)]; kernel_rfl) | (rw [if_neg (by decide +kernel)]; exact ⟨rfl, rfl⟩))
    (fun os started H enc _ => lifted os started H enc)

/-- the row's statement -/
theorem said : Rows.RopeAddsSaid := over

/-- THE STATEMENT: the tied card -/
theorem proved : Rows.RopeAddsCardSaid :=
  Claim7.holds_tied_plain_at .later [] [.data] true (true, "37de5bb9a3743b0e4af4fafce8e0a0ad854add1be9201d4b2f2084e34ad96049") false
    said (fun _ h => by cases h) (by kernel_rfl) (fun _ h => by cases h) ropeAdds_row_tie rfl ⟨rfl, rfl⟩ (by kernel_rfl) rfl
    (fun f fn hf hfn => by
      obtain rfl : f = 7 := Option.some.inj ((show Tryd.prog.funcNamed "peloton/pelotonlaw06.RopeAdds" = some 7 by kernel_rfl).symm.trans hf) |>.symm
      obtain rfl : fn = Tryd.f7 := (Option.some.inj (Tryd.func7.symm.trans hfn)).symm
      exact ⟨by kernel_rfl, fun j t ht => by
        rw [Tryd.params7] at ht
        have hm : t ∈ [38, 3, 26] := by simpa using Array.mem_of_getElem? ht
        have hall : ([38, 3, 26].all fun u => !Tryd.prog.wantsStandIn u) = true := by kernel_rfl
        exact (show Tryd.prog.wantsStandIn t = false by simpa using List.all_eq_true.1 hall t hm)⟩)
    (by kernel_rfl)
#print axioms proved
end Go.Proofs.YtbggklhnmkiamaaDoor.ropeAdds
