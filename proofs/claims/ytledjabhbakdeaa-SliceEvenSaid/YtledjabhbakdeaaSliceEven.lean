/-
  Proved: for any numbers SliceEven returns true (stages have as many layers as one another, or one more; parts have as many heads and inner numbers each) and nothing that was in memory turns. No condition.
-/
import Derived.Test.YtledjabhbakdeaaRows
import Derived.WalkKit
import Derived.ProofKit
import Derived.OpenShut
import Derived.ShutString
import Derived.ChangeOld
import Derived.Below
import Derived.Test.YtledjabhbakdeaaShapeRow
import Derived.Test.YtledjabhbakdeaaAwake10
import Derived.Test.YtledjabhbakdeaaEven10
import Derived.BigQuiet
import Derived.IntWalk
namespace Go.Proofs.Ytledjabhbakdeaa.sliceEven
open Go.ChangeShapes Go.WideShapes Go.ChangeAt Go.RowKit
open Go.ChangeMaps (open_string shut_string)
set_option linter.unusedVariables false

theorem own : ownKnob Try.prog.godebug = none := by kernel_rfl
theorem laidOut : laidOutB Try.prog = true := by kernel_rfl

set_option maxHeartbeats 6400000 in
set_option maxRecDepth 100000 in
theorem walk (sl0 sw0 sh0 si0 sv0 sp0 : Int) (a1 : Int) (a2 : Int) (w : World) (h0 : Six sl0 sw0 sh0 si0 sv0 sp0) (h1 : (Lit.int .i64 a1).wf = true) (h2 : (Lit.int .i64 a2).wf = true) :
    Calls Try.prog 6 #[.agg #[.int .i64 sl0, .int .i64 sw0, .int .i64 sh0, .int .i64 si0, .int .i64 sv0, .int .i64 sp0], .int .i64 a1, .int .i64 a2] w fun e w' => e = .returned (.bool true) ∧ Below w.heap.size w w' := by
  have ba := wf64 h1
  have bb := wf64 h2
  clear h0 h1 h2
  go_enter Try.func6, Try.ntmps6
  go_wp2_with fail
  refine (awake10 _).mono ?_
  rintro e wa ⟨rfl, hb⟩
  have X6 := (box_new w _ _).bel hb
  have B := below_two ((Below.refl w.heap.size w).alloc (Nat.le_refl _) _) hb
  obtain ⟨c0, c1, c2, c3, c4, c5⟩ := X6.cells6
  clear hb X6
  go_wp2_with fail
  refine (tiny_any _ _ _ _ _ _ _).mono ?_
  rintro e wb ⟨⟨s, hs, rfl⟩, hb⟩
  replace B := below_two B hb
  clear hb c0 c1 c2 c3 c4 c5
  have mk := fun W => mkcut_any s hs a1 a2 W ba bb
  have hok := hs.1
  unfold Sz.val shv at mk
  go_wp2_with fail
  refine (mk _).mono ?_
  rintro e wc ⟨⟨st, pt, rfl, oc, st3, pt8⟩, hb⟩
  have XS := (box_new wb _ _).bel hb
  replace B := below_two (B.alloc B.size _) hb
  clear hb mk
  go_wp2_with fail
  replace XS := XS.alloc (.cells #[Value.int .i64 st, .int .i64 pt] 25)
  have XC := box_new wc 25 #[Value.int .i64 st, .int .i64 pt]
  replace B := B.alloc B.size (.cells #[Value.int .i64 st, .int .i64 pt] 25)
  generalize (wc.alloc (.cells #[Value.int .i64 st, .int .i64 pt] 25)) = wd at *
  have r : SaysR s.l s.w s.h s.i s.v s.p st pt true := fun W => sright_yes _ _ _ _ _ _ _ _ W hok oc
  obtain ⟨bl, bh, bw, bi, bv, bp⟩ := hok.bd
  obtain ⟨s0, s1x, p0, p1, p2, p3⟩ := oc
  have p1' : s.h % pt = 0 := by exact_mod_cast p1
  have p2' : s.i % pt = 0 := by exact_mod_cast p2
  have i8 := hs.2.2.2.1
  have LY := fun W (j : Nat) hj => layers_yes s.l s.w s.h s.i s.v s.p st pt j s.l st W r rfl rfl (by omega) hj (by omega)
  have HY := fun W (j : Nat) hj => heads_yes s.l s.w s.h s.i s.v s.p st pt j s.h pt W r rfl rfl (by omega) hj (by omega)
  have IY := fun W (j : Nat) hj => inner_yes s.l s.w s.h s.i s.v s.p st pt j s.i pt W r rfl rfl (by omega) hj (by omega)
  have EV := Lib.hid (fun j => spn_even s.l st j (by omega))
  have EH := Lib.hid (fun j => spn_same s.h pt j (by omega) p1')
  have EI := Lib.hid (fun j => spn_same s.i pt j (by omega) p2')
  have SL := Lib.hid (fun j (hj : j ≤ st) => span_le s.l st j hj)
  have SH := Lib.hid (fun j (hj : j ≤ pt) => span_le s.h pt j hj)
  have SI := Lib.hid (fun j (hj : j ≤ pt) => span_le s.i pt j hj)
  unfold shv cutv at LY HY IY
  have HLY := Lib.hid LY
  have HHY := Lib.hid HY
  have HIY := Lib.hid IY
  have HS := Lib.hid XS
  have HC := Lib.hid XC
  have HB := Lib.hid B
  clear LY HY IY XS XC B r p1 p2 p3 p1' p2' hs hok
  obtain ⟨q, hq⟩ : ∃ q, q = s.l / st := ⟨_, rfl⟩
  have q1 : (s.l : Int) / (st : Int) = (q : Int) := by rw [hq]; push_cast; rfl
  obtain ⟨g, hg⟩ : ∃ g, g = s.h / pt := ⟨_, rfl⟩
  have g1 : (s.h : Int) / (pt : Int) = (g : Int) := by rw [hg]; push_cast; rfl
  obtain ⟨f, hf⟩ : ∃ f, f = s.i / pt := ⟨_, rfl⟩
  have f1 : (s.i : Int) / (pt : Int) = (f : Int) := by rw [hf]; push_cast; rfl
  have q2 : q ≤ 16 := by rw [hq]; have := Nat.div_le_self s.l st; omega
  have g2 : g ≤ 16 := by rw [hg]; have := Nat.div_le_self s.h pt; omega
  have f2 : f ≤ 16 := by rw [hf]; have := Nat.div_le_self s.i pt; omega
  rw [← hq] at EV
  rw [← hg] at EH
  rw [← hf] at EI
  have n0 : ¬ (st : Int) = 0 := by omega
  have n1 : ¬ (pt : Int) = 0 := by omega
  clear hq hg hf
  go_loopw [9] (fun x wr => ∃ k : Nat, k ≤ st ∧ x = .int .i64 k ∧ Below wd.heap.size wd wr) (fun x _ => st - (intOf x).toNat)
  case atStart => exact ⟨0, by omega, rfl, Below.refl _ _⟩
  case round =>
    obtain ⟨k, hk, rfl, hbel⟩ := hrel
    obtain ⟨c0, c1, c2, c3, c4, c5⟩ := (HS.out.bel hbel).cells6
    obtain ⟨d0, d1⟩ := two_cells (HC.out.bel hbel)
    by_cases hlt : k < st
    · have ly := fun W => HLY.out W k hlt
      have ev := EV.out k
      have sl := SL.out (k + 1) (by omega)
      generalize spanAt s.l st k = x at ly ev
      generalize spanAt s.l st (k + 1) = y at ly ev sl
      clear c0 c1 c2 c3 c4 c5 d0 d1
      obtain ⟨c0, c1, c2, c3, c4, c5⟩ := (HS.out.bel hbel).cells6
      obtain ⟨d0, d1⟩ := two_cells (HC.out.bel hbel)
      go_wp2_with fail
      refine (ly _).mono ?_
      rintro e we ⟨rfl, hb⟩
      have hbel2 := below_two hbel hb
      clear c0 c1 c2 c3 c4 c5 d0 d1 hb ly
      obtain ⟨c0, c1, c2, c3, c4, c5⟩ := ((HS.out.bel hbel2).alloc (.cells #[Value.int .i64 x, .int .i64 y] 29)).cells6
      obtain ⟨d0, d1⟩ := two_cells ((HC.out.bel hbel2).alloc (.cells #[Value.int .i64 x, .int .i64 y] 29))
      obtain ⟨y0, y1⟩ := two_cells (box_new we 29 #[Value.int .i64 x, .int .i64 y])
      have HB2 := Lib.hid (hbel2.alloc hbel2.size (.cells #[Value.int .i64 x, .int .i64 y] 29))
      clear hbel hbel2
      rcases ev with ev | ev
      · have e1 : (y : Int) - (x : Int) = (q : Int) := by omega
        clear ev
        go_wp2
        go_roundw
        case rel => exact ⟨k + 1, by omega, by go_num, HB2.out⟩
        case measure => simp [intOf]; omega
      · have e1 : (y : Int) - (x : Int) = ((q + 1 : Nat) : Int) := by omega
        obtain ⟨z, hz⟩ : ∃ z, z = q + 1 := ⟨_, rfl⟩
        rw [← hz] at e1
        have e2 : (q : Int) + 1 = (z : Int) := by omega
        have e3 : ((z : Int) != (q : Int)) = true := by simp; omega
        have e4 : ¬ (z : Int) = (q : Int) := by omega
        have hz2 := Lib.hid hz
        have z17 : z ≤ 17 := by omega
        clear ev hz
        go_wp2
        go_roundw
        case rel => exact ⟨k + 1, by omega, by go_num, HB2.out⟩
        case measure => simp [intOf]; omega
    · obtain rfl : k = st := by omega
      clear hlt c0 c1 c2 c3 c4 c5
      go_wp2_with fail
      go_loopw [13] (fun x wr => ∃ k : Nat, k ≤ pt ∧ x = .int .i64 k ∧ Below wd.heap.size wd wr) (fun x _ => pt - (intOf x).toNat)
      case atStart => exact ⟨0, by omega, rfl, hbel⟩
      case round =>
        obtain ⟨j, hj, rfl, hbel3⟩ := hrel
        obtain ⟨c0, c1, c2, c3, c4, c5⟩ := (HS.out.bel hbel3).cells6
        obtain ⟨d0, d1⟩ := two_cells (HC.out.bel hbel3)
        by_cases hlt : j < pt
        · have hy := fun W => HHY.out W j hlt
          have iy := fun W => HIY.out W j hlt
          have ev := EH.out j
          have ei := EI.out j
          have sl := SH.out (j + 1) (by omega)
          have si := SI.out (j + 1) (by omega)
          generalize spanAt s.h pt j = x at hy ev
          generalize spanAt s.h pt (j + 1) = y at hy ev sl
          generalize spanAt s.i pt j = u at iy ei
          generalize spanAt s.i pt (j + 1) = v at iy ei si
          have e1 : (y : Int) - (x : Int) = (g : Int) := by omega
          have e2 : (v : Int) - (u : Int) = (f : Int) := by omega
          clear ev ei
          go_wp2_with fail
          refine (hy _).mono ?_
          rintro e we ⟨rfl, hb⟩
          have hbel4 := below_two hbel3 hb
          clear c0 c1 c2 c3 c4 c5 d0 d1 hb hy
          obtain ⟨c0, c1, c2, c3, c4, c5⟩ := ((HS.out.bel hbel4).alloc (.cells #[Value.int .i64 x, .int .i64 y] 29)).cells6
          obtain ⟨d0, d1⟩ := two_cells ((HC.out.bel hbel4).alloc (.cells #[Value.int .i64 x, .int .i64 y] 29))
          have XA := box_new we 29 #[Value.int .i64 x, .int .i64 y]
          have hbel5 := hbel4.alloc hbel4.size (.cells #[Value.int .i64 x, .int .i64 y] 29)
          clear hbel4 hbel3
          go_wp2_with fail
          refine (iy _).mono ?_
          rintro e wf ⟨rfl, hb⟩
          have hbel6 := below_two hbel5 hb
          clear c0 c1 c2 c3 c4 c5 d0 d1 iy
          obtain ⟨c0, c1, c2, c3, c4, c5⟩ := ((HS.out.bel hbel6).alloc (.cells #[Value.int .i64 u, .int .i64 v] 29)).cells6
          obtain ⟨d0, d1⟩ := two_cells ((HC.out.bel hbel6).alloc (.cells #[Value.int .i64 u, .int .i64 v] 29))
          obtain ⟨x0, x1⟩ := two_cells ((XA.bel hb).alloc (.cells #[Value.int .i64 u, .int .i64 v] 29))
          obtain ⟨y0, y1⟩ := two_cells (box_new wf 29 #[Value.int .i64 u, .int .i64 v])
          have HB2 := Lib.hid (hbel6.alloc hbel6.size (.cells #[Value.int .i64 u, .int .i64 v] 29))
          clear hbel5 hbel6 hb XA
          go_upto_region 17 with (fail)
          go_quiet (fail)
          go_wp2
          go_roundw
          case rel => exact ⟨j + 1, by omega, by go_num, bel_drewN HB2.out _⟩
          case measure => simp [intOf]; omega
        · obtain rfl : j = pt := by omega
          clear c0 c1 c2 c3 c4 c5 hlt
          go_wp2
          go_ret
          exact ⟨rfl, below_two HB.out hbel3⟩

set_option maxRecDepth 100000 in
theorem lifted (os : Os) (started : os.Started) (H : Type) (enc : TypeId × Value → H) :
    ReturnsInHanded {} Try.checked os 6 .any (Rows.sliceEvenSpec.pre6 enc Try.prog Try.f6 Rows.sliceEvenRow.domain false) (Rows.sliceEvenSpec.post enc Try.prog Try.f6 false true false false) := by
  refine returnsInHanded_of_change (C := Try.checked) own started (by kernel_rfl) Try.func6
    (ChangeSpec.witness6 (enc := enc) (C := Try.checked) false ⟨#[], #[.agg #[.int .i64 0, .int .i64 0, .int .i64 0, .int .i64 0, .int .i64 0, .int .i64 0], .int .i64 0, .int .i64 0], []⟩ 8 (by kernel_rfl) (by kernel_rfl) (by kernel_rfl) (by kernel_rfl)) ?_
  intro W base args ds gs before hval0 hW hcnd _
  have hval : ∀ (j : Nat) t v, Try.f6.params[j]? = some t → args[j]? = some v → Value.okWide Try.prog W .any base t v := hval0
  have hW' := hW
  obtain ⟨p, q, hA0, hV, rfl, hfz, hnd⟩ := hW
  have hA : DataW.TrodAll enc Try.prog W 0 (fun _ => true) true Try.f6.params.toList args.toList ds p := hA0
  rw [Try.params6] at hA hval
  obtain ⟨v0, vs0, d0, ds0, p0, q0, hargs, rfl, rfl, h0, r0⟩ := trodAll_cons hA
  obtain ⟨v1, vs1, d1, ds1, p1, q1, rfl, rfl, rfl, h1, r1⟩ := trodAll_cons r0
  obtain ⟨v2, vs2, d2, ds2, p2, q2, rfl, rfl, rfl, h2, r2⟩ := trodAll_cons r1
  obtain ⟨rfl, rfl, rfl⟩ := trodAll_nil r2
  obtain rfl : args = #[v0, v1, v2] := by cases args; simp_all
  obtain ⟨rfl, rfl⟩ := trodVars_none hV
  have k0 := h0
  have lt0 : ∀ x ∈ p0, x.block < W.heap.size := by obtain ⟨m, hm⟩ := k0; exact DataW.trod_lt m _ _ _ hm
  obtain ⟨xl0, xw0, xh0, xi0, xv0, xp0, rfl, w0⟩ := open_six (hval 0 41 v0 rfl rfl) h0
  obtain ⟨a1, rfl, rfl, rfl, w1⟩ := open_int Try.underlying3 (hval 1 3 v1 rfl rfl) h1
  obtain ⟨a2, rfl, rfl, rfl, w2⟩ := open_int Try.underlying3 (hval 2 3 v2 rfl rfl) h2
  clear hA0 hval0
  refine (walk xl0 xw0 xh0 xi0 xv0 xp0 a1 a2 W w0 w1 w2).mono fun e W' ⟨he, bel⟩ => ?_
  subst he
  exact ⟨_, rfl, _, _, _, [], _, [], hW', trodAll_mk1 (shut_bool Try.underlying4 _), (trodAll_cons_mk (Below.trod laidOut (by kernel_rfl) (of_decide_eq_true (by kernel_rfl)) k0 bel lt0) (trodAll_cons_mk (shut_int Try.underlying3 w1) (trodAll_cons_mk (shut_int Try.underlying3 w2) trodAll_mk0))), rfl, bel.frame _, fun h => by cases h⟩

theorem over : Rows.sliceEvenRow.holds Try.pinned (OpenSpec.ofChange Rows.sliceEvenSpec) :=
  OpenClaim.holds_of_wide 6 Try.f6 rfl rfl rfl rfl rfl rfl rfl ⟨rfl, rfl, rfl, rfl, rfl⟩ rfl rfl rfl rfl rfl (by kernel_rfl) Try.func6 (by kernel_rfl)
    (of_decide_eq_true (by kernel_rfl)) (by unfold Func.isWrapper; first | (rw [if_pos (by decide +kernel)]; kernel_rfl) | (rw [if_neg (by decide +kernel)]; exact ⟨rfl, rfl⟩))
    (fun os started H enc _ => lifted os started H enc)

/-- ████ THE STATEMENT ████ -/
theorem proved : Rows.SliceEvenSaid := over
#print axioms proved
end Go.Proofs.Ytledjabhbakdeaa.sliceEven
