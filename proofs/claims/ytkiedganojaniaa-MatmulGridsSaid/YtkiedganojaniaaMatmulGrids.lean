/-
  Proved: for every matrix and every row MatmulGrids returns true (a matrix' product is the product of its grid with the row as a column) and nothing that was in memory turns. Conditions: none.
-/
import Derived.Test.YtkiedganojaniaaRows
import Derived.WalkKit
import Derived.ProofKit
import Derived.OpenShut
import Derived.ShutString
import Derived.ChangeOld
import Derived.Below
import Derived.Test.YtkiedganojaniaaMatRow
import Derived.Test.YtkiedganojaniaaLaw4
import Derived.Test.YtkiedganojaniaaMNarrow
import Derived.Test.YtkiedganojaniaaRefTimes
import Derived.Test.YtkiedganojaniaaGridsMath
import Derived.Deep.RegionLaw
namespace Go.Proofs.Ytkiedganojaniaa.matmulGrids
open Go.ChangeShapes Go.WideShapes Go.ChangeAt Go.RowKit
open Go.ChangeMaps (open_string shut_string)
set_option linter.unusedVariables false

theorem own : ownKnob Try.prog.godebug = none := by kernel_rfl
theorem laidOut : laidOutB Try.prog = true := by kernel_rfl

set_option maxHeartbeats 8000000 in
set_option maxRecDepth 100000 in
theorem walk (g0 : Gr) (q1 : Rw) (w : World) (h0 : g0.In8 w) (h1 : q1.In .i8 w) :
    Calls Try.prog 8 #[.agg #[.int .i64 g0.r, .int .i64 g0.c, .slice g0.a g0.n g0.cap], .slice q1.a q1.n q1.cap] w fun e w' => e = .returned (.bool true) ∧ Below w.heap.size w w' := by
  have hgn := h0.1.2.1
  have hn1 := h1.1.2.1
  have X0 := box3_at (w := w) rfl (.int .i64 g0.r) (.int .i64 g0.c) (.slice g0.a g0.n g0.cap) 24
  have B0 := fun o => (Below.refl w.heap.size w).alloc (Nat.le_refl _) o
  have hcases : 600 < g0.n ∨ (g0.n ≤ 600 ∧ 300 < q1.n) ∨ (g0.n ≤ 600 ∧ q1.n ≤ 300) := by omega
  rcases hcases with hbig | ⟨hsm, hbig⟩ | ⟨hsm, hs1⟩
  · clear h0 h1
    go_enter Try.func8, Try.ntmps8
    go_wp2_with fail
    refine (awake4 _).mono ?_
    rintro e wa ⟨rfl, hb⟩
    have B1 := below_two (B0 _) hb
    obtain ⟨_, c0, c1, c2, _, _, _⟩ := X0.below hb
    clear X0 B0 hb
    go_wp2_with fail
    refine (small4 _ _ _ _ _ hgn false (decide_eq_false (by omega)) _).mono ?_
    rintro e wb ⟨rfl, hb⟩
    have B2 := below_two B1 hb
    clear c0 c1 c2 hb B1
    go_wp2_with fail
    refine (awake4 _).mono ?_
    rintro e wc ⟨rfl, hb⟩
    have B3 := below_two B2 hb
    go_wp2
    go_ret
    exact ⟨rfl, B3⟩
  · clear h0 h1
    go_enter Try.func8, Try.ntmps8
    go_wp2_with fail
    refine (awake4 _).mono ?_
    rintro e wa ⟨rfl, hb⟩
    have B1 := below_two (B0 _) hb
    obtain ⟨_, c0, c1, c2, _, _, _⟩ := X0.below hb
    clear X0 B0 hb
    go_wp2_with fail
    refine (small4 _ _ _ _ _ hgn true (decide_eq_true hsm) _).mono ?_
    rintro e wb ⟨rfl, hb⟩
    have B2 := below_two B1 hb
    clear c0 c1 c2 hb B1
    go_wp2_with fail
    refine (awake4 _).mono ?_
    rintro e wc ⟨rfl, hb⟩
    have B3 := below_two B2 hb
    go_wp2
    go_ret
    exact ⟨rfl, B3⟩
  · have HG := Lib.hid h0
    have HX := Lib.hid h1
    clear h0 h1
    cases hx : appB g0 q1.n with
    | false =>
      go_enter Try.func8, Try.ntmps8
      go_wp2_with fail
      refine (awake4 _).mono ?_
      rintro e wa ⟨rfl, hb⟩
      have B1 := below_two (B0 _) hb
      have X1 := X0.below hb
      have X1' := X1
      obtain ⟨_, c0, c1, c2, _, _, _⟩ := X1
      clear X0 B0 hb
      go_wp2_with fail
      refine (small4 _ _ _ _ _ hgn true (decide_eq_true hsm) _).mono ?_
      rintro e wb ⟨rfl, hb⟩
      have B2 := below_two B1 hb
      obtain ⟨_, d0, d1, d2, _, _, _⟩ := X1'.below hb
      clear c0 c1 c2 hb B1 X1'
      have G2 := HG.out.below B2
      have Q2 := HX.out.below B2
      go_wp2_with fail
      refine (apply_no g0 q1 hx _ G2 Q2).mono ?_
      rintro e wc ⟨he, hb⟩
      unfold NoRow at he
      subst he
      have B3 := below_two B2 hb
      clear d0 d1 d2 hb B2 G2 Q2 hx
      go_wp2
      go_ret
      exact ⟨rfl, B3⟩
    | true =>
      obtain ⟨R, C, e1, e2, hR, hC, e3, hle, e4⟩ := appB_yes hx
      obtain ⟨gr, gc, ga, gn, gcap, gv⟩ := g0
      obtain ⟨qa, qn, qcap, qv⟩ := q1
      simp only at e1 e2 e3 e4 hsm hs1 hgn hn1 X0 ⊢
      subst e1 e2 e4
      have HN := Lib.hid e3
      clear e3 hx
      go_enter Try.func8, Try.ntmps8
      go_wp2_with fail
      refine (awake4 _).mono ?_
      rintro e wa ⟨rfl, hb⟩
      have B1 := below_two (B0 _) hb
      have X1 := X0.below hb
      have X1' := X1
      obtain ⟨_, c0, c1, c2, _, _, _⟩ := X1
      clear X0 B0 hb
      go_wp2_with fail
      refine (small4 _ _ _ _ _ hgn true (decide_eq_true hsm) _).mono ?_
      rintro e wb ⟨rfl, hb⟩
      have B2 := below_two B1 hb
      have X2 := X1'.below hb
      have X2' := X2
      obtain ⟨_, d0, d1, d2, _, _, _⟩ := X2
      clear c0 c1 c2 hb B1 X1'
      have G2 := HG.out.below B2
      have Q2 := HX.out.below B2
      go_wp2_with fail
      refine (apply_yes ⟨R, qn, ga, gn, gcap, gv⟩ ⟨qa, qn, qcap, qv⟩ R qn rfl rfl HN.out rfl hR hC hle _ G2 Q2).mono ?_
      rintro e wc ⟨⟨g1, rfl, _, hEy⟩, hb⟩
      simp only at hEy
      have B3 := below_two B2 hb
      have X3 := X2'.below hb
      have X3' := X3
      obtain ⟨_, c0, c1, c2, _, _, _⟩ := X3
      have G3 := HG.out.below B3
      clear d0 d1 d2 hb B2 G2 Q2 X2'
      go_wp2_with fail
      refine (wide_yes ⟨R, qn, ga, gn, gcap, gv⟩ R qn rfl rfl HN.out hR hC hle _ G3).mono ?_
      rintro e wd ⟨⟨g2, rfl, _, hEw⟩, hb⟩
      rw [← HN.out] at hEw ⊢
      simp only at hEw
      have B4 := below_two B3 hb
      have X4 := X3'.below hb
      have hEy2 := hEy.below hb
      have al2 := fun o o2 => ((Below.refl wd.heap.size wd).alloc (Nat.le_refl _) o).alloc (by simp) o2
      have W0 := fun T o2 => (box3_new wd (.int .i64 R) (.int .i64 qn) (.slice (some ⟨g2, 0, none⟩) gn gn) T).alloc o2
      have C0 := fun o T => box3_at (w := wd.alloc o) (b := wd.heap.size + 1) (by simp) (.int .i64 qn) (.int .i64 1) (.slice none 0 0) T
      clear c0 c1 c2 hb B3 G3 X3' hEy
      obtain ⟨W1, hW1⟩ : ∃ W1, W1 = (wd.alloc (.cells #[.int .i64 R, .int .i64 qn, .slice (some ⟨g2, 0, none⟩) gn gn] 43)).alloc (.cells #[.int .i64 qn, .int .i64 1, .slice none 0 0] 43) := ⟨_, rfl⟩
      have hinv0 : ColInv wd (.int .i64 R) (.int .i64 qn) (.slice (some ⟨g2, 0, none⟩) gn gn) qn 1 (.slice none 0 0) 0 (qv.take 0) W1 := by
        rw [hW1]; exact ⟨W0 _ _, C0 _ _, own_nil _ _ _, al2 _ _, by simp⟩
      have HI0 := Lib.hid hinv0
      have hwl := X4.1
      clear hinv0 W0 C0 al2
      go_wp2_with fail
      rw [← hW1]
      clear hW1
      go_loopw [10] (fun i wr => ∃ (k : Nat) (u : Value), k ≤ qn ∧ i = .int .i64 k ∧ Hid (ColInv wd (.int .i64 R) (.int .i64 qn) (.slice (some ⟨g2, 0, none⟩) gn gn) qn 1 u k (qv.take k) wr)) (fun i _ => qn - (intOf i).toNat)
      case atStart => exact ⟨0, _, by omega, rfl, HI0⟩
      case round =>
        clear HI0
        obtain ⟨k, u, hk, rfl, hinv⟩ := hrel
        have B5 := below_two B4 hinv.out.bel
        by_cases hlt : k < qn
        · obtain ⟨b, off, x, rfl, hcx, hx, wx⟩ := (HX.out.1.below B5).at_ hlt
          have bx := wf8 wx
          have hbw : b < w.heap.size := by
            obtain ⟨b3, off3, x3, he, hc3, _, _⟩ := HX.out.1.at_ hlt
            cases he; exact World.block_lt_of_cell? _ _ hc3
          have hsn : qv.take k ++ [x] = qv.take (k + 1) := by
            have hl := HX.out.1.1
            simp only at hl hx
            rw [List.take_add_one, ← hx.out]
            simp [List.getD, List.getElem?_eq_getElem (show k < qv.length by omega)]
          obtain ⟨g, cap, w2, hrun, ⟨_, p0, p1, p2, p3, p4, p5⟩, hkeep, hnext⟩ := hinv.out.next x (by omega)
          rw [hsn] at hnext
          have HNX := Lib.hid hnext
          have hcx2 := hkeep b (off + k) _ (by omega) hcx
          have e1 : IntKind.i32.wrap x = x := IntWalk.i32_in _ (by omega)
          have f0 : (0 : Int) ≤ (k : Int) := by omega
          have f1 : (k : Int) < (qn : Int) := by omega
          obtain ⟨_, m0, m1, m2, _, _, _⟩ := hinv.out.b1
          clear hinv hx wx hsn hkeep hnext B5
          go_wp2_with fail
          go_region_law ((with_reducible refine step_append_run ?_ (.tmp 51) (.tmp 57) 27 ?_ _ _ ?_ ?_ hrun ?_); rfl; rfl; rfl; rfl)
          all_goals go_wp2
          all_goals
            go_roundw
            case rel => exact ⟨k + 1, _, by omega, by go_num, HNX⟩
            case measure => simp [intOf]; omega
        · obtain rfl : k = qn := by omega
          have hown := hinv.out.own
          have hvl := HX.out.1.1
          simp only at hvl
          have hgl := HG.out.1.1
          simp only at hgl
          rw [List.take_of_length_le (by omega)] at hown
          have hw8 := HX.out.1.2.2.1
          obtain ⟨ua, ucap, hu, hEc⟩ := own_form hown (by omega) (fun c hc => by have := wf8 (hw8 c hc); exact WalkArith.wf_i32 (by omega))
          subst hu
          have V6 := hEw.below hinv.out.bel
          have Y6 := hEy2.below hinv.out.bel
          have X6 := X4.below hinv.out.bel
          have hb0 := hinv.out.b0
          have ht := fun W (hW : Below wr.heap.size wr W) => ref_times_yes R k 1 (some ⟨g2, 0, none⟩) ua gn ucap gv qv W (by rw [← HN.out]; exact V6.below hW) (by rw [Nat.mul_one]; exact hEc.below hW) hR hC (by omega) hle (by omega) (by omega)
          rw [← HN.out, mv_grid gv qv R k (by rw [hgl]; exact HN.out) hvl, Nat.mul_one] at ht
          obtain ⟨_, c0, c1, c2, _, _, _⟩ := hinv.out.b0
          obtain ⟨_, d0, d1, d2, _, _, _⟩ := hinv.out.b1
          have ht0 := ht wr (Below.refl _ _)
          have hwf8 := HG.out.1.2.2.1
          simp only at hwf8
          have HNA := fun W (hW : Below wr.heap.size wr W) => narrow_yes ⟨R, k, some ⟨g2, 0, none⟩, gn, gn, gv⟩ R k rfl rfl HN.out hR hC hle 1 0 (by omega) (by omega) W ⟨V6.below hW, Nat.le_refl _, by show gn ≤ _; omega, ⟨fun e => (by cases e), fun x e _ => (by cases e; rfl)⟩, by show _ ≤ (R : Int); omega, by show (R : Int) ≤ _; omega, by show _ ≤ (k : Int); omega, by show (k : Int) ≤ _; omega⟩
          have HNH := Lib.hid HNA
          clear hinv hown hEc hw8 ht HNA
          go_wp2_with fail
          refine ht0.mono ?_
          rintro e we ⟨⟨v, rfl, za, zcap, rfl, hEz, _, _⟩, hb⟩
          rw [mv_length] at hEz ⊢
          have B6 := below_two B5 hb
          have X7 := X6.below hb
          have Y7 := Y6.below hb
          have Z7 := fun T => box3_new we (.int .i64 R) (.int .i64 1) (.slice za R zcap) T
          have al := fun o => (Below.refl we.heap.size we).alloc (Nat.le_refl _) o
          have B7 := fun o => below_two B6 (al o)
          have X8 := fun o => X7.below (al o)
          have Y8 := fun o => Y7.below (al o)
          have E8 := fun o => hEz.below (al o)
          obtain ⟨_, l0, l1, l2, _, _, _⟩ := hb0.below hb
          have hna := fun o => HNH.out (we.alloc o) (below_two hb (al o))
          clear ht0 c0 c1 c2 d0 d1 d2 B6 X7 Y7 hEz hb B5 X6 Y6 V6 hb0
          go_wp2_with fail
          refine (hna _).mono ?_
          rintro e wf ⟨⟨g3, rfl, _, hEn⟩, hb⟩
          rw [qua_same gv hwf8] at hEn
          rw [← HN.out] at hEn ⊢
          have B9 := below_two (B7 _) hb
          have X9 := (X8 _).below hb
          have Y9 := (Y8 _).below hb
          have E9 := (E8 _).below hb
          have Z9 := (Z7 _).below hb
          have al' := fun o => (Below.refl wf.heap.size wf).alloc (Nat.le_refl _) o
          have B10 := fun o => below_two B9 (al' o)
          have X10 := fun o => X9.below (al' o)
          have Y10 := fun o => Y9.below (al' o)
          have E10 := fun o => E9.below (al' o)
          have N10 := fun o => hEn.below (al' o)
          have Z10 := fun o => Z9.below (al' o)
          have M10 := fun T => box3_new wf (.int .i64 R) (.int .i64 k) (.slice (some ⟨g3, 0, none⟩) gn gn) T
          obtain ⟨_, c0, c1, c2, _, _, _⟩ := Z10 (.cells #[.int .i64 R, .int .i64 k, .slice (some ⟨g3, 0, none⟩) gn gn] 24)
          obtain ⟨_, d0, d1, d2, _, _, _⟩ := X10 (.cells #[.int .i64 R, .int .i64 k, .slice (some ⟨g3, 0, none⟩) gn gn] 24)
          obtain ⟨_, m0, m1, m2, _, _, _⟩ := M10 24
          clear hna B7 X8 Y8 E8 Z7 al B9 X9 Y9 E9 Z9 hEn hb l0 l1 l2 al' HNH
          go_wp2_with fail
          refine (ints_yes _ _ R zcap R _ _ (E10 _) (Y10 _)).mono ?_
          rintro e wg ⟨rfl, d, rfl⟩
          have G11 := HG.out.below (B10 (.cells #[.int .i64 R, .int .i64 k, .slice (some ⟨g3, 0, none⟩) gn gn] 24))
          have B11 := B10 (.cells #[.int .i64 R, .int .i64 k, .slice (some ⟨g3, 0, none⟩) gn gn] 24)
          have N11 := N10 (.cells #[.int .i64 R, .int .i64 k, .slice (some ⟨g3, 0, none⟩) gn gn] 24)
          clear B10 X10 Y10 E10 N10 Z10 M10
          go_wp2_with fail
          refine (msame_yes R k (some ⟨g3, 0, none⟩) ga gn gn gcap gv _ (N11.drewN d) (G11.1.drewN d)).mono ?_
          rintro e wh ⟨rfl, hb⟩
          have B12 := below_two (below_drewN B11 d) hb
          go_wp2
          go_ret
          exact ⟨rfl, B12⟩

set_option maxRecDepth 100000 in
theorem lifted (os : Os) (started : os.Started) (H : Type) (enc : TypeId × Value → H) :
    ReturnsInHanded {} Try.checked os 8 .any (Rows.matmulGridsSpec.pre6 enc Try.prog Try.f8 Rows.matmulGridsRow.domain false) (Rows.matmulGridsSpec.post enc Try.prog Try.f8 false true false false) := by
  refine returnsInHanded_of_change (C := Try.checked) own started (by kernel_rfl) Try.func8
    (ChangeSpec.witness6 (enc := enc) (C := Try.checked) false ⟨#[], #[.agg #[.int .i64 0, .int .i64 0, .slice none 0 0], .slice none 0 0], []⟩ 8 (by kernel_rfl) (by kernel_rfl) (by kernel_rfl) (by kernel_rfl)) ?_
  intro W base args ds gs before hval0 hW hcnd _
  have hval : ∀ (j : Nat) t v, Try.f8.params[j]? = some t → args[j]? = some v → Value.okWide Try.prog W .any base t v := hval0
  have hW' := hW
  obtain ⟨p, q, hA0, hV, rfl, hfz, hnd⟩ := hW
  have hA : DataW.TrodAll enc Try.prog W 0 (fun _ => true) true Try.f8.params.toList args.toList ds p := hA0
  rw [Try.params8] at hA hval
  obtain ⟨v0, vs0, d0, ds0, p0, q0, hargs, rfl, rfl, h0, r0⟩ := trodAll_cons hA
  obtain ⟨v1, vs1, d1, ds1, p1, q1, rfl, rfl, rfl, h1, r1⟩ := trodAll_cons r0
  obtain ⟨rfl, rfl, rfl⟩ := trodAll_nil r1
  obtain rfl : args = #[v0, v1] := by cases args; simp_all
  obtain ⟨rfl, rfl⟩ := trodVars_none hV
  have k0 := h0
  have lt0 : ∀ x ∈ p0, x.block < W.heap.size := by obtain ⟨m, hm⟩ := k0; exact DataW.trod_lt m _ _ _ hm
  obtain ⟨g0, rfl, w0⟩ := open_mat (hval 0 24 v0 rfl rfl) h0
  have k1 := h1
  have lt1 : ∀ x ∈ p1, x.block < W.heap.size := by obtain ⟨m, hm⟩ := k1; exact DataW.trod_lt m _ _ _ hm
  obtain ⟨q1, rfl, w1⟩ := open_rw Try.underlying22 Try.underlying46 (by kernel_rfl) (hval 1 22 v1 rfl rfl) h1
  clear hA0 hval0
  refine (walk g0 q1 W w0 w1).mono fun e W' ⟨he, bel⟩ => ?_
  subst he
  exact ⟨_, rfl, _, _, _, [], _, [], hW', trodAll_mk1 (shut_bool Try.underlying4 _), (trodAll_cons_mk (Below.trod laidOut (by kernel_rfl) (of_decide_eq_true (by kernel_rfl)) k0 bel lt0) (trodAll_cons_mk (Below.trod laidOut (by kernel_rfl) (of_decide_eq_true (by kernel_rfl)) k1 bel lt1) trodAll_mk0)), rfl, bel.frame _, fun h => by cases h⟩

theorem over : Rows.matmulGridsRow.holds Try.pinned (OpenSpec.ofChange Rows.matmulGridsSpec) :=
  OpenClaim.holds_of_wide 8 Try.f8 rfl rfl rfl rfl rfl rfl rfl ⟨rfl, rfl, rfl, rfl, rfl⟩ rfl rfl rfl rfl rfl (by kernel_rfl) Try.func8 (by kernel_rfl)
    (of_decide_eq_true (by kernel_rfl)) (by unfold Func.isWrapper; first | (rw [if_pos (by decide +kernel)]; kernel_rfl) | (rw [if_neg (by decide +kernel)]; exact ⟨rfl, rfl⟩))
    (fun os started H enc _ => lifted os started H enc)

/-- ████ THE STATEMENT ████ -/
theorem proved : Rows.MatmulGridsSaid := over
#print axioms proved
end Go.Proofs.Ytkiedganojaniaa.matmulGrids
