/-
  Proved: for every grid and every two numbers MatmulNarrows returns true (numbers are brought down one by one, as the document says) and nothing that was in memory turns. Conditions: none.
-/
import Derived.Test.YtkiedganojaniaaRows
import Derived.WalkKit
import Derived.ProofKit
import Derived.OpenShut
import Derived.ShutString
import Derived.ChangeOld
import Derived.Below
import Derived.Test.YtkiedganojaniaaGridRow
import Derived.Test.YtkiedganojaniaaLaw4
import Derived.Test.YtkiedganojaniaaMNarrow
namespace Go.Proofs.Ytkiedganojaniaa.matmulNarrows
open Go.ChangeShapes Go.WideShapes Go.ChangeAt Go.RowKit
open Go.ChangeMaps (open_string shut_string)
set_option linter.unusedVariables false

theorem own : ownKnob Try.prog.godebug = none := by kernel_rfl
theorem laidOut : laidOutB Try.prog = true := by kernel_rfl

set_option maxHeartbeats 4000000 in
theorem walk (g0 : Gr) (a1 : Int) (a2 : Int) (w : World) (h0 : g0.In w) (h1 : (Lit.int .i32 a1).wf = true) (h2 : (Lit.int .i64 a2).wf = true) :
    Calls Try.prog 5 #[.agg #[.int .i64 g0.r, .int .i64 g0.c, .slice g0.a g0.n g0.cap], .int .i32 a1, .int .i64 a2] w fun e w' => e = .returned (.bool true) ∧ Below w.heap.size w w' := by
  have hb32 := wf32 h1
  have hgn := h0.1.2.1
  have X0 := box3_at (w := w) rfl (.int .i64 g0.r) (.int .i64 g0.c) (.slice g0.a g0.n g0.cap) 43
  have B0 := fun o => (Below.refl w.heap.size w).alloc (Nat.le_refl _) o
  by_cases hsm : g0.n ≤ 600
  · cases hf : fitB g0.r g0.c g0.n with
    | false =>
      have HG := Lib.hid h0
      clear h0
      go_enter Try.func5, Try.ntmps5
      go_wp2_with fail
      refine (awake4 _).mono ?_
      rintro e wa ⟨rfl, hb⟩
      have B1 := below_two (B0 _) hb
      have X1 := X0.below hb
      have X1' := X1
      obtain ⟨_, c0, c1, c2, _, _, _⟩ := X1
      clear X0 B0 hb
      go_wp2_with fail
      refine (narrow_no g0 a1 a2 hf _ (HG.out.below B1)).mono ?_
      rintro e wb ⟨he, hb⟩
      unfold NoMat at he
      subst he
      have B2 := below_two B1 hb
      have B3 := fun o => B2.alloc B2.size o
      have X2 := fun o => (X1'.below hb).alloc o
      have M2 := fun T => box3_new wb (.int .i64 0) (.int .i64 0) (.slice none 0 0) T
      obtain ⟨_, d0, d1, d2, _, _, _⟩ := X1'.below hb
      clear c0 c1 c2 X1' hb B1 B2
      go_wp2_with fail
      refine (ref_fit _ _ _ _ _ _ hgn false hf).mono ?_
      rintro e wc ⟨rfl, hb⟩
      have B4 := below_two (B3 _) hb
      obtain ⟨_, k0, k1, k2, _, _, _⟩ := (M2 _).below hb
      clear d0 d1 d2 X2 B3 M2 hb hf
      go_wp2_with fail
      refine (msame_yes 0 0 none none 0 0 0 [] _ (Elems.nil_ _ _ _) (Elems.nil_ _ _ _)).mono ?_
      rintro e wd ⟨rfl, hb⟩
      have B5 := below_two B4 hb
      go_wp2
      go_ret
      exact ⟨rfl, B5⟩
    | true =>
      obtain ⟨R, C, e1, e2, hR, hC, e3, hle⟩ := fitB_yes hf
      obtain ⟨gr, gc, ga, gn, gcap, gv⟩ := g0
      simp only at e1 e2 e3 hsm hf hgn X0 ⊢
      subst e1 e2
      have HG := Lib.hid h0
      have HN := Lib.hid e3
      clear h0 e3
      go_enter Try.func5, Try.ntmps5
      go_wp2_with fail
      refine (awake4 _).mono ?_
      rintro e wa ⟨rfl, hb⟩
      have B1 := below_two (B0 _) hb
      have X1 := X0.below hb
      have X1' := X1
      obtain ⟨_, c0, c1, c2, _, _, _⟩ := X1
      clear X0 B0 hb
      go_wp2_with fail
      refine (narrow_yes ⟨R, C, ga, gn, gcap, gv⟩ R C rfl rfl HN.out hR hC hle a1 a2 hb32.1 hb32.2 _ (HG.out.below B1)).mono ?_
      rintro e wb ⟨⟨g, rfl, _, hE⟩, hb⟩
      rw [← HN.out] at hE ⊢
      have B2 := below_two B1 hb
      have B3 := fun o => B2.alloc B2.size o
      have X2 := fun o => (X1'.below hb).alloc o
      have M2 := fun T => box3_new wb (.int .i64 R) (.int .i64 C) (.slice (some ⟨g, 0, none⟩) gn gn) T
      have E2 := fun o => hE.below ((Below.refl wb.heap.size wb).alloc (Nat.le_refl _) o)
      obtain ⟨_, d0, d1, d2, _, _, _⟩ := X1'.below hb
      clear c0 c1 c2 X1' hb B1 B2 hE
      go_wp2_with fail
      refine (ref_fit _ _ _ _ _ _ hgn true hf).mono ?_
      rintro e wc ⟨rfl, hb⟩
      have B4 := below_two (B3 _) hb
      have M3 := (M2 _).below hb
      have X3 := (X2 _).below hb
      have E3 := (E2 _).below hb
      have M3' := M3
      have X3' := X3
      obtain ⟨_, k0, k1, k2, _, _, _⟩ := M3
      obtain ⟨_, l0, l1, l2, _, _, _⟩ := X3
      have hblt := B4.size
      clear d0 d1 d2 X2 B3 M2 E2 hb hf
      go_wp2_with fail
      clear k0 k1 k2 l0 l1 l2
      go_loopw [9] (fun i wr => ∃ k : Nat, k ≤ gn ∧ i = .int .i64 k ∧ Below wc.heap.size wc wr) (fun i _ => gn - (intOf i).toNat)
      case atStart => exact ⟨0, by omega, rfl, Below.refl _ _⟩
      case round =>
        obtain ⟨k, hk, rfl, hbr⟩ := hrel
        obtain ⟨_, k0, k1, k2, _, _, _⟩ := M3'.below hbr
        obtain ⟨_, l0, l1, l2, _, _, _⟩ := X3'.below hbr
        have B6 := below_two B4 hbr
        have E6 := E3.below hbr
        by_cases hlt : k < gn
        · obtain ⟨b, off, x, rfl, hcx, hx, wx⟩ := (HG.out.1.below B6).at_ hlt
          obtain ⟨b', off', y, he, hcy, hy, wy⟩ := E6.at_ hlt
          cases he
          rw [Nat.zero_add] at hcy
          have hxy : y = qua x a1 a2 := by
            rw [← hy.out, ← hx.out]
            have hl := HG.out.1.1
            simp only at hl
            simp [List.getD, List.getElem?_eq_getElem (show k < gv.length by omega)]
          have bx := wf32 wx
          have by_ := wf8 wy
          have hsc := fun W => (ref_scale x a1 a2 (-128) 127 bx.1 bx.2 hb32.1 hb32.2 W).mono (R' := fun e w' => e = .returned (.int .i64 (near (shr (x * a1) a2) (-128) 127)) ∧ w' = W) fun e w' h => ⟨h.1, h.2.symm⟩
          have hq : near (shr (x * a1) a2) (-128) 127 = y := by rw [hxy]; rfl
          rw [hq] at hsc
          have v1 : IntKind.i64.wrap y = y := IntWalk.i64_in _ (by omega)
          have f0 : (0 : Int) ≤ (k : Int) := by omega
          have f1 : (k : Int) < (gn : Int) := by omega
          clear hxy hq hx hy wx wy
          go_wp2_with fail
          go_quiet (first | (go_at_call 25; refine Calls.quiet_of_same (hsc _)))
          go_wp2
          go_roundw
          case rel => exact ⟨k + 1, by omega, by go_num, below_drewN hbr _⟩
          case measure => simp [intOf]; omega
        · obtain rfl : k = gn := by omega
          go_wp2
          go_ret
          exact ⟨rfl, B6⟩
  · have hbig : 600 < g0.n := by omega
    clear h0
    go_enter Try.func5, Try.ntmps5
    go_wp2_with fail
    refine (awake4 _).mono ?_
    rintro e wa ⟨rfl, hb⟩
    have B1 := below_two (B0 _) hb
    obtain ⟨_, c0, c1, c2, _, _, _⟩ := X0.below hb
    clear X0 B0 hb
    go_wp2_with fail
    refine (awake4 _).mono ?_
    rintro e wb ⟨rfl, hb⟩
    have B2 := below_two B1 hb
    go_wp2
    go_ret
    exact ⟨rfl, B2⟩

set_option maxRecDepth 100000 in
theorem lifted (os : Os) (started : os.Started) (H : Type) (enc : TypeId × Value → H) :
    ReturnsInHanded {} Try.checked os 5 .any (Rows.matmulNarrowsSpec.pre6 enc Try.prog Try.f5 Rows.matmulNarrowsRow.domain false) (Rows.matmulNarrowsSpec.post enc Try.prog Try.f5 false true false false) := by
  refine returnsInHanded_of_change (C := Try.checked) own started (by kernel_rfl) Try.func5
    (ChangeSpec.witness6 (enc := enc) (C := Try.checked) false ⟨#[], #[.agg #[.int .i64 0, .int .i64 0, .slice none 0 0], .int .i32 0, .int .i64 0], []⟩ 8 (by kernel_rfl) (by kernel_rfl) (by kernel_rfl) (by kernel_rfl)) ?_
  intro W base args ds gs before hval0 hW hcnd _
  have hval : ∀ (j : Nat) t v, Try.f5.params[j]? = some t → args[j]? = some v → Value.okWide Try.prog W .any base t v := hval0
  have hW' := hW
  obtain ⟨p, q, hA0, hV, rfl, hfz, hnd⟩ := hW
  have hA : DataW.TrodAll enc Try.prog W 0 (fun _ => true) true Try.f5.params.toList args.toList ds p := hA0
  rw [Try.params5] at hA hval
  obtain ⟨v0, vs0, d0, ds0, p0, q0, hargs, rfl, rfl, h0, r0⟩ := trodAll_cons hA
  obtain ⟨v1, vs1, d1, ds1, p1, q1, rfl, rfl, rfl, h1, r1⟩ := trodAll_cons r0
  obtain ⟨v2, vs2, d2, ds2, p2, q2, rfl, rfl, rfl, h2, r2⟩ := trodAll_cons r1
  obtain ⟨rfl, rfl, rfl⟩ := trodAll_nil r2
  obtain rfl : args = #[v0, v1, v2] := by cases args; simp_all
  obtain ⟨rfl, rfl⟩ := trodVars_none hV
  have k0 := h0
  have lt0 : ∀ x ∈ p0, x.block < W.heap.size := by obtain ⟨m, hm⟩ := k0; exact DataW.trod_lt m _ _ _ hm
  obtain ⟨g0, rfl, w0⟩ := open_grid (hval 0 43 v0 rfl rfl) h0
  obtain ⟨a1, rfl, rfl, rfl, w1⟩ := open_int Try.underlying21 (hval 1 21 v1 rfl rfl) h1
  obtain ⟨a2, rfl, rfl, rfl, w2⟩ := open_int Try.underlying3 (hval 2 3 v2 rfl rfl) h2
  clear hA0 hval0
  refine (walk g0 a1 a2 W w0 w1 w2).mono fun e W' ⟨he, bel⟩ => ?_
  subst he
  exact ⟨_, rfl, _, _, _, [], _, [], hW', trodAll_mk1 (shut_bool Try.underlying4 _), (trodAll_cons_mk (Below.trod laidOut (by kernel_rfl) (of_decide_eq_true (by kernel_rfl)) k0 bel lt0) (trodAll_cons_mk (shut_int Try.underlying21 w1) (trodAll_cons_mk (shut_int Try.underlying3 w2) trodAll_mk0))), rfl, bel.frame _, fun h => by cases h⟩

theorem over : Rows.matmulNarrowsRow.holds Try.pinned (OpenSpec.ofChange Rows.matmulNarrowsSpec) :=
  OpenClaim.holds_of_wide 5 Try.f5 rfl rfl rfl rfl rfl rfl rfl ⟨rfl, rfl, rfl, rfl, rfl⟩ rfl rfl rfl rfl rfl (by kernel_rfl) Try.func5 (by kernel_rfl)
    (of_decide_eq_true (by kernel_rfl)) (by unfold Func.isWrapper; first | (rw [if_pos (by decide +kernel)]; kernel_rfl) | (rw [if_neg (by decide +kernel)]; exact ⟨rfl, rfl⟩))
    (fun os started H enc _ => lifted os started H enc)

/-- ████ THE STATEMENT ████ -/
theorem proved : Rows.MatmulNarrowsSaid := over
#print axioms proved
end Go.Proofs.Ytkiedganojaniaa.matmulNarrows
