/-
  Proved: for every matrix and every number MatmulOne returns true (the product with a row that has one 1 is that column, with noughts it is noughts) and nothing that was in memory turns. Conditions: none.
-/
import Derived.Test.YtkiedganojaniaaRows
import Derived.WalkKit
import Derived.ProofKit
import Derived.OpenShut
import Derived.ShutString
import Derived.ChangeOld
import Derived.Below
import Derived.Test.YtkiedganojaniaaMatRow
import Derived.Test.YtkiedganojaniaaLaw4
import Derived.Test.YtkiedganojaniaaOneMath
namespace Go.Proofs.Ytkiedganojaniaa.matmulOne
open Go.ChangeShapes Go.WideShapes Go.ChangeAt Go.RowKit
open Go.ChangeMaps (open_string shut_string)
set_option linter.unusedVariables false

theorem own : ownKnob Try.prog.godebug = none := by kernel_rfl
theorem laidOut : laidOutB Try.prog = true := by kernel_rfl

set_option maxHeartbeats 4000000 in
theorem walk (g0 : Gr) (a1 : Int) (w : World) (h0 : g0.In8 w) (h1 : (Lit.int .i64 a1).wf = true) :
    Calls Try.prog 9 #[.agg #[.int .i64 g0.r, .int .i64 g0.c, .slice g0.a g0.n g0.cap], .int .i64 a1] w fun e w' => e = .returned (.bool true) ∧ Below w.heap.size w w' := by
  have hgn := h0.1.2.1
  have X0 := box3_at (w := w) rfl (.int .i64 g0.r) (.int .i64 g0.c) (.slice g0.a g0.n g0.cap) 24
  have B0 := fun o => (Below.refl w.heap.size w).alloc (Nat.le_refl _) o
  by_cases hsm : g0.n ≤ 600
  · cases hf : fitB g0.r g0.c g0.n with
    | false =>
      clear h0
      go_enter Try.func9, Try.ntmps9
      go_wp2_with fail
      refine (awake4 _).mono ?_
      rintro e wa ⟨rfl, hb⟩
      have B1 := below_two (B0 _) hb
      have X1 := X0.below hb
      have X1' := X1
      obtain ⟨_, c0, c1, c2, _, _, _⟩ := X1
      clear X0 B0 hb
      go_wp2_with fail
      refine (small4 _ _ _ _ _ hgn true (decide_eq_true hsm) _).mono ?_
      rintro e wb ⟨rfl, hb⟩
      have B2 := below_two B1 hb
      have X2 := X1'.below hb
      have X2' := X2
      obtain ⟨_, d0, d1, d2, _, _, _⟩ := X2
      clear c0 c1 c2 X1' hb B1
      go_wp2_with fail
      refine (doc_right _ _ _ _ _ _ hgn false hf).mono ?_
      rintro e wc ⟨rfl, hb⟩
      have B3 := below_two B2 hb
      clear d0 d1 d2 X2' hb B2 hf
      go_wp2_with fail
      refine (awake4 _).mono ?_
      rintro e wd ⟨rfl, hb⟩
      have B4 := below_two B3 hb
      go_wp2
      go_ret
      exact ⟨rfl, B4⟩
    | true =>
      obtain ⟨R, C, e1, e2, hR, hC, e3, hle⟩ := fitB_yes hf
      obtain ⟨gr, gc, ga, gn, gcap, gv⟩ := g0
      simp only at e1 e2 e3 hsm hf hgn X0 ⊢
      subst e1 e2
      have HG := Lib.hid h0
      have HN := Lib.hid e3
      clear h0 e3
      by_cases hC0 : 0 < C
      · have hcz : ((C : Int) == 0) = false := beq_eq_false_iff_ne.2 (by omega)
        have hmk := run_make_row' (P := Try.prog) 22 46 (.int .i8 0) 1 Try.underlying22 info8 rfl .i64 .i64 C (by omega) (by omega)
        have hmk2 := run_make_row' (P := Try.prog) 27 21 (.int .i32 0) 4 Try.underlying27 info_int32 rfl .i64 .i64 R (by omega) (by omega)
        obtain ⟨t1, t2⟩ := rest_by a1 (C : Int) (by omega)
        obtain ⟨t, ht⟩ : ∃ t, a1.tmod (C : Int) = t := ⟨_, rfl⟩
        rw [ht] at t1 t2
        obtain ⟨p, hp⟩ : ∃ p, t + (C : Int) = p := ⟨_, rfl⟩
        have p0 : 0 ≤ p := by omega
        have p1 : p ≤ 8192 := by omega
        obtain ⟨k, hk⟩ : ∃ k : Nat, p % (C : Int) = (k : Int) := ⟨(p % (C : Int)).toNat, by have := Int.emod_nonneg p (b := (C : Int)) (by omega); omega⟩
        have hkC : k < C := by have := Int.emod_lt_of_pos p (b := (C : Int)) (by omega); omega
        have hk2 : p.tmod (C : Int) = (k : Int) := by rw [Int.tmod_eq_emod_of_nonneg p0]; exact hk
        have hCne : ¬ (C : Int) = 0 := by omega
        have v1 : IntKind.i64.wrap t = t := IntWalk.i64_in _ (by omega)
        have v2 : IntKind.i64.wrap p = p := IntWalk.i64_in _ (by omega)
        have v3 : IntKind.i64.wrap (k : Int) = (k : Int) := IntWalk.i64_in _ (by omega)
        go_enter Try.func9, Try.ntmps9
        go_wp2_with fail
        refine (awake4 _).mono ?_
        rintro e wa ⟨rfl, hb⟩
        have B1 := below_two (B0 _) hb
        have X1 := X0.below hb
        have X1' := X1
        obtain ⟨_, c0, c1, c2, _, _, _⟩ := X1
        clear X0 B0 hb
        go_wp2_with fail
        refine (small4 _ _ _ _ _ hgn true (decide_eq_true hsm) _).mono ?_
        rintro e wb ⟨rfl, hb⟩
        have B2 := below_two B1 hb
        have X2 := X1'.below hb
        have X2' := X2
        obtain ⟨_, d0, d1, d2, _, _, _⟩ := X2
        clear c0 c1 c2 X1' hb B1
        go_wp2_with fail
        refine (doc_right _ _ _ _ _ _ hgn true hf).mono ?_
        rintro e wc ⟨rfl, hb⟩
        have B3 := below_two B2 hb
        have X3 := X2'.below hb
        have X3' := X3
        obtain ⟨_, c0, c1, c2, _, _, _⟩ := X3
        clear d0 d1 d2 X2' hb B2 hf
        go_wp2_with fail
        go_quiet (fail)
        obtain ⟨W, hW⟩ : ∃ W, W = wc.drewN nq := ⟨_, rfl⟩
        have hbd := below_drewN (Below.refl wc.heap.size wc) nq
        rw [← hW] at hbd ⊢
        have B4 := below_two B3 hbd
        have X4 := X3'.below hbd
        have MK := mine_made .i8 W 46 C rfl
        have hal := (Below.refl W.heap.size W).alloc (Nat.le_refl _) (.cells (madeCells #[Value.int .i8 0] C) 46)
        have X5 := X4.below hal
        have B5 := below_two B4 hal
        have hwf0 : ∀ x ∈ List.replicate C (0 : Int), (Lit.int .i8 x).wf = true := fun x hx => by rw [(List.mem_replicate.1 hx).2]; rfl
        have hwf1 : ∀ x ∈ (List.replicate C (0 : Int)).set k 1, (Lit.int .i8 x).wf = true := fun x hx => by
          rcases List.mem_or_eq_of_mem_set hx with h | rfl
          · exact hwf0 x h
          · rfl
        have E5 := MK.elems (n := C) (by simp) (by omega) hwf0
        have Q5 := rw_in E5 (by omega)
        have hWl := X4.1
        obtain ⟨_, c0, c1, c2, _, _, _⟩ := X4
        clear hW B3 X3' hbd B4 hal E5 t1 t2 ht hp hk hk2 v1 v2 v3
        go_wp2_with fail
        refine (apply_yes ⟨R, C, ga, gn, gcap, gv⟩ ⟨some ⟨W.heap.size, 0, none⟩, C, C, List.replicate C 0⟩ R C rfl rfl HN.out rfl hR hC hle _ (HG.out.below B5) Q5).mono ?_
        rintro e wd ⟨⟨g1, rfl, hg1, hE1⟩, hb⟩
        simp only at hE1
        rw [mv_noughts] at hE1
        have B6 := below_two B5 hb
        have X6 := X5.below hb
        have MK2 := MK.below hb MK.lt
        have hlt1 := MK.lt
        have hg1' : W.heap.size < g1 := by omega
        have hcell := MK2.cell (k := k) (by simpa using hkC)
        have hfrz := MK2.frozen k
        obtain ⟨c, hcc⟩ : ∃ c, (List.replicate C (0 : Int)).getD k 0 = c := ⟨_, rfl⟩
        rw [hcc] at hcell
        have hgs := grownBy_setCell wd W.heap.size k (.int .i8 1)
        have X7 := X6.kept hgs (by simp; omega)
        have E7 := hE1.other hgs (by omega)
        have B7 := B6.grown hgs B6.size (fun i hi => by cases hi; omega)
        have MK3 := MK2.set k 1
        have Q7 := rw_in (MK3.elems (n := C) (by simp) (by omega) hwf1) (by omega)
        have k0 : (0 : Int) ≤ (k : Int) := by omega
        have k1 : (k : Int) < (C : Int) := by omega
        obtain ⟨_, d0, d1, d2, _, _, _⟩ := X6
        clear MK hb hE1 X5 B5 Q5 c0 c1 c2 hcc MK2 MK3 B6
        go_wp2_with fail
        refine (apply_yes ⟨R, C, ga, gn, gcap, gv⟩ ⟨some ⟨W.heap.size, 0, none⟩, C, C, (List.replicate C 0).set k 1⟩ R C rfl rfl HN.out rfl hR hC hle _ (HG.out.below B7) Q7).mono ?_
        rintro e we ⟨⟨g2, rfl, hg2, hE2⟩, hb⟩
        simp only at hE2
        have B8 := below_two B7 hb
        have X8 := X7.below hb
        have E8 := E7.below hb
        have hal := (Below.refl we.heap.size we).alloc (Nat.le_refl _) (.cells (madeCells #[Value.int .i32 0] R) 21)
        have hz := mine_made .i32 we 21 R rfl
        have hEz := hz.elems (n := R) (by simp) (by omega) (fun x hx => by rw [(List.mem_replicate.1 hx).2]; rfl)
        have B9 := below_two B8 hal
        have X9 := X8.below hal
        have E9 := E8.below hal
        have Y9 := hE2.below hal
        obtain ⟨_, c0, c1, c2, _, _, _⟩ := X8
        clear d0 d1 d2 hcell hfrz hgs X7 E7 B7 Q7 hb E8 hz hal hE2 B8
        go_wp2_with fail
        refine (ints_yes _ _ R R R (List.replicate R 0) _ E9 hEz).mono ?_
        rintro e wf ⟨rfl, d, rfl⟩
        obtain ⟨wf, hwf⟩ : ∃ wf, wf = (we.alloc (.cells (madeCells #[Value.int .i32 0] R) 21)).drewN d := ⟨_, rfl⟩
        have hbd := below_drewN (Below.refl (we.alloc (.cells (madeCells #[Value.int .i32 0] R) 21)).heap.size (we.alloc (.cells (madeCells #[Value.int .i32 0] R) 21))) d
        have B10 := below_two B9 hbd
        have X10 := X9.below hbd
        have Y10 := Y9.below hbd
        rw [← hwf] at B10 X10 Y10
        rw [← hwf]
        have X10' := X10
        obtain ⟨_, d0, d1, d2, _, _, _⟩ := X10
        clear c0 c1 c2 X9 E9 Y9 B9 hEz hbd hwf
        go_wp2_with fail
        clear d0 d1 d2
        go_loopw [11] (fun i wr => ∃ r : Nat, r ≤ R ∧ i = .int .i64 r ∧ Below wf.heap.size wf wr) (fun i _ => R - (intOf i).toNat)
        case atStart => exact ⟨0, by omega, rfl, Below.refl _ _⟩
        case round =>
          obtain ⟨r, hr, rfl, hbr⟩ := hrel
          obtain ⟨_, d0, d1, d2, _, _, _⟩ := X10'.below hbr
          have B11 := below_two B10 hbr
          by_cases hlt : r < R
          · have hrc := row_lt hlt hkC
            have hgd := HG.out.1.below B11
            have hvl := HG.out.1.1
            simp only at hgd hvl
            obtain ⟨b, off, x, rfl, hcx, hx, wx⟩ := hgd.at_ (i := r * C + k) (by have := HN.out; omega)
            obtain ⟨b', off', y, he, hcy, hy, wy⟩ := (Y10.below hbr).at_ hlt
            cases he
            rw [Nat.zero_add] at hcy
            have hxy : y = x := by
              rw [← hy.out, ← hx.out]
              exact mv_unit gv R C k r (by rw [hvl]; exact HN.out) hkC hlt HG.out.1.2.2.1
            subst hxy
            have bx := wf8 wx
            obtain ⟨q, hq⟩ : ∃ q, q = r * C := ⟨_, rfl⟩
            have eq1 : (r : Int) * (C : Int) = (q : Int) := by rw [hq]; push_cast; rfl
            obtain ⟨q2, hq2⟩ : ∃ q2, q2 = q + k := ⟨_, rfl⟩
            have eq2 : (q : Int) + (k : Int) = (q2 : Int) := by rw [hq2]; push_cast; rfl
            rw [← hq, ← hq2] at hcx
            rw [← hq] at hrc
            have z0 : (0 : Int) ≤ (q2 : Int) := by omega
            have z1 : (q2 : Int) < (gn : Int) := by have := HN.out; omega
            have z2 : (gn : Int) ≤ 16777216 := by omega
            have w1 : IntKind.i64.wrap (q : Int) = (q : Int) := IntWalk.i64_in _ (by omega)
            have w2 : IntKind.i64.wrap (q2 : Int) = (q2 : Int) := IntWalk.i64_in _ (by omega)
            have w3 : IntKind.i32.wrap y = y := IntWalk.i32_in _ (by omega)
            have r0 : (0 : Int) ≤ (r : Int) := by omega
            have r1 : (r : Int) < (R : Int) := by omega
            clear hx hy wx wy hq hq2 hgd hvl
            go_wp2_with fail
            go_quiet (fail)
            go_wp2
            go_roundw
            case rel => exact ⟨r + 1, by omega, by go_num, below_drewN hbr _⟩
            case measure => simp [intOf]; omega
          · obtain rfl : r = R := by omega
            go_wp2
            go_ret
            exact ⟨rfl, B11⟩
      · obtain rfl : C = 0 := by omega
        go_enter Try.func9, Try.ntmps9
        go_wp2_with fail
        refine (awake4 _).mono ?_
        rintro e wa ⟨rfl, hb⟩
        have B1 := below_two (B0 _) hb
        have X1 := X0.below hb
        have X1' := X1
        obtain ⟨_, c0, c1, c2, _, _, _⟩ := X1
        clear X0 B0 hb
        go_wp2_with fail
        refine (small4 _ _ _ _ _ hgn true (decide_eq_true hsm) _).mono ?_
        rintro e wb ⟨rfl, hb⟩
        have B2 := below_two B1 hb
        have X2 := X1'.below hb
        have X2' := X2
        obtain ⟨_, d0, d1, d2, _, _, _⟩ := X2
        clear c0 c1 c2 X1' hb B1
        go_wp2_with fail
        refine (doc_right _ _ _ _ _ _ hgn true hf).mono ?_
        rintro e wc ⟨rfl, hb⟩
        have B3 := below_two B2 hb
        obtain ⟨_, c0, c1, c2, _, _, _⟩ := X2'.below hb
        clear d0 d1 d2 X2' hb B2 hf
        replace c1 : wc.cell? ⟨w.heap.size, 1, none⟩ = some (.int .i64 0) := c1
        go_wp2_with fail
        refine (awake4 _).mono ?_
        rintro e wd ⟨rfl, hb⟩
        have B4 := below_two B3 hb
        go_wp2
        go_ret
        exact ⟨rfl, B4⟩
  · have hbig : 600 < g0.n := by omega
    clear h0
    go_enter Try.func9, Try.ntmps9
    go_wp2_with fail
    refine (awake4 _).mono ?_
    rintro e wa ⟨rfl, hb⟩
    have B1 := below_two (B0 _) hb
    obtain ⟨_, c0, c1, c2, _, _, _⟩ := X0.below hb
    clear X0 B0 hb
    go_wp2_with fail
    refine (small4 _ _ _ _ _ hgn false (decide_eq_false hsm) _).mono ?_
    rintro e wb ⟨rfl, hb⟩
    have B2 := below_two B1 hb
    clear c0 c1 c2 hb B1
    go_wp2_with fail
    refine (awake4 _).mono ?_
    rintro e wc ⟨rfl, hb⟩
    have B3 := below_two B2 hb
    go_wp2
    go_ret
    exact ⟨rfl, B3⟩

set_option maxRecDepth 100000 in
theorem lifted (os : Os) (started : os.Started) (H : Type) (enc : TypeId × Value → H) :
    ReturnsInHanded {} Try.checked os 9 .any (Rows.matmulOneSpec.pre6 enc Try.prog Try.f9 Rows.matmulOneRow.domain false) (Rows.matmulOneSpec.post enc Try.prog Try.f9 false true false false) := by
  refine returnsInHanded_of_change (C := Try.checked) own started (by kernel_rfl) Try.func9
    (ChangeSpec.witness6 (enc := enc) (C := Try.checked) false ⟨#[], #[.agg #[.int .i64 0, .int .i64 0, .slice none 0 0], .int .i64 0], []⟩ 8 (by kernel_rfl) (by kernel_rfl) (by kernel_rfl) (by kernel_rfl)) ?_
  intro W base args ds gs before hval0 hW hcnd _
  have hval : ∀ (j : Nat) t v, Try.f9.params[j]? = some t → args[j]? = some v → Value.okWide Try.prog W .any base t v := hval0
  have hW' := hW
  obtain ⟨p, q, hA0, hV, rfl, hfz, hnd⟩ := hW
  have hA : DataW.TrodAll enc Try.prog W 0 (fun _ => true) true Try.f9.params.toList args.toList ds p := hA0
  rw [Try.params9] at hA hval
  obtain ⟨v0, vs0, d0, ds0, p0, q0, hargs, rfl, rfl, h0, r0⟩ := trodAll_cons hA
  obtain ⟨v1, vs1, d1, ds1, p1, q1, rfl, rfl, rfl, h1, r1⟩ := trodAll_cons r0
  obtain ⟨rfl, rfl, rfl⟩ := trodAll_nil r1
  obtain rfl : args = #[v0, v1] := by cases args; simp_all
  obtain ⟨rfl, rfl⟩ := trodVars_none hV
  have k0 := h0
  have lt0 : ∀ x ∈ p0, x.block < W.heap.size := by obtain ⟨m, hm⟩ := k0; exact DataW.trod_lt m _ _ _ hm
  obtain ⟨g0, rfl, w0⟩ := open_mat (hval 0 24 v0 rfl rfl) h0
  obtain ⟨a1, rfl, rfl, rfl, w1⟩ := open_int Try.underlying3 (hval 1 3 v1 rfl rfl) h1
  clear hA0 hval0
  refine (walk g0 a1 W w0 w1).mono fun e W' ⟨he, bel⟩ => ?_
  subst he
  exact ⟨_, rfl, _, _, _, [], _, [], hW', trodAll_mk1 (shut_bool Try.underlying4 _), (trodAll_cons_mk (Below.trod laidOut (by kernel_rfl) (of_decide_eq_true (by kernel_rfl)) k0 bel lt0) (trodAll_cons_mk (shut_int Try.underlying3 w1) trodAll_mk0)), rfl, bel.frame _, fun h => by cases h⟩

theorem over : Rows.matmulOneRow.holds Try.pinned (OpenSpec.ofChange Rows.matmulOneSpec) :=
  OpenClaim.holds_of_wide 9 Try.f9 rfl rfl rfl rfl rfl rfl rfl ⟨rfl, rfl, rfl, rfl, rfl⟩ rfl rfl rfl rfl rfl (by kernel_rfl) Try.func9 (by kernel_rfl)
    (of_decide_eq_true (by kernel_rfl)) (by unfold Func.isWrapper; first | (rw [if_pos (by decide +kernel)]; kernel_rfl) | (rw [if_neg (by decide +kernel)]; exact ⟨rfl, rfl⟩))
    (fun os started H enc _ => lifted os started H enc)

/-- ████ THE STATEMENT ████ -/
theorem proved : Rows.MatmulOneSaid := over
#print axioms proved
end Go.Proofs.Ytkiedganojaniaa.matmulOne
