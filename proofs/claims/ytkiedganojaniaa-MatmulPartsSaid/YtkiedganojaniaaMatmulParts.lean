/-
  Proved: for every matrix, every row and every number of parts MatmulParts returns true (the products of a matrix' rows in parts are its product, and those of its columns, summed) and nothing that was in memory turns. Conditions: none.
-/
import Derived.Test.YtkiedganojaniaaRows
import Derived.WalkKit
import Derived.ProofKit
import Derived.OpenShut
import Derived.ShutString
import Derived.ChangeOld
import Derived.Below
import Derived.Test.YtkiedganojaniaaMatRow
import Derived.Test.YtkiedganojaniaaLaw4
import Derived.Test.YtkiedganojaniaaPartsMath
import Derived.Deep.RegionLaw
import Derived.Deep.CutBlock
import Derived.Deep.CutRange
namespace Go.Proofs.Ytkiedganojaniaa.matmulParts
open Go.ChangeShapes Go.WideShapes Go.ChangeAt Go.RowKit
open Go.ChangeMaps (open_string shut_string)
set_option linter.unusedVariables false

theorem own : ownKnob Try.prog.godebug = none := by kernel_rfl
theorem laidOut : laidOutB Try.prog = true := by kernel_rfl

set_option maxHeartbeats 16000000 in
set_option maxRecDepth 100000 in
theorem walk (g0 : Gr) (q1 : Rw) (a2 : Int) (w : World) (h0 : g0.In8 w) (h1 : q1.In .i8 w) (h2 : (Lit.int .i64 a2).wf = true) :
    Calls Try.prog 7 #[.agg #[.int .i64 g0.r, .int .i64 g0.c, .slice g0.a g0.n g0.cap], .slice q1.a q1.n q1.cap, .int .i64 a2] w fun e w' => e = .returned (.bool true) ∧ Below w.heap.size w w' := by
  have hgn := h0.1.2.1
  have hn1 := h1.1.2.1
  have X0 := box3_at (w := w) rfl (.int .i64 g0.r) (.int .i64 g0.c) (.slice g0.a g0.n g0.cap) 24
  have B0 := fun o => (Below.refl w.heap.size w).alloc (Nat.le_refl _) o
  have hcases : 600 < g0.n ∨ (g0.n ≤ 600 ∧ 300 < q1.n) ∨ (g0.n ≤ 600 ∧ q1.n ≤ 300) := by omega
  rcases hcases with hbig | ⟨hsm, hbig⟩ | ⟨hsm, hs1⟩
  · clear h0 h1
    go_enter Try.func7, Try.ntmps7
    go_wp2_with fail
    refine (awake4 _).mono ?_
    rintro e wa ⟨rfl, hb⟩
    have B1 := below_two (B0 _) hb
    have X1 := X0.below hb
    have X1' := X1
    obtain ⟨_, c0, c1, c2, _, _, _⟩ := X1
    clear X0 B0 hb
    go_wp2_with fail
    refine (small4 _ _ _ _ _ hgn false (decide_eq_false (by omega)) _).mono ?_
    rintro e wb ⟨rfl, hb⟩
    have B2 := below_two B1 hb
    have X2 := X1'.below hb
    have X2' := X2
    obtain ⟨_, d0, d1, d2, _, _, _⟩ := X2
    clear c0 c1 c2 hb B1 X1'
    clear d0 d1 d2 X2'
    go_wp2_with fail
    refine (awake4 _).mono ?_
    rintro e wc ⟨rfl, hb⟩
    have B3 := below_two B2 hb
    go_wp2
    go_ret
    exact ⟨rfl, B3⟩
  · clear h0 h1
    go_enter Try.func7, Try.ntmps7
    go_wp2_with fail
    refine (awake4 _).mono ?_
    rintro e wa ⟨rfl, hb⟩
    have B1 := below_two (B0 _) hb
    have X1 := X0.below hb
    have X1' := X1
    obtain ⟨_, c0, c1, c2, _, _, _⟩ := X1
    clear X0 B0 hb
    go_wp2_with fail
    refine (small4 _ _ _ _ _ hgn true (decide_eq_true hsm) _).mono ?_
    rintro e wb ⟨rfl, hb⟩
    have B2 := below_two B1 hb
    have X2 := X1'.below hb
    have X2' := X2
    obtain ⟨_, d0, d1, d2, _, _, _⟩ := X2
    clear c0 c1 c2 hb B1 X1'
    clear d0 d1 d2 X2'
    go_wp2_with fail
    refine (awake4 _).mono ?_
    rintro e wc ⟨rfl, hb⟩
    have B3 := below_two B2 hb
    go_wp2
    go_ret
    exact ⟨rfl, B3⟩
  · have HG := Lib.hid h0
    have HX := Lib.hid h1
    clear h0 h1
    cases hx : appB g0 q1.n with
    | false =>
      go_enter Try.func7, Try.ntmps7
      go_wp2_with fail
      refine (awake4 _).mono ?_
      rintro e wa ⟨rfl, hb⟩
      have B1 := below_two (B0 _) hb
      have X1 := X0.below hb
      have X1' := X1
      obtain ⟨_, c0, c1, c2, _, _, _⟩ := X1
      clear X0 B0 hb
      go_wp2_with fail
      refine (small4 _ _ _ _ _ hgn true (decide_eq_true hsm) _).mono ?_
      rintro e wb ⟨rfl, hb⟩
      have B2 := below_two B1 hb
      have X2 := X1'.below hb
      have X2' := X2
      obtain ⟨_, d0, d1, d2, _, _, _⟩ := X2
      clear c0 c1 c2 hb B1 X1'
      have G2 := HG.out.below B2
      have Q2 := HX.out.below B2
      go_wp2_with fail
      refine (apply_no g0 q1 hx _ G2 Q2).mono ?_
      rintro e wc ⟨he, hb⟩
      unfold NoRow at he
      subst he
      have B3 := below_two B2 hb
      clear d0 d1 d2 hb B2 G2 Q2 hx
      go_wp2
      go_ret
      exact ⟨rfl, B3⟩
    | true =>
      obtain ⟨R, C, e1, e2, hR, hC, e3, hle, e4⟩ := appB_yes hx
      obtain ⟨gr, gc, ga, gn, gcap, gv⟩ := g0
      obtain ⟨qa, qn, qcap, qv⟩ := q1
      simp only at e1 e2 e3 e4 hsm hs1 hgn hn1 X0 ⊢
      subst e1 e2 e4
      have HN := Lib.hid e3
      clear e3 hx
      obtain ⟨t1, t2⟩ := rest9 a2
      obtain ⟨t, ht⟩ : ∃ t, a2.tmod 9 = t := ⟨_, rfl⟩
      rw [ht] at t1 t2
      obtain ⟨pp, hp⟩ : ∃ pp, t + 9 = pp := ⟨_, rfl⟩
      have p0 : 0 ≤ pp := by omega
      have p1 : pp ≤ 17 := by omega
      obtain ⟨q, hq⟩ : ∃ q : Nat, pp % 9 = (q : Int) := ⟨(pp % 9).toNat, by omega⟩
      have hq9 : q ≤ 8 := by omega
      have hq2 : pp.tmod 9 = (q : Int) := by rw [Int.tmod_eq_emod_of_nonneg p0]; exact hq
      obtain ⟨N, hN⟩ : ∃ N, N = q + 1 := ⟨_, rfl⟩
      have eN : 1 + (q : Int) = (N : Int) := by omega
      have hN1 : 1 ≤ N := by omega
      have hN9 : N ≤ 9 := by omega
      obtain ⟨L, hL⟩ : ∃ L, L = N + 1 := ⟨_, rfl⟩
      have eL : (N : Int) + 1 = (L : Int) := by omega
      have hmk := run_make_row' (P := Try.prog) 31 27 (.slice none 0 0) 24 Try.underlying31 info_slice32 rfl .i64 .i64 R (by omega) (by omega)
      have HQ := Lib.hid hN
      have HL := Lib.hid hL
      clear hN hL
      go_enter Try.func7, Try.ntmps7
      go_wp2_with fail
      refine (awake4 _).mono ?_
      rintro e wa ⟨rfl, hb⟩
      have B1 := below_two (B0 _) hb
      have X1 := X0.below hb
      have X1' := X1
      obtain ⟨_, c0, c1, c2, _, _, _⟩ := X1
      clear X0 B0 hb
      go_wp2_with fail
      refine (small4 _ _ _ _ _ hgn true (decide_eq_true hsm) _).mono ?_
      rintro e wb ⟨rfl, hb⟩
      have B2 := below_two B1 hb
      have X2 := X1'.below hb
      have X2' := X2
      obtain ⟨_, d0, d1, d2, _, _, _⟩ := X2
      clear c0 c1 c2 hb B1 X1'
      have G2 := HG.out.below B2
      have Q2 := HX.out.below B2
      go_wp2_with fail
      refine (apply_yes ⟨R, qn, ga, gn, gcap, gv⟩ ⟨qa, qn, qcap, qv⟩ R qn rfl rfl HN.out rfl hR hC hle _ G2 Q2).mono ?_
      rintro e wc ⟨⟨gw, rfl, _, hEw⟩, hb⟩
      simp only at hEw
      have B3 := below_two B2 hb
      have X3 := X2'.below hb
      have X3' := X3
      obtain ⟨_, c0, c1, c2, _, _, _⟩ := X3
      clear d0 d1 d2 hb B2 G2 Q2 X2'
      go_wp2_with fail
      refine (spans_yes R N (by omega) hN1 (by omega) _).mono ?_
      rintro e wd ⟨⟨gR, rfl, _, hER⟩, hb⟩
      rw [← HL.out] at hER ⊢
      have B4 := below_two B3 hb
      have X4 := X3'.below hb
      have X4' := X4
      have hEw4 := hEw.below hb
      obtain ⟨_, d0, d1, d2, _, _, _⟩ := X4
      clear c0 c1 c2 hb B3 X3' hEw ht hp hq hq2 p0 p1 t1 t2 eN
      go_wp2_with fail
      refine (spans_yes qn N (by omega) hN1 (by omega) _).mono ?_
      rintro e we ⟨⟨gC, rfl, _, hEC⟩, hb⟩
      rw [← HL.out] at hEC ⊢
      have B5 := below_two B4 hb
      have X5 := X4'.below hb
      have X5' := X5
      have hEw5 := hEw4.below hb
      have hER5 := hER.below hb
      obtain ⟨_, c0, c1, c2, _, _, _⟩ := X5
      clear d0 d1 d2 hb B4 X4' hEw4 hER
      have hspR : ∀ i, i ≤ N → we.cell? ⟨gR, i, none⟩ = some (.int .i64 (spanAt R N i : Nat)) := fun i hi => by
        obtain ⟨b, off, he, hc⟩ := hER5.2.2.2 (by have := HL.out; omega)
        cases he
        have := hc i (by have := HL.out; omega)
        rw [spanL_at R N i hi, Nat.zero_add] at this
        exact this
      have hspC : ∀ i, i ≤ N → we.cell? ⟨gC, i, none⟩ = some (.int .i64 (spanAt qn N i : Nat)) := fun i hi => by
        obtain ⟨b, off, he, hc⟩ := hEC.2.2.2 (by have := HL.out; omega)
        cases he
        have := hc i (by have := HL.out; omega)
        rw [spanL_at qn N i hi, Nat.zero_add] at this
        exact this
      have SR := Lib.hid hspR
      have SC := Lib.hid hspC
      have hvl : gv.length = R * qn := by have := HG.out.1.1; simp only at this; rw [this]; exact HN.out
      have hxl : qv.length = qn := HX.out.1.1
      have HVL := Lib.hid hvl
      have HXL := Lib.hid hxl
      have hinv0 : PInv we we.heap.size R (fun _ => 0) (fun r => pzs gv qv qn N r 0) (spanAt R N 0) ((mv gv qv R qn).take (spanAt R N 0)) (.slice none 0 0) (List.replicate R (.slice none 0 0)) (we.alloc (.cells (madeCells #[Value.slice none 0 0] R) 27)) :=
        ⟨(Below.refl _ _).alloc (Nat.le_refl _) _, rows32_start we R _ (fun r => rfl), by rw [span_zero]; exact own_nil _ _ _, fun r y b hy hb => by
          have := List.eq_of_mem_replicate (List.mem_of_getElem? hy)
          subst this
          simp [Value.ownBlock] at hb, rfl⟩
      have HI0 := Lib.hid hinv0
      clear hER5 hEC hspR hspC hvl hxl hinv0
      go_wp2_with fail
      clear c0 c1 c2
      go_loopw [14, 16] (fun u i wr => ∃ (k : Nat) (vs : List Value), k ≤ N ∧ i = .int .i64 k ∧ Hid (PInv we we.heap.size R (fun _ => k) (fun r => pzs gv qv qn N r k) (spanAt R N k) ((mv gv qv R qn).take (spanAt R N k)) u vs wr)) (fun _ i _ => N - (intOf i).toNat)
      case atStart => exact ⟨0, _, by omega, rfl, HI0⟩
      case round =>
        clear HI0
        obtain ⟨k, vs, hk, rfl, hinv⟩ := hrel
        have B6 := below_two B5 hinv.out.bel
        have X6 := X5'.below hinv.out.bel
        have X6' := X6
        obtain ⟨_, c0, c1, c2, _, _, _⟩ := X6
        by_cases hlt : k < N
        · have hfr := span_mono R N k (k + 1) (by omega)
          have hto := span_le R N (k + 1) (by omega)
          have hcf := span_mono qn N k (k + 1) (by omega)
          have hct := span_le qn N (k + 1) (by omega)
          have r0 := cell_keep (SR.out k (by omega)) hinv.out.bel
          have r1 := cell_keep (SR.out (k + 1) (by omega)) hinv.out.bel
          have s0 := cell_keep (SC.out k (by omega)) hinv.out.bel
          have s1 := cell_keep (SC.out (k + 1) (by omega)) hinv.out.bel
          have hmvr := mv_rows gv qv R qn (spanAt R N k) (spanAt R N (k + 1)) HVL.out hfr hto
          have hmvc := fun r (hr : r < R) => mv_cols gv qv R qn N r k HVL.out hr hct
          have hrow := fun W (hW : Below w.heap.size w W) => mrows_yes ⟨R, qn, ga, gn, gcap, gv⟩ R qn (spanAt R N k) (spanAt R N (k + 1)) rfl rfl HN.out hR hC hle hfr hto (spanAt R N k : Nat) (spanAt R N (k + 1) : Nat) rfl rfl W (HG.out.below hW)
          have hcol := fun W (hW : Below w.heap.size w W) => mcols_yes ⟨R, qn, ga, gn, gcap, gv⟩ R qn (spanAt qn N k) (spanAt qn N (k + 1)) rfl rfl HN.out hR hC hle hcf hct (spanAt qn N k : Nat) (spanAt qn N (k + 1) : Nat) rfl rfl W (HG.out.below hW)
          obtain ⟨fr, hfr0⟩ : ∃ fr, fr = spanAt R N k := ⟨_, rfl⟩
          obtain ⟨te, hto0⟩ : ∃ te, te = spanAt R N (k + 1) := ⟨_, rfl⟩
          obtain ⟨cf, hcf0⟩ : ∃ cf, cf = spanAt qn N k := ⟨_, rfl⟩
          obtain ⟨ct, hct0⟩ : ∃ ct, ct = spanAt qn N (k + 1) := ⟨_, rfl⟩
          simp only [← hfr0, ← hto0, ← hcf0, ← hct0] at hfr hto hcf hct r0 r1 s0 s1 hmvr hmvc hrow hcol
          rw [← hfr0] at hinv
          obtain ⟨m, hm⟩ : ∃ m, m = te - fr := ⟨_, rfl⟩
          obtain ⟨c, hc⟩ : ∃ c, c = ct - cf := ⟨_, rfl⟩
          simp only [← hm, ← hc] at hmvr hmvc hrow hcol
          have hmR : m ≤ R := by omega
          have hcC : c ≤ qn := by omega
          have hmn : m * qn ≤ 1048576 := by have := Nat.mul_le_mul_right qn hmR; omega
          have hcn : R * c ≤ 1048576 := by have := Nat.mul_le_mul_left R hcC; omega
          obtain ⟨TA, hTA⟩ : ∃ TA, (tab m qn fun i j => gv.getD ((fr + i) * qn + j) 0) = TA := ⟨_, rfl⟩
          obtain ⟨TB, hTB⟩ : ∃ TB, (tab R c fun i j => gv.getD (i * qn + (cf + j)) 0) = TB := ⟨_, rfl⟩
          rw [hTA] at hmvr
          simp only [hTA] at hrow
          simp only [hTB] at hcol hmvc
          obtain ⟨k1, hk1⟩ : ∃ k1, k1 = k + 1 := ⟨_, rfl⟩
          have ek1 : (k : Int) + 1 = (k1 : Int) := by omega
          rw [← hk1] at r1 s1
          have f0 : (0 : Int) ≤ (k : Int) := by omega
          have f1 : (k : Int) < (L : Int) := by have := HL.out; omega
          have f2 : (0 : Int) ≤ (k1 : Int) := by omega
          have f3 : (k1 : Int) < (L : Int) := by have := HL.out; omega
          have v1 : IntKind.i64.wrap (k1 : Int) = (k1 : Int) := IntWalk.i64_in _ (by omega)
          have HMVR := Lib.hid hmvr
          have HMVC := Lib.hid hmvc
          have HM := Lib.hid hm
          have HC := Lib.hid hc
          have HTO := Lib.hid hto0
          have HCT := Lib.hid hct0
          have HCF := Lib.hid hcf0
          have HK1 := Lib.hid hk1
          clear hmvr hmvc hm hc hTA hTB hk1 hfr0 hto0 hcf0 hct0
          have hcA := hrow wr.drew (below_two B6 (Below.refl _ _).drew)
          have hcB := hrow ((wr.alloc (.cells #[.int .i64 0, .int .i64 0, .slice none 0 0] 24)).drew) (below_two B6 (((Below.refl _ _).alloc (Nat.le_refl _) _).drew))
          have sA : Below wr.heap.size wr wr.drew := (Below.refl _ _).drew
          have sB : Below wr.heap.size wr ((wr.alloc (.cells #[.int .i64 0, .int .i64 0, .slice none 0 0] 24)).drew) := ((Below.refl _ _).alloc (Nat.le_refl _) _).drew
          have zB : Box3 ((wr.alloc (.cells #[.int .i64 0, .int .i64 0, .slice none 0 0] 24)).drew) wr.heap.size (.int .i64 0) (.int .i64 0) (.slice none 0 0) := box3_at rfl _ _ _ _
          go_upto_region 16 with fail
          go_cut [17, 18] from 82 to 179 (fun a f wx => ∃ b gA : Nat, a = .pointer (some ⟨b, 0, none⟩) ∧ f = .int .i64 0 ∧ Below wr.heap.size wr wx ∧ wr.heap.size ≤ gA ∧ Hid (Box3 wx b (.int .i64 m) (.int .i64 qn) (.slice (some ⟨gA, 0, none⟩) (m * qn : Nat) (m * qn : Nat)) ∧ Elems .i8 wx (some ⟨gA, 0, none⟩) (m * qn) TA))
          case first =>
            have xb := X6'.1
            have gb := World.block_lt_of_cell? _ _ r0
            have n1 : wr.heap.size ≠ w.heap.size := by omega
            have n2 : w.heap.size ≠ wr.heap.size := by omega
            have n3 : wr.heap.size ≠ gR := by show _ ≠ (⟨gR, k, none⟩ : Addr).block; omega
            have n4 : gR ≠ wr.heap.size := by omega
            go_region_held3 (fun w' => w'.cell? ⟨w.heap.size, 0, none⟩ = some (.int .i64 R) ∧ w'.cell? ⟨w.heap.size, 1, none⟩ = some (.int .i64 qn) ∧ w'.cell? ⟨w.heap.size, 2, none⟩ = some (.slice ga gn gcap) ∧ w'.cell? ⟨gR, k, none⟩ = some (.int .i64 fr) ∧ w'.cell? ⟨gR, k1, none⟩ = some (.int .i64 te))
              (first | go_keep | (go_split_ands; refine ⟨?_, ?_, ?_, ?_, ?_⟩ <;> assumption))
              (first
                | (go_at_call 19; (with_reducible refine hcA.mono ?_); rintro e w1 ⟨⟨gA, rfl, hgA, hEA⟩, hs1⟩
                   have hS1 := below_two sA hs1
                   obtain ⟨_, m0, m1_, m2_, _, _, _⟩ := X6'.below hS1
                   have m3 := cell_keep r0 hS1
                   have m4 := cell_keep r1 hS1)
                | (go_at_call 19; (with_reducible refine hcB.mono ?_); rintro e w2 ⟨⟨gB, rfl, hgB, hEB⟩, hs2⟩
                   have hS2 := below_two sB hs2
                   have hz2 := zB.below hs2
                   obtain ⟨_, m0, m1_, m2_, _, _, _⟩ := X6'.below hS2
                   have hz2' := hz2
                   obtain ⟨_, y0, y1, y2, y3, y4, y5⟩ := hz2
                   have hgB' : wr.heap.size + 1 ≤ gB := by have := hgB; simp [World.drew] at this; omega
                   have m3 := cell_keep r0 hS2
                   have m4 := cell_keep r1 hS2))
            all_goals go_wp2_with fail
            all_goals go_meet
            all_goals (case rel => first
              | exact ⟨w1.heap.size, gA, rfl, rfl, hS1.alloc hS1.size _, hgA, Lib.hid ⟨box3_new w1 _ _ _ _, hEA.below ((Below.refl _ _).alloc (Nat.le_refl _) _)⟩⟩
              | exact ⟨wr.heap.size, gB, rfl, rfl, below_res hS2 (Nat.le_refl _) _ _ _, by omega, Lib.hid ⟨hz2'.res _ _ _, hEB.other (grownBy_res _ _ _ _ _) (by omega)⟩⟩)
          case rest =>
            obtain ⟨bA, gA, rfl, rfl, hbA, hgA, hxA⟩ := hcut
            clear c0 c1 c2 r0 r1 hcA hcB sA sB zB hrow
            have B7 := below_two B6 hbA
            have P7 := hinv.out.below hbA
            have X7 := X6'.below hbA
            have X7' := X7
            have s0a := cell_keep s0 hbA
            have s1a := cell_keep s1 hbA
            obtain ⟨_, c0, c1, c2, _, _, _⟩ := X7
            obtain ⟨_, a0, a1_, a2_, _, _, _⟩ := hxA.out.1
            have hmI := mat_in hxA.out.2 m qn (by omega) hC (by omega)
            have hxI := HX.out.below B7
            have HP7 := Lib.hid P7
            clear P7 s0 s1
            go_wp2_with fail
            refine (apply_yes ⟨m, qn, some ⟨gA, 0, none⟩, m * qn, m * qn, TA⟩ ⟨qa, qn, qcap, qv⟩ m qn rfl rfl rfl rfl (by omega) hC hmn _ hmI hxI).mono ?_
            rintro e wB ⟨⟨gY, rfl, hgY, hEY⟩, hbY⟩
            simp only at hEY
            have B8 := below_two B7 hbY
            have P8 := HP7.out.below hbY
            have X8 := X7'.below hbY
            have X8' := X8
            have s0b := cell_keep s0a hbY
            have s1b := cell_keep s1a hbY
            obtain ⟨_, d0, d1, d2, _, _, _⟩ := X8
            have HP8 := Lib.hid P8
            clear c0 c1 c2 a0 a1_ a2_ hmI hxI HP7 P8 s0a s1a X7' B7
            have hcA := hcol wB.drew (below_two B8 (Below.refl _ _).drew)
            have hcB := hcol ((wB.alloc (.cells #[.int .i64 0, .int .i64 0, .slice none 0 0] 24)).drew) (below_two B8 (((Below.refl _ _).alloc (Nat.le_refl _) _).drew))
            have sA : Below wB.heap.size wB wB.drew := (Below.refl _ _).drew
            have sB : Below wB.heap.size wB ((wB.alloc (.cells #[.int .i64 0, .int .i64 0, .slice none 0 0] 24)).drew) := ((Below.refl _ _).alloc (Nat.le_refl _) _).drew
            have zB : Box3 ((wB.alloc (.cells #[.int .i64 0, .int .i64 0, .slice none 0 0] 24)).drew) wB.heap.size (.int .i64 0) (.int .i64 0) (.slice none 0 0) := box3_at rfl _ _ _ _
            go_upto_region 18 with fail
            go_cut [21, 22] from 82 to 179 (fun a f wx => ∃ b gA : Nat, a = .pointer (some ⟨b, 0, none⟩) ∧ f = .int .i64 0 ∧ Below wB.heap.size wB wx ∧ wB.heap.size ≤ gA ∧ Hid (Box3 wx b (.int .i64 R) (.int .i64 c) (.slice (some ⟨gA, 0, none⟩) (R * c : Nat) (R * c : Nat)) ∧ Elems .i8 wx (some ⟨gA, 0, none⟩) (R * c) TB))
            case first =>
              have xb := X8'.1
              have gb := World.block_lt_of_cell? _ _ s0b
              have n1 : wB.heap.size ≠ w.heap.size := by omega
              have n2 : w.heap.size ≠ wB.heap.size := by omega
              have n3 : wB.heap.size ≠ gC := by show _ ≠ (⟨gC, k, none⟩ : Addr).block; omega
              have n4 : gC ≠ wB.heap.size := by omega
              go_region_held3 (fun w' => w'.cell? ⟨w.heap.size, 0, none⟩ = some (.int .i64 R) ∧ w'.cell? ⟨w.heap.size, 1, none⟩ = some (.int .i64 qn) ∧ w'.cell? ⟨w.heap.size, 2, none⟩ = some (.slice ga gn gcap) ∧ w'.cell? ⟨gC, k, none⟩ = some (.int .i64 cf) ∧ w'.cell? ⟨gC, k1, none⟩ = some (.int .i64 ct))
                (first | go_keep | (go_split_ands; refine ⟨?_, ?_, ?_, ?_, ?_⟩ <;> assumption))
                (first
                  | (go_at_call 20; (with_reducible refine hcA.mono ?_); rintro e w1 ⟨⟨gA, rfl, hgA, hEA⟩, hs1⟩
                     have hS1 := below_two sA hs1
                     obtain ⟨_, m0, m1_, m2_, _, _, _⟩ := X8'.below hS1
                     have m3 := cell_keep s0b hS1
                     have m4 := cell_keep s1b hS1)
                  | (go_at_call 20; (with_reducible refine hcB.mono ?_); rintro e w2 ⟨⟨gB, rfl, hgB, hEB⟩, hs2⟩
                     have hS2 := below_two sB hs2
                     have hz2 := zB.below hs2
                     obtain ⟨_, m0, m1_, m2_, _, _, _⟩ := X8'.below hS2
                     have hz2' := hz2
                     obtain ⟨_, y0, y1, y2, y3, y4, y5⟩ := hz2
                     have hgB' : wB.heap.size + 1 ≤ gB := by have := hgB; simp [World.drew] at this; omega
                     have m3 := cell_keep s0b hS2
                     have m4 := cell_keep s1b hS2))
              all_goals go_wp2_with fail
              all_goals go_meet
              all_goals (case rel => first
                | exact ⟨w1.heap.size, gA, rfl, rfl, hS1.alloc hS1.size _, hgA, Lib.hid ⟨box3_new w1 _ _ _ _, hEA.below ((Below.refl _ _).alloc (Nat.le_refl _) _)⟩⟩
                | exact ⟨wB.heap.size, gB, rfl, rfl, below_res hS2 (Nat.le_refl _) _ _ _, by omega, Lib.hid ⟨hz2'.res _ _ _, hEB.other (grownBy_res _ _ _ _ _) (by omega)⟩⟩)
            case rest =>
              obtain ⟨bB, gB, rfl, rfl, hbB, hgB, hxB⟩ := hcut
              clear d0 d1 d2 s0b s1b hcA hcB sA sB zB hcol
              have B9 := below_two B8 hbB
              have P9 := HP8.out.below hbB
              have X9 := X8'.below hbB
              have X9' := X9
              have EY9 := hEY.below hbB
              have s0c := cell_keep (SC.out k (by omega)) P9.bel
              have s1c := cell_keep (SC.out (k + 1) (by omega)) P9.bel
              rw [← HK1.out] at s1c
              have hcut : cf = spanAt qn N k ∧ ct = spanAt qn N (k + 1) := ⟨HCF.out, HCT.out⟩
              rw [← hcut.1] at s0c
              rw [HK1.out, ← hcut.2, ← HK1.out] at s1c
              have hmB := mat_in hxB.out.2 R c hR (by omega) (by omega)
              have hBx := hxB.out.1
              have hBx' := hBx
              obtain ⟨_, b0, b1, b2, _, _, _⟩ := hBx
              have HP9 := Lib.hid P9
              have hqr := HX.out.below B9
              have hxp : ∀ (W : World) (b o : Nat), Elems .i8 W (some ⟨b, o, none⟩) qn qv → Elems .i8 W (some ⟨b, o + cf, none⟩) (ct - cf) ((qv.drop cf).take c) := fun W b o h => by
                rw [← HC.out]; exact (h.drop cf (by omega)).take c (by have := HC.out; omega)
              have hform : (qa = none ∧ qcap = 0 ∧ qn = 0) ∨ (∃ x, qa = some x ∧ cf = qcap ∧ c = 0) ∨ (∃ b o, qa = some ⟨b, o, none⟩ ∧ cf < qcap) := by
                have h2 : qn ≤ qcap := hqr.2.1
                cases hqa : qa with
                | none => have h3 := hqr.2.2.2.1 hqa; simp only at h3; exact .inl ⟨rfl, h3, by omega⟩
                | some x =>
                  by_cases hlt3 : cf < qcap
                  · obtain ⟨b, o, spot⟩ := x
                    have h3 := hqr.2.2.2.2 _ hqa (by show 0 < qcap; omega)
                    simp only at h3
                    subst h3
                    exact .inr (.inr ⟨b, o, rfl, hlt3⟩)
                  · exact .inr (.inl ⟨x, rfl, by omega, by have := HC.out; omega⟩)
              have HXP := Lib.hid hxp
              have HQR := Lib.hid hqr
              have sA : Below wc.heap.size wc wc.drew := (Below.refl _ _).drew
              have hgbC := World.block_lt_of_cell? _ _ s0c
              clear P9 hcut hxp hqr X9 HP8
              go_upto_region 19 with fail
              go_cut [23, 24] from 82 to 179 (fun z h wx => ∃ gZ : Nat, z = .slice (some ⟨gZ, 0, none⟩) R R ∧ h = .int .i64 0 ∧ Below wc.heap.size wc wx ∧ wc.heap.size ≤ gZ ∧ Hid (Elems .i32 wx (some ⟨gZ, 0, none⟩) R (mv TB ((qv.drop cf).take c) R c)))
              case first =>
                rcases hform with ⟨rfl, rfl, hq0⟩ | ⟨x, rfl, rfl, hc0⟩ | ⟨b, o, rfl, hlt3⟩
                · obtain rfl : cf = 0 := by omega
                  obtain rfl : ct = 0 := by omega
                  have HQ0 := Lib.hid hq0
                  clear hq0
                  replace s0c : wc.cell? ⟨gC, k, none⟩ = some (.int .i64 0) := s0c
                  replace s1c : wc.cell? ⟨gC, k1, none⟩ = some (.int .i64 0) := s1c
                  have hc00 : c = 0 := by have := HC.out; omega
                  have hz00 : ((qv.drop 0).take c).length = 0 := by rw [hc00]; simp
                  clear hc00
                  have hcA := apply_yes ⟨R, c, some ⟨gB, 0, none⟩, R * c, R * c, TB⟩ ⟨none, 0, 0, (qv.drop 0).take c⟩ R c rfl rfl rfl (show (0 : Nat) = c by have := HC.out; omega) hR (by omega) hcn wc.drew (hmB.below sA) ⟨Elems.empty _ hz00 rfl, Nat.le_refl _, by show (0 : Nat) ≤ _; omega, ⟨fun _ => rfl, fun x e => (by cases e)⟩⟩
                  simp only at hcA
                  (try clear hz00)
                  go_region_held3 (fun w' => w'.cell? ⟨bB, 0, none⟩ = some (.int .i64 R) ∧ w'.cell? ⟨bB, 1, none⟩ = some (.int .i64 c) ∧ w'.cell? ⟨bB, 2, none⟩ = some (.slice (some ⟨gB, 0, none⟩) (R * c : Nat) (R * c : Nat)) ∧ w'.cell? ⟨gC, k, none⟩ = some (.int .i64 0) ∧ w'.cell? ⟨gC, k1, none⟩ = some (.int .i64 0))
                    (first | go_keep | (go_split_ands; refine ⟨?_, ?_, ?_, ?_, ?_⟩ <;> assumption))
                    (first
                      | (go_at_call 12; (with_reducible refine hcA.mono ?_); rintro e w1 ⟨⟨gZ, rfl, hgZ, hEZ⟩, hs1⟩
                         have hS1 := below_two sA hs1
                         obtain ⟨_, m0, m1_, m2_, _, _, _⟩ := hBx'.below hS1
                         have m3 := cell_keep s0c hS1
                         have m4 := cell_keep s1c hS1))
                  go_wp2_with fail
                  go_meet
                  case rel => exact ⟨gZ, rfl, rfl, hS1, hgZ, Lib.hid hEZ⟩
                · obtain rfl : ct = cf := by have := HC.out; omega
                  have z0 : (0 : Int) ≤ (ct : Int) := by omega
                  have z2 : (ct : Int) ≤ (qn : Int) := by omega
                  clear hc0
                  have hc00 : c = 0 := by have := HC.out; omega
                  have hz00 : ((qv.drop ct).take c).length = 0 := by rw [hc00]; simp
                  clear hc00
                  have hcA := apply_yes ⟨R, c, some ⟨gB, 0, none⟩, R * c, R * c, TB⟩ ⟨(some x), 0, 0, (qv.drop ct).take c⟩ R c rfl rfl rfl (show (0 : Nat) = c by have := HC.out; omega) hR (by omega) hcn wc.drew (hmB.below sA) ⟨Elems.empty _ hz00 rfl, Nat.le_refl _, by show (0 : Nat) ≤ _; omega, ⟨fun e => (by cases e), fun y e h => absurd h (by show ¬ (0 : Nat) < 0; omega)⟩⟩
                  simp only at hcA
                  (try clear hz00)
                  go_region_held3 (fun w' => w'.cell? ⟨bB, 0, none⟩ = some (.int .i64 R) ∧ w'.cell? ⟨bB, 1, none⟩ = some (.int .i64 c) ∧ w'.cell? ⟨bB, 2, none⟩ = some (.slice (some ⟨gB, 0, none⟩) (R * c : Nat) (R * c : Nat)) ∧ w'.cell? ⟨gC, k, none⟩ = some (.int .i64 ct) ∧ w'.cell? ⟨gC, k1, none⟩ = some (.int .i64 ct))
                    (first | go_keep | (go_split_ands; refine ⟨?_, ?_, ?_, ?_, ?_⟩ <;> assumption))
                    (first
                      | (go_at_call 12; (with_reducible refine hcA.mono ?_); rintro e w1 ⟨⟨gZ, rfl, hgZ, hEZ⟩, hs1⟩
                         have hS1 := below_two sA hs1
                         obtain ⟨_, m0, m1_, m2_, _, _, _⟩ := hBx'.below hS1
                         have m3 := cell_keep s0c hS1
                         have m4 := cell_keep s1c hS1))
                  go_wp2_with fail
                  go_meet
                  case rel => exact ⟨gZ, rfl, rfl, hS1, hgZ, Lib.hid hEZ⟩
                · have hE1 : Elems .i8 wc (some ⟨b, o, none⟩) qn qv := HQR.out.1
                  have hcap3 : qn ≤ qcap := HQR.out.2.1
                  have hcap4 : qcap ≤ 9223372036854775807 := HQR.out.2.2.1
                  have z0 : (0 : Int) ≤ (cf : Int) := by omega
                  have z1 : (cf : Int) ≤ (ct : Int) := by omega
                  have z2 : (ct : Int) ≤ (qn : Int) := by omega
                  have z3 : (ct : Int) ≤ (qcap : Int) := by omega
                  have z4 : (cf : Int) < (qcap : Int) := by omega
                  have z5 : ¬ qcap = cf := by omega
                  have hcA := apply_yes ⟨R, c, some ⟨gB, 0, none⟩, R * c, R * c, TB⟩ ⟨some ⟨b, o + cf, none⟩, ct - cf, qcap - cf, (qv.drop cf).take c⟩ R c rfl rfl rfl HC.out.symm hR (by omega) hcn wc.drew (hmB.below sA) ⟨HXP.out _ _ _ (hE1.drewN 1), by show ct - cf ≤ qcap - cf; omega, by show qcap - cf ≤ _; omega, ⟨fun e => (by cases e), fun x e _ => (by cases e; rfl)⟩⟩
                  simp only at hcA
                  (try clear hz00)
                  go_region_held3 (fun w' => w'.cell? ⟨bB, 0, none⟩ = some (.int .i64 R) ∧ w'.cell? ⟨bB, 1, none⟩ = some (.int .i64 c) ∧ w'.cell? ⟨bB, 2, none⟩ = some (.slice (some ⟨gB, 0, none⟩) (R * c : Nat) (R * c : Nat)) ∧ w'.cell? ⟨gC, k, none⟩ = some (.int .i64 cf) ∧ w'.cell? ⟨gC, k1, none⟩ = some (.int .i64 ct))
                    (first | go_keep | (go_split_ands; refine ⟨?_, ?_, ?_, ?_, ?_⟩ <;> assumption))
                    (first
                      | (go_at_call 12; (with_reducible refine hcA.mono ?_); rintro e w1 ⟨⟨gZ, rfl, hgZ, hEZ⟩, hs1⟩
                         have hS1 := below_two sA hs1
                         obtain ⟨_, m0, m1_, m2_, _, _, _⟩ := hBx'.below hS1
                         have m3 := cell_keep s0c hS1
                         have m4 := cell_keep s1c hS1))
                  go_wp2_with fail
                  go_meet
                  case rel => exact ⟨gZ, rfl, rfl, hS1, hgZ, Lib.hid hEZ⟩
              case rest =>
                obtain ⟨gZ, rfl, rfl, hbZ, hgZ, hEZ⟩ := hcut
                have P10 := HP9.out.below hbZ
                have X10 := X9'.below hbZ
                have EY10 := EY9.below hbZ
                have hne := fun (q : Nat) (y : Value) (b : Nat) (hy : vs[q]? = some y) (hb : y.ownBlock = some b) => (show b ≠ gZ by have := (HP9.out.rows.blt hy hb).2; omega)
                have hnS : gZ ≠ we.heap.size := by have := HP9.out.rows.lt; have := HP9.out.rows.le; omega
                have hnu : some gZ ≠ u14.ownBlock := fun e => by have := (HP9.out.own.lt gZ e.symm).2; omega
                have hzlt := fun (h0 : 0 < R) => hEZ.out.blk ⟨gZ, 0, none⟩ rfl h0
                obtain ⟨u', w', hrun, hP11, hgw⟩ := P10.behind gY m m _ EY10 (by omega) (by omega)
                rw [HMVR.out, show fr + m = te by have := HM.out; omega] at hP11
                have hq0 := QInv.start (f := fun q j => pzs gv qv qn N q j) hP11 (hEZ.out.grown hgw hnu) hne hnS (fun h0 => Nat.lt_of_lt_of_le (hzlt h0) hgw.size)
                have HQ0 := Lib.hid hq0
                obtain ⟨_, l0, l1, l2, _, _, _⟩ := X10
                clear P10 EY10 hne hnS hnu hzlt hP11 hgw hq0 hEZ sA hgbC s0c s1c b0 b1 b2 hBx' hmB HP9 X9' B9 EY9 hform
                go_wp2_with (at_builtin; refine wpList_append_at (by rfl) _ _ _ (by rfl) _ _ (by rfl) (by rfl) hrun ?_)
                clear hrun l0 l1 l2
                go_loopw [25] (fun i wr' => ∃ (r : Nat) (vs' : List Value), r ≤ R ∧ i = .int .i64 r ∧ Hid (QInv we we.heap.size R k r (fun q j => pzs gv qv qn N q j) te ((mv gv qv R qn).take te) gZ (mv TB ((qv.drop cf).take c) R c) u' vs' wr')) (fun i _ => R - (intOf i).toNat)
                case atStart => exact ⟨0, _, by omega, rfl, HQ0⟩
                case round =>
                  clear HQ0
                  obtain ⟨r, vs', hr, rfl, hqi⟩ := hrel
                  obtain ⟨_, l0, l1, l2, _, _, _⟩ := X5'.below hqi.out.p.bel
                  by_cases hltr : r < R
                  · obtain ⟨b', off', z, he, hcz, hz, wz⟩ := hqi.out.z.at_ hltr
                    cases he
                    rw [Nat.zero_add] at hcz
                    have hzp : pzs gv qv qn N r (k + 1) = pzs gv qv qn N r k ++ [z] := by rw [pzs_succ, ← hz.out, HMVC.out r hltr]
                    obtain ⟨y, yg, ycap, w2, hcy, hrun, ⟨old, hold⟩, hfr2, hnext⟩ := hqi.out.step hltr (by omega) z hzp
                    have HNX := Lib.hid hnext
                    have hcy2 := cell_alloc hcy (.cells #[.int .i32 z] 21)
                    have f0 : (0 : Int) ≤ (r : Int) := by omega
                    have f1 : (r : Int) < (R : Int) := by omega
                    clear hqi hz wz hzp hnext
                    go_wp2_with fail
                    go_region_law ((with_reducible refine step_append_run ?_ (.tmp 172) (.tmp 177) 27 ?_ _ _ ?_ ?_ hrun ?_); rfl; rfl; rfl; rfl)
                    all_goals go_wp2
                    all_goals
                      go_roundw
                      case rel => exact ⟨r + 1, _, by omega, by go_num, HNX⟩
                      case measure => simp [intOf]; omega
                  · obtain rfl : r = R := by omega
                    have hst := hqi.out.stop
                    rw [HTO.out] at hst
                    have HST := Lib.hid hst
                    clear hqi hst
                    go_wp2
                    go_roundw
                    case rel => exact ⟨k + 1, _, by omega, by go_num, HST⟩
                    case measure => simp [intOf]; omega
        · obtain rfl : k = N := by omega
          have hEw6 := hEw5.below hinv.out.bel
          go_wp2_with fail
          go_loopw [26] (fun i wr' => ∃ r : Nat, r ≤ R ∧ i = .int .i64 r ∧ Below wr.heap.size wr wr') (fun i _ => R - (intOf i).toNat)
          case atStart => exact ⟨0, by omega, rfl, Below.refl _ _⟩
          case round =>
            clear c0 c1 c2
            obtain ⟨r, hr, rfl, hbr⟩ := hrel
            have hinv2 := hinv.out.below hbr
            obtain ⟨_, c0, c1, c2, _, _, _⟩ := X6'.below hbr
            by_cases hltr : r < R
            · obtain ⟨y, hy, cy, fy⟩ := hinv2.rows.cell hltr
              obtain ⟨sa, scap, hyv, hEs⟩ := own_form (hinv2.rows.own r y hy) (by omega) (pzs_wf _ _ _ _ _ _)
              subst hyv
              obtain ⟨b', off', z, he, hcz, hz, wz⟩ := (hEw6.below hbr).at_ hltr
              cases he
              rw [Nat.zero_add] at hcz
              have hsz : wsum (pzs gv qv qn k r k) = z := by rw [pzs_all gv qv R qn k r HVL.out HXL.out hltr hN1, hz.out]
              have hsum := fun (W : World) (hE : Elems .i32 W sa k (pzs gv qv qn k r k)) => (sum32 sa k scap _ W hE).mono (R' := fun e w' => e = .returned (.int .i32 z) ∧ w' = W) fun e w' h => ⟨by rw [h.1, hsz], h.2.symm⟩
              have hs2 := hsum _ (hEs.drewN 0)
              have f0 : (0 : Int) ≤ (r : Int) := by omega
              have f1 : (r : Int) < (R : Int) := by omega
              have HSU := fun d => hsum _ (hEs.drewN d)
              clear hz wz hsz hsum hs2 hinv2 fy
              go_wp2_with fail
              go_quiet (first | (go_at_call 27; refine Calls.quiet_of_same (HSU _)))
              go_wp2
              go_roundw
              case rel => exact ⟨r + 1, by omega, by go_num, below_drewN hbr _⟩
              case measure => simp [intOf]; omega
            · obtain rfl : r = R := by omega
              have hown := hinv2.own
              rw [span_end r k hN1, List.take_of_length_le (by rw [mv_length]; omega)] at hown
              obtain ⟨ba, bcap, hbv, hEb⟩ := own_form hown (by omega) (mv_wf _ _ _ _)
              subst hbv
              have hEw7 := hEw6.below hbr
              have B7 := below_two B6 hbr
              clear hown hinv2 hinv
              go_wp2_with fail
              refine (ints_yes _ _ r bcap r _ _ hEb hEw7).mono ?_
              rintro e wf ⟨rfl, d, rfl⟩
              go_wp2
              go_ret
              exact ⟨rfl, below_drewN B7 d⟩

set_option maxRecDepth 100000 in
theorem lifted (os : Os) (started : os.Started) (H : Type) (enc : TypeId × Value → H) :
    ReturnsInHanded {} Try.checked os 7 .any (Rows.matmulPartsSpec.pre6 enc Try.prog Try.f7 Rows.matmulPartsRow.domain false) (Rows.matmulPartsSpec.post enc Try.prog Try.f7 false true false false) := by
  refine returnsInHanded_of_change (C := Try.checked) own started (by kernel_rfl) Try.func7
    (ChangeSpec.witness6 (enc := enc) (C := Try.checked) false ⟨#[], #[.agg #[.int .i64 0, .int .i64 0, .slice none 0 0], .slice none 0 0, .int .i64 0], []⟩ 8 (by kernel_rfl) (by kernel_rfl) (by kernel_rfl) (by kernel_rfl)) ?_
  intro W base args ds gs before hval0 hW hcnd _
  have hval : ∀ (j : Nat) t v, Try.f7.params[j]? = some t → args[j]? = some v → Value.okWide Try.prog W .any base t v := hval0
  have hW' := hW
  obtain ⟨p, q, hA0, hV, rfl, hfz, hnd⟩ := hW
  have hA : DataW.TrodAll enc Try.prog W 0 (fun _ => true) true Try.f7.params.toList args.toList ds p := hA0
  rw [Try.params7] at hA hval
  obtain ⟨v0, vs0, d0, ds0, p0, q0, hargs, rfl, rfl, h0, r0⟩ := trodAll_cons hA
  obtain ⟨v1, vs1, d1, ds1, p1, q1, rfl, rfl, rfl, h1, r1⟩ := trodAll_cons r0
  obtain ⟨v2, vs2, d2, ds2, p2, q2, rfl, rfl, rfl, h2, r2⟩ := trodAll_cons r1
  obtain ⟨rfl, rfl, rfl⟩ := trodAll_nil r2
  obtain rfl : args = #[v0, v1, v2] := by cases args; simp_all
  obtain ⟨rfl, rfl⟩ := trodVars_none hV
  have k0 := h0
  have lt0 : ∀ x ∈ p0, x.block < W.heap.size := by obtain ⟨m, hm⟩ := k0; exact DataW.trod_lt m _ _ _ hm
  obtain ⟨g0, rfl, w0⟩ := open_mat (hval 0 24 v0 rfl rfl) h0
  have k1 := h1
  have lt1 : ∀ x ∈ p1, x.block < W.heap.size := by obtain ⟨m, hm⟩ := k1; exact DataW.trod_lt m _ _ _ hm
  obtain ⟨q1, rfl, w1⟩ := open_rw Try.underlying22 Try.underlying46 (by kernel_rfl) (hval 1 22 v1 rfl rfl) h1
  obtain ⟨a2, rfl, rfl, rfl, w2⟩ := open_int Try.underlying3 (hval 2 3 v2 rfl rfl) h2
  clear hA0 hval0
  refine (walk g0 q1 a2 W w0 w1 w2).mono fun e W' ⟨he, bel⟩ => ?_
  subst he
  exact ⟨_, rfl, _, _, _, [], _, [], hW', trodAll_mk1 (shut_bool Try.underlying4 _), (trodAll_cons_mk (Below.trod laidOut (by kernel_rfl) (of_decide_eq_true (by kernel_rfl)) k0 bel lt0) (trodAll_cons_mk (Below.trod laidOut (by kernel_rfl) (of_decide_eq_true (by kernel_rfl)) k1 bel lt1) (trodAll_cons_mk (shut_int Try.underlying3 w2) trodAll_mk0))), rfl, bel.frame _, fun h => by cases h⟩

theorem over : Rows.matmulPartsRow.holds Try.pinned (OpenSpec.ofChange Rows.matmulPartsSpec) :=
  OpenClaim.holds_of_wide 7 Try.f7 rfl rfl rfl rfl rfl rfl rfl ⟨rfl, rfl, rfl, rfl, rfl⟩ rfl rfl rfl rfl rfl (by kernel_rfl) Try.func7 (by kernel_rfl)
    (of_decide_eq_true (by kernel_rfl)) (by unfold Func.isWrapper; first | (rw [if_pos (by decide +kernel)]; kernel_rfl) | (rw [if_neg (by decide +kernel)]; exact ⟨rfl, rfl⟩))
    (fun os started H enc _ => lifted os started H enc)

/-- ████ THE STATEMENT ████ -/
theorem proved : Rows.MatmulPartsSaid := over
#print axioms proved
end Go.Proofs.Ytkiedganojaniaa.matmulParts
