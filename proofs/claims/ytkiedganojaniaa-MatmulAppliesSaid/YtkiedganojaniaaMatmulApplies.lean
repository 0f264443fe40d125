/-
  Proved: for every matrix and every two rows MatmulApplies returns true (products are the document's, one by one and several in a call; what is handed in stays) and nothing that was in memory turns. Conditions: none.
-/
import Derived.Test.YtkiedganojaniaaRows
import Derived.WalkKit
import Derived.ProofKit
import Derived.OpenShut
import Derived.ShutString
import Derived.ChangeOld
import Derived.Below
import Derived.Test.YtkiedganojaniaaMatRow
import Derived.Test.YtkiedganojaniaaLaw4
import Derived.Test.YtkiedganojaniaaCopy8
import Derived.Deep.RegionLaw
import Derived.Deep.CutBlock
import Derived.Deep.CutRange
namespace Go.Proofs.Ytkiedganojaniaa.matmulApplies
open Go.ChangeShapes Go.WideShapes Go.ChangeAt Go.RowKit
open Go.ChangeMaps (open_string shut_string)
set_option linter.unusedVariables false

theorem own : ownKnob Try.prog.godebug = none := by kernel_rfl
theorem laidOut : laidOutB Try.prog = true := by kernel_rfl

set_option maxHeartbeats 8000000 in
set_option maxRecDepth 100000 in
theorem walk (g0 : Gr) (q1 : Rw) (q2 : Rw) (w : World) (h0 : g0.In8 w) (h1 : q1.In .i8 w) (h2 : q2.In .i8 w) :
    Calls Try.prog 3 #[.agg #[.int .i64 g0.r, .int .i64 g0.c, .slice g0.a g0.n g0.cap], .slice q1.a q1.n q1.cap, .slice q2.a q2.n q2.cap] w fun e w' => e = .returned (.bool true) ∧ Below w.heap.size w w' := by
  have hgn := h0.1.2.1
  have hn1 := h1.1.2.1
  have hn2 := h2.1.2.1
  have X0 := box3_at (w := w) rfl (.int .i64 g0.r) (.int .i64 g0.c) (.slice g0.a g0.n g0.cap) 24
  have B0 := fun o => (Below.refl w.heap.size w).alloc (Nat.le_refl _) o
  have hcases : 600 < g0.n ∨ (g0.n ≤ 600 ∧ 300 < q1.n) ∨ (g0.n ≤ 600 ∧ q1.n ≤ 300 ∧ 300 < q2.n) ∨ (g0.n ≤ 600 ∧ q1.n ≤ 300 ∧ q2.n ≤ 300) := by omega
  rcases hcases with hbig | ⟨hsm, hbig⟩ | ⟨hsm, hs1, hbig⟩ | ⟨hsm, hs1, hs2⟩
  · clear h0 h1 h2
    go_enter Try.func3, Try.ntmps3
    go_wp2_with fail
    refine (awake4 _).mono ?_
    rintro e wa ⟨rfl, hb⟩
    have B1 := below_two (B0 _) hb
    have X1 := X0.below hb
    have X1' := X1
    obtain ⟨_, c0, c1, c2, _, _, _⟩ := X1
    clear X0 B0 hb
    go_wp2_with fail
    refine (small4 _ _ _ _ _ hgn false (decide_eq_false (by omega)) _).mono ?_
    rintro e wb ⟨rfl, hb⟩
    have B2 := below_two B1 hb
    clear c0 c1 c2 hb B1 X1'
    go_wp2_with fail
    refine (awake4 _).mono ?_
    rintro e wc ⟨rfl, hb⟩
    have B3 := below_two B2 hb
    go_wp2
    go_ret
    exact ⟨rfl, B3⟩
  · clear h0 h1 h2
    go_enter Try.func3, Try.ntmps3
    go_wp2_with fail
    refine (awake4 _).mono ?_
    rintro e wa ⟨rfl, hb⟩
    have B1 := below_two (B0 _) hb
    have X1 := X0.below hb
    have X1' := X1
    obtain ⟨_, c0, c1, c2, _, _, _⟩ := X1
    clear X0 B0 hb
    go_wp2_with fail
    refine (small4 _ _ _ _ _ hgn true (decide_eq_true hsm) _).mono ?_
    rintro e wb ⟨rfl, hb⟩
    have B2 := below_two B1 hb
    clear c0 c1 c2 hb B1 X1'
    go_wp2_with fail
    refine (awake4 _).mono ?_
    rintro e wc ⟨rfl, hb⟩
    have B3 := below_two B2 hb
    go_wp2
    go_ret
    exact ⟨rfl, B3⟩
  · clear h0 h1 h2
    go_enter Try.func3, Try.ntmps3
    go_wp2_with fail
    refine (awake4 _).mono ?_
    rintro e wa ⟨rfl, hb⟩
    have B1 := below_two (B0 _) hb
    have X1 := X0.below hb
    have X1' := X1
    obtain ⟨_, c0, c1, c2, _, _, _⟩ := X1
    clear X0 B0 hb
    go_wp2_with fail
    refine (small4 _ _ _ _ _ hgn true (decide_eq_true hsm) _).mono ?_
    rintro e wb ⟨rfl, hb⟩
    have B2 := below_two B1 hb
    clear c0 c1 c2 hb B1 X1'
    go_wp2_with fail
    refine (awake4 _).mono ?_
    rintro e wc ⟨rfl, hb⟩
    have B3 := below_two B2 hb
    go_wp2
    go_ret
    exact ⟨rfl, B3⟩
  · have HG := Lib.hid h0
    have HX := Lib.hid h1
    have HY := Lib.hid h2
    clear h0 h1 h2
    go_enter Try.func3, Try.ntmps3
    go_wp2_with fail
    refine (awake4 _).mono ?_
    rintro e wa ⟨rfl, hb⟩
    have B1 := below_two (B0 _) hb
    have X1 := X0.below hb
    have X1' := X1
    obtain ⟨_, c0, c1, c2, _, _, _⟩ := X1
    clear X0 B0 hb
    go_wp2_with fail
    refine (small4 _ _ _ _ _ hgn true (decide_eq_true hsm) _).mono ?_
    rintro e wb ⟨rfl, hb⟩
    have B2 := below_two B1 hb
    have X2 := X1'.below hb
    have X2' := X2
    obtain ⟨_, c0, c1, c2, _, _, _⟩ := X2
    clear hb B1 X1'
    have hgb := HG.out.below B2
    have hlit : (wb.alloc (.cells #[] 46)).ownsRow wb.heap.size 46 1 (.slice (some ⟨wb.heap.size, 0, none⟩) 0 0) 0 [] := World.ownsRow_lit (e := 46) (size := 1) wb #[] 0 (Nat.le_refl _) (by unfold maxLen; omega) rfl
    have hlit2 : ∀ o, ((wb.alloc o).alloc (.cells #[] 46)).ownsRow (wb.heap.size + 1) 46 1 (.slice (some ⟨wb.heap.size + 1, 0, none⟩) 0 0) 0 [] := fun o => by
      have := World.ownsRow_lit (e := 46) (size := 1) (wb.alloc o) #[] 0 (base := wb.heap.size + 1) (by simp) (by unfold maxLen; omega) rfl
      simpa using this
    have al1 := fun o => (Below.refl wb.heap.size wb).alloc (Nat.le_refl _) o
    have al2 := fun o o2 => ((Below.refl wb.heap.size wb).alloc (Nat.le_refl _) o).alloc (by simp) o2
    have Z : ∀ o, Box3 ((wb.alloc o).alloc (.cells #[.int .i64 0, .int .i64 0, .slice none 0 0] 24)).drew (wb.heap.size + 1) (.int .i64 0) (.int .i64 0) (.slice none 0 0) := fun o => box3_at (by simp) _ _ _ _
    have Z2 : ∀ o, Box3 ((wb.alloc (.cells #[.int .i64 0, .int .i64 0, .slice none 0 0] 24)).alloc o).drew wb.heap.size (.int .i64 0) (.int .i64 0) (.slice none 0 0) := fun o => (box3_at rfl _ _ _ _).alloc o
    obtain ⟨gA, kA, wA, hrA, hEA, cA1, cA2, hgA, hA1, hA2⟩ := run_copy_own8 (wb.alloc (.cells #[] 46)).drew wb.heap.size wb.heap.size hlit (by simp [World.drew] <;> omega) g0.a g0.n g0.cap g0.v ((hgb.1.below (al1 _)).drewN 1) hgb.2.2.2.1 hgb.2.1 (by omega)
    obtain ⟨gB, kB, wB, hrB, hEB, cB1, cB2, hgB, hB1, hB2⟩ := run_copy_own8 ((wb.alloc (.cells #[] 46)).alloc (.cells #[.int .i64 0, .int .i64 0, .slice none 0 0] 24)).drew wb.heap.size wb.heap.size (hlit.alloc _) (by simp [World.drew] <;> omega) g0.a g0.n g0.cap g0.v ((hgb.1.below (al2 _ _)).drewN 1) hgb.2.2.2.1 hgb.2.1 (by omega)
    obtain ⟨gC, kC, wC, hrC, hEC, cC1, cC2, hgC, hC1, hC2⟩ := run_copy_own8 ((wb.alloc (.cells #[.int .i64 0, .int .i64 0, .slice none 0 0] 24)).alloc (.cells #[] 46)).drew (wb.heap.size + 1) (wb.heap.size + 1) (hlit2 _) (by simp [World.drew] <;> omega) g0.a g0.n g0.cap g0.v ((hgb.1.below (al2 _ _)).drewN 1) hgb.2.2.2.1 hgb.2.1 (by omega)
    obtain ⟨_, p0, p1, p2, p3, p4, p5⟩ := (Z _).kept hgB (by simp)
    obtain ⟨_, s0, s1, s2, s3, s4, s5⟩ := (Z2 _).kept hgC (by simp)
    have hbl := X2'.1
    obtain ⟨_, a0, a1, a2, _, _, _⟩ := (X2'.below (al1 (.cells #[] 46)).drew).kept hgA (by simp; omega)
    obtain ⟨_, b0, b1, b2, _, _, _⟩ := (X2'.below (al2 (.cells #[] 46) (.cells #[.int .i64 0, .int .i64 0, .slice none 0 0] 24)).drew).kept hgB (by simp; omega)
    obtain ⟨_, t0, t1, t2, _, _, _⟩ := (X2'.below (al2 (.cells #[.int .i64 0, .int .i64 0, .slice none 0 0] 24) (.cells #[] 46)).drew).kept hgC (by simp; omega)
    have X2k := X2'
    clear X2'
    have hrr := hgb.2.2.2.2
    have P1 := Lib.hid (copy_mk (box3_new wA (.int .i64 g0.r) (.int .i64 g0.c) (.slice (some ⟨gA, 0, none⟩) g0.n kA) 24) (hEA.below ((Below.refl _ _).alloc (Nat.le_refl _) _)) cA1 cA2 hrr)
    have P2 := Lib.hid (copy_mk (((Z _).kept hgB (by simp)).res (.int .i64 g0.r) (.int .i64 g0.c) (.slice (some ⟨gB, 0, none⟩) g0.n kB)) (hEB.other (grownBy_res _ _ _ _ _) (by rcases hB1 with e | e <;> first | omega | (change _ = ((wb.alloc _).alloc _).heap.size at e; simp at e; omega))) cB1 cB2 hrr)
    have P3 := Lib.hid (copy_mk (((Z2 _).kept hgC (by simp)).res (.int .i64 g0.r) (.int .i64 g0.c) (.slice (some ⟨gC, 0, none⟩) g0.n kC)) (hEC.other (grownBy_res _ _ _ _ _) (by rcases hC1 with e | e <;> first | omega | (change _ = ((wb.alloc _).alloc _).heap.size at e; simp at e; omega))) cC1 cC2 hrr)
    have R1 := (((al1 (.cells #[] 46)).drew).grown hgA (by simp [World.drew]) (fun i hi => by cases hi; omega))
    have R2 := (((al2 (.cells #[] 46) (.cells #[.int .i64 0, .int .i64 0, .slice none 0 0] 24)).drew).grown hgB (by simp [World.drew] <;> omega) (fun i hi => by cases hi; omega))
    have R3 := (((al2 (.cells #[.int .i64 0, .int .i64 0, .slice none 0 0] 24) (.cells #[] 46)).drew).grown hgC (by simp [World.drew] <;> omega) (fun i hi => by cases hi; omega))
    have R1' := R1.alloc R1.size (.cells #[.int .i64 g0.r, .int .i64 g0.c, .slice (some ⟨gA, 0, none⟩) g0.n kA] 24)
    have R2' := below_res R2 (b := wb.heap.size + 1) (by omega) (.int .i64 g0.r) (.int .i64 g0.c) (.slice (some ⟨gB, 0, none⟩) g0.n kB)
    have R3' := below_res R3 (b := wb.heap.size) (by omega) (.int .i64 g0.r) (.int .i64 g0.c) (.slice (some ⟨gC, 0, none⟩) g0.n kC)
    have HR1 := Lib.hid R1'
    have HR2 := Lib.hid R2'
    have HR3 := Lib.hid R3'
    clear hgb hrr hlit hlit2 al1 al2 Z Z2 hEA hEB hEC hgA hgB hgC R1 R2 R3 R1' R2' R3' hA1 hB1 hC1 cA1 cA2 cB1 cB2 cC1 cC2
    go_upto_region 3 with fail
    go_cut [7] from 34 (fun v wx => ∃ b : Nat, v = .pointer (some ⟨b, 0, none⟩) ∧ Below wb.heap.size wb wx ∧ Hid (CopyOf wx b g0))
    case first =>
      have n1 : wb.heap.size ≠ w.heap.size := by omega
      have n2 : w.heap.size ≠ wb.heap.size := by omega
      have n3 : w.heap.size ≠ wb.heap.size + 1 := by omega
      have n4 : wb.heap.size + 1 ≠ w.heap.size := by omega
      go_region_held3 (fun w' => w'.cell? ⟨w.heap.size, 0, none⟩ = some (.int .i64 g0.r) ∧ w'.cell? ⟨w.heap.size, 1, none⟩ = some (.int .i64 g0.c) ∧ w'.cell? ⟨w.heap.size, 2, none⟩ = some (.slice g0.a g0.n g0.cap))
        (first | go_keep | (go_split_ands; refine ⟨?_, ?_, ?_⟩ <;> assumption))
        (first
        | ((with_reducible refine step_append_run ?_ (.tmp 38) (.tmp 40) 22 ?_ _ _ ?_ ?_ hrA ?_); rfl; rfl; rfl; rfl)
        | ((with_reducible refine step_append_run ?_ (.tmp 38) (.tmp 40) 22 ?_ _ _ ?_ ?_ hrB ?_); rfl; rfl; rfl; rfl)
        | ((with_reducible refine step_append_run ?_ (.tmp 38) (.tmp 40) 22 ?_ _ _ ?_ ?_ hrC ?_); rfl; rfl; rfl; rfl))
      all_goals go_wp2_with fail
      all_goals go_meet
      all_goals (case rel => first | exact ⟨_, rfl, HR1.out, P1⟩ | exact ⟨_, rfl, HR2.out, P2⟩ | exact ⟨_, rfl, HR3.out, P3⟩)
    case rest =>
      obtain ⟨bI, rfl, hbc, hcopy⟩ := hcut
      obtain ⟨gI, hI, i1, i2, i3, i4⟩ := hcopy.out
      have B3 := below_two B2 hbc
      have X3 := X2k.below hbc
      have hap : ∀ n, appB gI n = appB g0 n := fun n => by unfold appB; rw [i1, i2, i3]
      have I1 := Lib.hid i1
      have I2 := Lib.hid i2
      have I3 := Lib.hid i3
      have I4 := Lib.hid i4
      have HAP := Lib.hid hap
      clear hcopy i1 i2 i3 i4 hap c0 c1 c2 X2k hbc B2 P1 P2 P3 HR1 HR2 HR3 p0 p1 p2 p3 p4 p5 s0 s1 s2 s3 s4 s5 a0 a1 a2 b0 b1 b2 t0 t1 t2 hrA hrB hrC
      have xB := X3.1
      cases hx : appB g0 q1.n <;> cases hy : appB g0 q2.n
      · have hI' := hI
        obtain ⟨_, c0, c1, c2, _, _, _⟩ := hI.box
        obtain ⟨_, m0, m1, m2, _, _, _⟩ := X3
        have X3' := (show Box3 wc w.heap.size _ _ _ from ⟨xB, m0, m1, m2, ‹_›, ‹_›, ‹_›⟩)
        have Q1 := HX.out.below B3
        go_wp2_with fail
        refine (apply_no gI q1 ((HAP.out _).trans hx) _ hI'.inn Q1).mono ?_
        rintro e wd ⟨he, hb⟩
        unfold NoRow at he
        subst he
        have B4 := below_two B3 hb
        have X4 := X3'.below hb
        have J4 := hI'.below hb
        have R4 := fun T => rws_two (T := T) (b := wd.heap.size) q1 q2 (HX.out.below B4) (HY.out.below B4) rfl
        have al := fun o => (Below.refl wd.heap.size wd).alloc (Nat.le_refl _) o
        have B4' := fun o => below_two B4 (al o)
        have J4' := fun o => J4.below (al o)
        have X4' := fun o => X4.below (al o)
        obtain ⟨_, d0, d1, d2, _, _, _⟩ := J4.box
        clear c0 c1 c2 m0 m1 m2 hb hI hI' X3' Q1 B3 B4 X4
        go_wp2_with fail
        refine (many_no gI _ 2 2 [q1, q2] (by unfold appAll; simp only [List.all_cons, List.all_nil, HAP.out, hx, hy]; rfl) _ (J4' _).inn (R4 _)).mono ?_
        rintro e we ⟨he, hb⟩
        unfold NoRow at he
        subst he
        have B5 := below_two (B4' _) hb
        have J5 := (J4' _).below hb
        have X5 := (X4' _).below hb
        have G5 := HG.out.below B5
        have Q5 := HX.out.below B5
        have X5' := X5
        obtain ⟨_, m0, m1, m2, _, _, _⟩ := X5
        clear d0 d1 d2 hb J4 J4' X4' B4' R4 al
        go_wp2_with fail
        refine (doc_apply_no g0 q1 hx _ G5 Q5).mono ?_
        rintro e wf ⟨rfl, hb⟩
        have B6 := below_two B5 hb
        have J6 := J5.below hb
        have X6 := X5'.below hb
        have G6 := HG.out.below B6
        have Q6 := HY.out.below B6
        have X6' := X6
        obtain ⟨_, d0, d1, d2, _, _, _⟩ := X6
        clear m0 m1 m2 hb J5 X5' B5 G5 Q5
        go_wp2_with fail
        refine (doc_apply_no g0 q2 hy _ G6 Q6).mono ?_
        rintro e wg ⟨rfl, hb⟩
        have B7 := below_two B6 hb
        have J7 := J6.below hb
        have X7 := X6'.below hb
        have G7 := HG.out.below B7
        have X7' := X7
        obtain ⟨_, m0, m1, m2, _, _, _⟩ := X7
        obtain ⟨_, c0, c1, c2, _, _, _⟩ := J7.box
        have hS0 : Below wg.heap.size wg wg.drew := (Below.refl _ _).drew
        obtain ⟨xf, hf⟩ : ∃ xf, fitB g0.r g0.c g0.n = xf := ⟨_, rfl⟩
        have hsame := fun W (hW : Below wg.heap.size wg W) => msame_gr gI g0 I1.out I2.out I3.out I4.out W (J7.inn.below hW) (G7.below hW)
        clear d0 d1 d2 hb J6 X6' B6 G6 Q6 hx hy
        go_upto_region 8 with fail
        go_cut [84] from 85 (fun v wx => v = .bool false ∧ Below wg.heap.size wg wx)
        case first =>
          go_region_held3 (fun w' => w'.cell? ⟨w.heap.size, 0, none⟩ = some (.int .i64 g0.r) ∧ w'.cell? ⟨w.heap.size, 1, none⟩ = some (.int .i64 g0.c) ∧ w'.cell? ⟨w.heap.size, 2, none⟩ = some (.slice g0.a g0.n g0.cap) ∧ w'.cell? ⟨bI, 0, none⟩ = some (.int .i64 gI.r) ∧ w'.cell? ⟨bI, 1, none⟩ = some (.int .i64 gI.c) ∧ w'.cell? ⟨bI, 2, none⟩ = some (.slice gI.a gI.n gI.cap))
            (first | go_keep | (go_split_ands; refine ⟨?_, ?_, ?_, ?_, ?_, ?_⟩ <;> assumption))
            (first
              | (go_at_call 15; (with_reducible refine (hsame _ hS0).mono ?_); rintro e ws ⟨rfl, hs1⟩
                 have hS1 := below_two hS0 hs1
                 have hS1' := fun o => hS1.alloc hS1.size o
                 have hMG := fun T => mats_one (T := T) (b := ws.heap.size) g0 (G7.below hS1) rfl
                 obtain ⟨_, x0, x1, x2, _, _, _⟩ := X7'.below hS1
                 obtain ⟨_, x3, x4, x5, _, _, _⟩ := J7.box.below hS1
                 obtain ⟨_, y0, y1, y2, _, _, _⟩ := X7'.below (hS1' (.cells #[.int .i64 g0.r, .int .i64 g0.c, .slice g0.a g0.n g0.cap] 24))
                 obtain ⟨_, y3, y4, y5, _, _, _⟩ := J7.box.below (hS1' (.cells #[.int .i64 g0.r, .int .i64 g0.c, .slice g0.a g0.n g0.cap] 24)))
              | (go_at_call 16; (with_reducible refine (mright_one g0 xf hf _ _ _ (hMG _)).mono ?_); rintro e wt ⟨rfl, hs2⟩
                 have hS2 := below_two (hS1' _) hs2
                 obtain ⟨_, z0, z1, z2, _, _, _⟩ := X7'.below hS2
                 obtain ⟨_, z3, z4, z5, _, _, _⟩ := J7.box.below hS2)
              | (go_at_call 17; (with_reducible refine (doc_right _ _ _ _ _ _ hgn xf hf).mono ?_); rintro e wu ⟨rfl, hs3⟩
                 have hS3 := below_two hS2 hs3
                 obtain ⟨_, u0, u1, u2, _, _, _⟩ := X7'.below hS3
                 obtain ⟨_, u3, u4, u5, _, _, _⟩ := J7.box.below hS3)
              | (go_at_call 16; (with_reducible refine (mright_none _).mono ?_); rintro e wv ⟨rfl, hs4⟩
                 have hS4 := below_two hS3 hs4
                 obtain ⟨_, v0, v1, v2, _, _, _⟩ := X7'.below hS4
                 obtain ⟨_, v3, v4, v5, _, _, _⟩ := J7.box.below hS4))
          go_wp2_with fail
          go_meet
          case rel => exact ⟨rfl, hS4⟩
        case rest =>
          obtain ⟨rfl, hb8⟩ := hcut
          have B8 := below_two B7 hb8
          clear c0 c1 c2 m0 m1 m2 hsame hS0 hf G7
          go_wp2
          go_ret
          exact ⟨rfl, B8⟩
      · obtain ⟨R, C, e1, e2, hR, hC, e3, hle, e4⟩ := appB_yes hy
        have E1 := Lib.hid e1
        have E2 := Lib.hid e2
        have E3 := Lib.hid e3
        have E4 := Lib.hid e4
        clear e1 e2 e3 e4
        have hI' := hI
        obtain ⟨_, c0, c1, c2, _, _, _⟩ := hI.box
        obtain ⟨_, m0, m1, m2, _, _, _⟩ := X3
        have X3' := (show Box3 wc w.heap.size _ _ _ from ⟨xB, m0, m1, m2, ‹_›, ‹_›, ‹_›⟩)
        have Q1 := HX.out.below B3
        go_wp2_with fail
        refine (apply_no gI q1 ((HAP.out _).trans hx) _ hI'.inn Q1).mono ?_
        rintro e wd ⟨he, hb⟩
        unfold NoRow at he
        subst he
        have B4 := below_two B3 hb
        have X4 := X3'.below hb
        have J4 := hI'.below hb
        have R4 := fun T => rws_two (T := T) (b := wd.heap.size) q1 q2 (HX.out.below B4) (HY.out.below B4) rfl
        have al := fun o => (Below.refl wd.heap.size wd).alloc (Nat.le_refl _) o
        have B4' := fun o => below_two B4 (al o)
        have J4' := fun o => J4.below (al o)
        have X4' := fun o => X4.below (al o)
        obtain ⟨_, d0, d1, d2, _, _, _⟩ := J4.box
        clear c0 c1 c2 m0 m1 m2 hb hI hI' X3' Q1 B3 B4 X4
        go_wp2_with fail
        refine (many_no gI _ 2 2 [q1, q2] (by unfold appAll; simp only [List.all_cons, List.all_nil, HAP.out, hx, hy]; rfl) _ (J4' _).inn (R4 _)).mono ?_
        rintro e we ⟨he, hb⟩
        unfold NoRow at he
        subst he
        have B5 := below_two (B4' _) hb
        have J5 := (J4' _).below hb
        have X5 := (X4' _).below hb
        have G5 := HG.out.below B5
        have Q5 := HX.out.below B5
        have X5' := X5
        obtain ⟨_, m0, m1, m2, _, _, _⟩ := X5
        clear d0 d1 d2 hb J4 J4' X4' B4' R4 al
        go_wp2_with fail
        refine (doc_apply_no g0 q1 hx _ G5 Q5).mono ?_
        rintro e wf ⟨rfl, hb⟩
        have B6 := below_two B5 hb
        have J6 := J5.below hb
        have X6 := X5'.below hb
        have G6 := HG.out.below B6
        have Q6 := HY.out.below B6
        have X6' := X6
        obtain ⟨_, d0, d1, d2, _, _, _⟩ := X6
        clear m0 m1 m2 hb J5 X5' B5 G5 Q5
        go_wp2_with fail
        refine (doc_apply_yes g0 q2 R C E1.out E2.out E3.out E4.out hR hC hle _ G6 Q6).mono ?_
        rintro e wg ⟨⟨va, vcap, rfl, hEq⟩, hb⟩
        have B7 := below_two B6 hb
        have J7 := J6.below hb
        have X7 := X6'.below hb
        have G7 := HG.out.below B7
        have X7' := X7
        obtain ⟨_, m0, m1, m2, _, _, _⟩ := X7
        obtain ⟨_, c0, c1, c2, _, _, _⟩ := J7.box
        have hS0 : Below wg.heap.size wg wg.drew := (Below.refl _ _).drew
        obtain ⟨xf, hf⟩ : ∃ xf, fitB g0.r g0.c g0.n = xf := ⟨_, rfl⟩
        have hsame := fun W (hW : Below wg.heap.size wg W) => msame_gr gI g0 I1.out I2.out I3.out I4.out W (J7.inn.below hW) (G7.below hW)
        clear d0 d1 d2 hb J6 X6' B6 G6 Q6 hx hy
        go_upto_region 8 with fail
        go_cut [84] from 85 (fun v wx => v = .bool false ∧ Below wg.heap.size wg wx)
        case first =>
          go_region_held3 (fun w' => w'.cell? ⟨w.heap.size, 0, none⟩ = some (.int .i64 g0.r) ∧ w'.cell? ⟨w.heap.size, 1, none⟩ = some (.int .i64 g0.c) ∧ w'.cell? ⟨w.heap.size, 2, none⟩ = some (.slice g0.a g0.n g0.cap) ∧ w'.cell? ⟨bI, 0, none⟩ = some (.int .i64 gI.r) ∧ w'.cell? ⟨bI, 1, none⟩ = some (.int .i64 gI.c) ∧ w'.cell? ⟨bI, 2, none⟩ = some (.slice gI.a gI.n gI.cap))
            (first | go_keep | (go_split_ands; refine ⟨?_, ?_, ?_, ?_, ?_, ?_⟩ <;> assumption))
            (first
              | (go_at_call 15; (with_reducible refine (hsame _ hS0).mono ?_); rintro e ws ⟨rfl, hs1⟩
                 have hS1 := below_two hS0 hs1
                 have hS1' := fun o => hS1.alloc hS1.size o
                 have hMG := fun T => mats_one (T := T) (b := ws.heap.size) g0 (G7.below hS1) rfl
                 obtain ⟨_, x0, x1, x2, _, _, _⟩ := X7'.below hS1
                 obtain ⟨_, x3, x4, x5, _, _, _⟩ := J7.box.below hS1
                 obtain ⟨_, y0, y1, y2, _, _, _⟩ := X7'.below (hS1' (.cells #[.int .i64 g0.r, .int .i64 g0.c, .slice g0.a g0.n g0.cap] 24))
                 obtain ⟨_, y3, y4, y5, _, _, _⟩ := J7.box.below (hS1' (.cells #[.int .i64 g0.r, .int .i64 g0.c, .slice g0.a g0.n g0.cap] 24)))
              | (go_at_call 16; (with_reducible refine (mright_one g0 xf hf _ _ _ (hMG _)).mono ?_); rintro e wt ⟨rfl, hs2⟩
                 have hS2 := below_two (hS1' _) hs2
                 obtain ⟨_, z0, z1, z2, _, _, _⟩ := X7'.below hS2
                 obtain ⟨_, z3, z4, z5, _, _, _⟩ := J7.box.below hS2)
              | (go_at_call 17; (with_reducible refine (doc_right _ _ _ _ _ _ hgn xf hf).mono ?_); rintro e wu ⟨rfl, hs3⟩
                 have hS3 := below_two hS2 hs3
                 obtain ⟨_, u0, u1, u2, _, _, _⟩ := X7'.below hS3
                 obtain ⟨_, u3, u4, u5, _, _, _⟩ := J7.box.below hS3)
              | (go_at_call 16; (with_reducible refine (mright_none _).mono ?_); rintro e wv ⟨rfl, hs4⟩
                 have hS4 := below_two hS3 hs4
                 obtain ⟨_, v0, v1, v2, _, _, _⟩ := X7'.below hS4
                 obtain ⟨_, v3, v4, v5, _, _, _⟩ := J7.box.below hS4))
          go_wp2_with fail
          go_meet
          case rel => exact ⟨rfl, hS4⟩
        case rest =>
          obtain ⟨rfl, hb8⟩ := hcut
          have B8 := below_two B7 hb8
          clear c0 c1 c2 m0 m1 m2 hsame hS0 hf G7
          go_wp2
          go_ret
          exact ⟨rfl, B8⟩
      · obtain ⟨R, C, e1, e2, hR, hC, e3, hle, e4⟩ := appB_yes hx
        have E1 := Lib.hid e1
        have E2 := Lib.hid e2
        have E3 := Lib.hid e3
        have E4 := Lib.hid e4
        clear e1 e2 e3 e4
        have E1I := Lib.hid (I1.out.trans E1.out)
        have E2I := Lib.hid (I2.out.trans E2.out)
        have E3I := Lib.hid (I3.out.trans E3.out)
        have hI' := hI
        obtain ⟨_, c0, c1, c2, _, _, _⟩ := hI.box
        obtain ⟨_, m0, m1, m2, _, _, _⟩ := X3
        have X3' := (show Box3 wc w.heap.size _ _ _ from ⟨xB, m0, m1, m2, ‹_›, ‹_›, ‹_›⟩)
        have Q1 := HX.out.below B3
        go_wp2_with fail
        refine (apply_yes gI q1 R C E1I.out E2I.out E3I.out E4.out hR hC hle _ hI'.inn Q1).mono ?_
        rintro e wd ⟨⟨g1, rfl, _, hEa⟩, hb⟩
        have B4 := below_two B3 hb
        have X4 := X3'.below hb
        have J4 := hI'.below hb
        have R4 := fun T => rws_two (T := T) (b := wd.heap.size) q1 q2 (HX.out.below B4) (HY.out.below B4) rfl
        have al := fun o => (Below.refl wd.heap.size wd).alloc (Nat.le_refl _) o
        have B4' := fun o => below_two B4 (al o)
        have J4' := fun o => J4.below (al o)
        have X4' := fun o => X4.below (al o)
        obtain ⟨_, d0, d1, d2, _, _, _⟩ := J4.box
        clear c0 c1 c2 m0 m1 m2 hb hI hI' X3' Q1 B3 B4 X4
        have hEa' := fun o => hEa.below (al o)
        clear hEa
        go_wp2_with fail
        refine (many_no gI _ 2 2 [q1, q2] (by unfold appAll; simp only [List.all_cons, List.all_nil, HAP.out, hx, hy]; rfl) _ (J4' _).inn (R4 _)).mono ?_
        rintro e we ⟨he, hb⟩
        unfold NoRow at he
        subst he
        have B5 := below_two (B4' _) hb
        have J5 := (J4' _).below hb
        have X5 := (X4' _).below hb
        have hEa2 := (hEa' _).below hb
        clear hEa'
        have G5 := HG.out.below B5
        have Q5 := HX.out.below B5
        have X5' := X5
        obtain ⟨_, m0, m1, m2, _, _, _⟩ := X5
        clear d0 d1 d2 hb J4 J4' X4' B4' R4 al
        go_wp2_with fail
        refine (doc_apply_yes g0 q1 R C E1.out E2.out E3.out E4.out hR hC hle _ G5 Q5).mono ?_
        rintro e wf ⟨⟨ua, ucap, rfl, hEp⟩, hb⟩
        have B6 := below_two B5 hb
        have J6 := J5.below hb
        have X6 := X5'.below hb
        have hEa3 := hEa2.below hb
        clear hEa2
        have G6 := HG.out.below B6
        have Q6 := HY.out.below B6
        have X6' := X6
        obtain ⟨_, d0, d1, d2, _, _, _⟩ := X6
        clear m0 m1 m2 hb J5 X5' B5 G5 Q5
        go_wp2_with fail
        refine (doc_apply_no g0 q2 hy _ G6 Q6).mono ?_
        rintro e wg ⟨rfl, hb⟩
        have B7 := below_two B6 hb
        have J7 := J6.below hb
        have X7 := X6'.below hb
        have hEa4 := hEa3.below hb
        have hEp2 := hEp.below hb
        clear hEa3 hEp
        have G7 := HG.out.below B7
        have X7' := X7
        obtain ⟨_, m0, m1, m2, _, _, _⟩ := X7
        obtain ⟨_, c0, c1, c2, _, _, _⟩ := J7.box
        have hS0 : Below wg.heap.size wg wg.drew := (Below.refl _ _).drew
        obtain ⟨xf, hf⟩ : ∃ xf, fitB g0.r g0.c g0.n = xf := ⟨_, rfl⟩
        have hsame := fun W (hW : Below wg.heap.size wg W) => msame_gr gI g0 I1.out I2.out I3.out I4.out W (J7.inn.below hW) (G7.below hW)
        clear d0 d1 d2 hb J6 X6' B6 G6 Q6 hx hy
        go_upto_region 8 with fail
        go_cut [84] from 85 (fun v wx => v = .bool false ∧ Below wg.heap.size wg wx)
        case first =>
          go_region_held3 (fun w' => w'.cell? ⟨w.heap.size, 0, none⟩ = some (.int .i64 g0.r) ∧ w'.cell? ⟨w.heap.size, 1, none⟩ = some (.int .i64 g0.c) ∧ w'.cell? ⟨w.heap.size, 2, none⟩ = some (.slice g0.a g0.n g0.cap) ∧ w'.cell? ⟨bI, 0, none⟩ = some (.int .i64 gI.r) ∧ w'.cell? ⟨bI, 1, none⟩ = some (.int .i64 gI.c) ∧ w'.cell? ⟨bI, 2, none⟩ = some (.slice gI.a gI.n gI.cap))
            (first | go_keep | (go_split_ands; refine ⟨?_, ?_, ?_, ?_, ?_, ?_⟩ <;> assumption))
            (first
              | (go_at_call 15; (with_reducible refine (hsame _ hS0).mono ?_); rintro e ws ⟨rfl, hs1⟩
                 have hS1 := below_two hS0 hs1
                 have hS1' := fun o => hS1.alloc hS1.size o
                 have hMG := fun T => mats_one (T := T) (b := ws.heap.size) g0 (G7.below hS1) rfl
                 obtain ⟨_, x0, x1, x2, _, _, _⟩ := X7'.below hS1
                 obtain ⟨_, x3, x4, x5, _, _, _⟩ := J7.box.below hS1
                 obtain ⟨_, y0, y1, y2, _, _, _⟩ := X7'.below (hS1' (.cells #[.int .i64 g0.r, .int .i64 g0.c, .slice g0.a g0.n g0.cap] 24))
                 obtain ⟨_, y3, y4, y5, _, _, _⟩ := J7.box.below (hS1' (.cells #[.int .i64 g0.r, .int .i64 g0.c, .slice g0.a g0.n g0.cap] 24)))
              | (go_at_call 16; (with_reducible refine (mright_one g0 xf hf _ _ _ (hMG _)).mono ?_); rintro e wt ⟨rfl, hs2⟩
                 have hS2 := below_two (hS1' _) hs2
                 obtain ⟨_, z0, z1, z2, _, _, _⟩ := X7'.below hS2
                 obtain ⟨_, z3, z4, z5, _, _, _⟩ := J7.box.below hS2)
              | (go_at_call 17; (with_reducible refine (doc_right _ _ _ _ _ _ hgn xf hf).mono ?_); rintro e wu ⟨rfl, hs3⟩
                 have hS3 := below_two hS2 hs3
                 obtain ⟨_, u0, u1, u2, _, _, _⟩ := X7'.below hS3
                 obtain ⟨_, u3, u4, u5, _, _, _⟩ := J7.box.below hS3)
              | (go_at_call 16; (with_reducible refine (mright_none _).mono ?_); rintro e wv ⟨rfl, hs4⟩
                 have hS4 := below_two hS3 hs4
                 obtain ⟨_, v0, v1, v2, _, _, _⟩ := X7'.below hS4
                 obtain ⟨_, v3, v4, v5, _, _, _⟩ := J7.box.below hS4))
          go_wp2_with fail
          go_meet
          case rel => exact ⟨rfl, hS4⟩
        case rest =>
          obtain ⟨rfl, hb8⟩ := hcut
          have B8 := below_two B7 hb8
          have hEa5 := hEa4.below hb8
          have hEp3 := hEp2.below hb8
          clear c0 c1 c2 m0 m1 m2 hsame hS0 hf G7
          rw [I4.out] at hEa5
          go_wp2_with fail
          refine (ints_yes _ _ R R ucap _ _ hEa5 hEp3).mono ?_
          rintro e wd ⟨rfl, d, rfl⟩
          go_wp2
          go_ret
          exact ⟨rfl, below_drewN B8 d⟩
      · obtain ⟨R, C, e1, e2, hR, hC, e3, hle, e4⟩ := appB_yes hx
        have E1 := Lib.hid e1
        have E2 := Lib.hid e2
        have E3 := Lib.hid e3
        have E4 := Lib.hid e4
        clear e1 e2 e3 e4
        obtain ⟨R', C', f1, f2, f5, f6, f3, f7, f4⟩ := appB_yes hy
        have E5 := Lib.hid (show q2.n = C by have := E1.out; have := E2.out; omega)
        clear f1 f2 f3 f4 f5 f6 f7
        have E1I := Lib.hid (I1.out.trans E1.out)
        have E2I := Lib.hid (I2.out.trans E2.out)
        have E3I := Lib.hid (I3.out.trans E3.out)
        have hI' := hI
        obtain ⟨_, c0, c1, c2, _, _, _⟩ := hI.box
        obtain ⟨_, m0, m1, m2, _, _, _⟩ := X3
        have X3' := (show Box3 wc w.heap.size _ _ _ from ⟨xB, m0, m1, m2, ‹_›, ‹_›, ‹_›⟩)
        have Q1 := HX.out.below B3
        go_wp2_with fail
        refine (apply_yes gI q1 R C E1I.out E2I.out E3I.out E4.out hR hC hle _ hI'.inn Q1).mono ?_
        rintro e wd ⟨⟨g1, rfl, _, hEa⟩, hb⟩
        have B4 := below_two B3 hb
        have X4 := X3'.below hb
        have J4 := hI'.below hb
        have R4 := fun T => rws_two (T := T) (b := wd.heap.size) q1 q2 (HX.out.below B4) (HY.out.below B4) rfl
        have al := fun o => (Below.refl wd.heap.size wd).alloc (Nat.le_refl _) o
        have B4' := fun o => below_two B4 (al o)
        have J4' := fun o => J4.below (al o)
        have X4' := fun o => X4.below (al o)
        obtain ⟨_, d0, d1, d2, _, _, _⟩ := J4.box
        clear c0 c1 c2 m0 m1 m2 hb hI hI' X3' Q1 B3 B4 X4
        have hEa' := fun o => hEa.below (al o)
        clear hEa
        go_wp2_with fail
        refine (many_yes gI _ 2 2 [q1, q2] R C E1I.out E2I.out E3I.out hR hC hle (by unfold appAll; simp only [List.all_cons, List.all_nil, HAP.out, hx, hy]; rfl) (by decide) _ (J4' _).inn (R4 _)).mono ?_
        rintro e we ⟨⟨gM, rfl, hEm⟩, hb⟩
        obtain ⟨gM0, mc0, me0⟩ := hEm 0 (by decide)
        obtain ⟨gM1, mc1, me1⟩ := hEm 1 (by decide)
        have hv0 : ([q1, q2].getD 0 default).v = q1.v := rfl
        have hv1 : ([q1, q2].getD 1 default).v = q2.v := rfl
        simp only [hv0, hv1, I4.out] at me0 me1
        have M5 := Lib.hid (And.intro mc0 (And.intro mc1 (And.intro me0 me1)))
        clear hEm hv0 hv1 mc0 mc1 me0 me1
        have B5 := below_two (B4' _) hb
        have J5 := (J4' _).below hb
        have X5 := (X4' _).below hb
        have hEa2 := (hEa' _).below hb
        clear hEa'
        have G5 := HG.out.below B5
        have Q5 := HX.out.below B5
        have X5' := X5
        obtain ⟨_, m0, m1, m2, _, _, _⟩ := X5
        clear d0 d1 d2 hb J4 J4' X4' B4' R4 al
        go_wp2_with fail
        refine (doc_apply_yes g0 q1 R C E1.out E2.out E3.out E4.out hR hC hle _ G5 Q5).mono ?_
        rintro e wf ⟨⟨ua, ucap, rfl, hEp⟩, hb⟩
        have B6 := below_two B5 hb
        have J6 := J5.below hb
        have X6 := X5'.below hb
        have hEa3 := hEa2.below hb
        clear hEa2
        have M6 := Lib.hid (And.intro (cell_keep M5.out.1 hb) (And.intro (cell_keep M5.out.2.1 hb) (And.intro (M5.out.2.2.1.below hb) (M5.out.2.2.2.below hb))))
        clear M5
        have G6 := HG.out.below B6
        have Q6 := HY.out.below B6
        have X6' := X6
        obtain ⟨_, d0, d1, d2, _, _, _⟩ := X6
        clear m0 m1 m2 hb J5 X5' B5 G5 Q5
        go_wp2_with fail
        refine (doc_apply_yes g0 q2 R C E1.out E2.out E3.out E5.out hR hC hle _ G6 Q6).mono ?_
        rintro e wg ⟨⟨va, vcap, rfl, hEq⟩, hb⟩
        have B7 := below_two B6 hb
        have J7 := J6.below hb
        have X7 := X6'.below hb
        have hEa4 := hEa3.below hb
        have hEp2 := hEp.below hb
        clear hEa3 hEp
        have M7 := Lib.hid (And.intro (cell_keep M6.out.1 hb) (And.intro (cell_keep M6.out.2.1 hb) (And.intro (M6.out.2.2.1.below hb) (M6.out.2.2.2.below hb))))
        clear M6
        have G7 := HG.out.below B7
        have X7' := X7
        obtain ⟨_, m0, m1, m2, _, _, _⟩ := X7
        obtain ⟨_, c0, c1, c2, _, _, _⟩ := J7.box
        have hS0 : Below wg.heap.size wg wg.drew := (Below.refl _ _).drew
        obtain ⟨xf, hf⟩ : ∃ xf, fitB g0.r g0.c g0.n = xf := ⟨_, rfl⟩
        have hsame := fun W (hW : Below wg.heap.size wg W) => msame_gr gI g0 I1.out I2.out I3.out I4.out W (J7.inn.below hW) (G7.below hW)
        clear d0 d1 d2 hb J6 X6' B6 G6 Q6 hx hy
        go_upto_region 8 with fail
        go_cut [84] from 85 (fun v wx => v = .bool false ∧ Below wg.heap.size wg wx)
        case first =>
          go_region_held3 (fun w' => w'.cell? ⟨w.heap.size, 0, none⟩ = some (.int .i64 g0.r) ∧ w'.cell? ⟨w.heap.size, 1, none⟩ = some (.int .i64 g0.c) ∧ w'.cell? ⟨w.heap.size, 2, none⟩ = some (.slice g0.a g0.n g0.cap) ∧ w'.cell? ⟨bI, 0, none⟩ = some (.int .i64 gI.r) ∧ w'.cell? ⟨bI, 1, none⟩ = some (.int .i64 gI.c) ∧ w'.cell? ⟨bI, 2, none⟩ = some (.slice gI.a gI.n gI.cap))
            (first | go_keep | (go_split_ands; refine ⟨?_, ?_, ?_, ?_, ?_, ?_⟩ <;> assumption))
            (first
              | (go_at_call 15; (with_reducible refine (hsame _ hS0).mono ?_); rintro e ws ⟨rfl, hs1⟩
                 have hS1 := below_two hS0 hs1
                 have hS1' := fun o => hS1.alloc hS1.size o
                 have hMG := fun T => mats_one (T := T) (b := ws.heap.size) g0 (G7.below hS1) rfl
                 obtain ⟨_, x0, x1, x2, _, _, _⟩ := X7'.below hS1
                 obtain ⟨_, x3, x4, x5, _, _, _⟩ := J7.box.below hS1
                 obtain ⟨_, y0, y1, y2, _, _, _⟩ := X7'.below (hS1' (.cells #[.int .i64 g0.r, .int .i64 g0.c, .slice g0.a g0.n g0.cap] 24))
                 obtain ⟨_, y3, y4, y5, _, _, _⟩ := J7.box.below (hS1' (.cells #[.int .i64 g0.r, .int .i64 g0.c, .slice g0.a g0.n g0.cap] 24)))
              | (go_at_call 16; (with_reducible refine (mright_one g0 xf hf _ _ _ (hMG _)).mono ?_); rintro e wt ⟨rfl, hs2⟩
                 have hS2 := below_two (hS1' _) hs2
                 obtain ⟨_, z0, z1, z2, _, _, _⟩ := X7'.below hS2
                 obtain ⟨_, z3, z4, z5, _, _, _⟩ := J7.box.below hS2)
              | (go_at_call 17; (with_reducible refine (doc_right _ _ _ _ _ _ hgn xf hf).mono ?_); rintro e wu ⟨rfl, hs3⟩
                 have hS3 := below_two hS2 hs3
                 obtain ⟨_, u0, u1, u2, _, _, _⟩ := X7'.below hS3
                 obtain ⟨_, u3, u4, u5, _, _, _⟩ := J7.box.below hS3)
              | (go_at_call 16; (with_reducible refine (mright_none _).mono ?_); rintro e wv ⟨rfl, hs4⟩
                 have hS4 := below_two hS3 hs4
                 obtain ⟨_, v0, v1, v2, _, _, _⟩ := X7'.below hS4
                 obtain ⟨_, v3, v4, v5, _, _, _⟩ := J7.box.below hS4))
          go_wp2_with fail
          go_meet
          case rel => exact ⟨rfl, hS4⟩
        case rest =>
          obtain ⟨rfl, hb8⟩ := hcut
          have B8 := below_two B7 hb8
          have hEa5 := hEa4.below hb8
          have hEp3 := hEp2.below hb8
          have mh2 := cell_keep M7.out.1 hb8
          have mh3 := cell_keep M7.out.2.1 hb8
          have mi2 := M7.out.2.2.1.below hb8
          have mi3 := M7.out.2.2.2.below hb8
          clear M7
          have hEq2 := hEq.below hb8
          clear c0 c1 c2 m0 m1 m2 hsame hS0 hf G7
          rw [I4.out] at hEa5
          go_wp2_with fail
          refine (ints_yes _ _ R R ucap _ _ hEa5 hEp3).mono ?_
          rintro e wd ⟨rfl, d, rfl⟩
          go_wp2_with fail
          refine (ints_yes _ _ R R ucap _ _ (mi2.drewN d) (hEp3.drewN d)).mono ?_
          rintro e wd ⟨rfl, d2, rfl⟩
          go_wp2_with fail
          refine (ints_yes _ _ R R vcap _ _ (mi3.drewN _) (hEq2.drewN _)).mono ?_
          rintro e wd ⟨rfl, d3, rfl⟩
          go_wp2
          go_ret
          exact ⟨rfl, below_drewN B8 _⟩

set_option maxRecDepth 100000 in
theorem lifted (os : Os) (started : os.Started) (H : Type) (enc : TypeId × Value → H) :
    ReturnsInHanded {} Try.checked os 3 .any (Rows.matmulAppliesSpec.pre6 enc Try.prog Try.f3 Rows.matmulAppliesRow.domain false) (Rows.matmulAppliesSpec.post enc Try.prog Try.f3 false true false false) := by
  refine returnsInHanded_of_change (C := Try.checked) own started (by kernel_rfl) Try.func3
    (ChangeSpec.witness6 (enc := enc) (C := Try.checked) false ⟨#[], #[.agg #[.int .i64 0, .int .i64 0, .slice none 0 0], .slice none 0 0, .slice none 0 0], []⟩ 8 (by kernel_rfl) (by kernel_rfl) (by kernel_rfl) (by kernel_rfl)) ?_
  intro W base args ds gs before hval0 hW hcnd _
  have hval : ∀ (j : Nat) t v, Try.f3.params[j]? = some t → args[j]? = some v → Value.okWide Try.prog W .any base t v := hval0
  have hW' := hW
  obtain ⟨p, q, hA0, hV, rfl, hfz, hnd⟩ := hW
  have hA : DataW.TrodAll enc Try.prog W 0 (fun _ => true) true Try.f3.params.toList args.toList ds p := hA0
  rw [Try.params3] at hA hval
  obtain ⟨v0, vs0, d0, ds0, p0, q0, hargs, rfl, rfl, h0, r0⟩ := trodAll_cons hA
  obtain ⟨v1, vs1, d1, ds1, p1, q1, rfl, rfl, rfl, h1, r1⟩ := trodAll_cons r0
  obtain ⟨v2, vs2, d2, ds2, p2, q2, rfl, rfl, rfl, h2, r2⟩ := trodAll_cons r1
  obtain ⟨rfl, rfl, rfl⟩ := trodAll_nil r2
  obtain rfl : args = #[v0, v1, v2] := by cases args; simp_all
  obtain ⟨rfl, rfl⟩ := trodVars_none hV
  have k0 := h0
  have lt0 : ∀ x ∈ p0, x.block < W.heap.size := by obtain ⟨m, hm⟩ := k0; exact DataW.trod_lt m _ _ _ hm
  obtain ⟨g0, rfl, w0⟩ := open_mat (hval 0 24 v0 rfl rfl) h0
  have k1 := h1
  have lt1 : ∀ x ∈ p1, x.block < W.heap.size := by obtain ⟨m, hm⟩ := k1; exact DataW.trod_lt m _ _ _ hm
  obtain ⟨q1, rfl, w1⟩ := open_rw Try.underlying22 Try.underlying46 (by kernel_rfl) (hval 1 22 v1 rfl rfl) h1
  have k2 := h2
  have lt2 : ∀ x ∈ p2, x.block < W.heap.size := by obtain ⟨m, hm⟩ := k2; exact DataW.trod_lt m _ _ _ hm
  obtain ⟨q2, rfl, w2⟩ := open_rw Try.underlying22 Try.underlying46 (by kernel_rfl) (hval 2 22 v2 rfl rfl) h2
  clear hA0 hval0
  refine (walk g0 q1 q2 W w0 w1 w2).mono fun e W' ⟨he, bel⟩ => ?_
  subst he
  exact ⟨_, rfl, _, _, _, [], _, [], hW', trodAll_mk1 (shut_bool Try.underlying4 _), (trodAll_cons_mk (Below.trod laidOut (by kernel_rfl) (of_decide_eq_true (by kernel_rfl)) k0 bel lt0) (trodAll_cons_mk (Below.trod laidOut (by kernel_rfl) (of_decide_eq_true (by kernel_rfl)) k1 bel lt1) (trodAll_cons_mk (Below.trod laidOut (by kernel_rfl) (of_decide_eq_true (by kernel_rfl)) k2 bel lt2) trodAll_mk0))), rfl, bel.frame _, fun h => by cases h⟩

theorem over : Rows.matmulAppliesRow.holds Try.pinned (OpenSpec.ofChange Rows.matmulAppliesSpec) :=
  OpenClaim.holds_of_wide 3 Try.f3 rfl rfl rfl rfl rfl rfl rfl ⟨rfl, rfl, rfl, rfl, rfl⟩ rfl rfl rfl rfl rfl (by kernel_rfl) Try.func3 (by kernel_rfl)
    (of_decide_eq_true (by kernel_rfl)) (by unfold Func.isWrapper; first | (rw [if_pos (by decide +kernel)]; kernel_rfl) | (rw [if_neg (by decide +kernel)]; exact ⟨rfl, rfl⟩))
    (fun os started H enc _ => lifted os started H enc)

/-- ████ THE STATEMENT ████ -/
theorem proved : Rows.MatmulAppliesSaid := over
#print axioms proved
end Go.Proofs.Ytkiedganojaniaa.matmulApplies
