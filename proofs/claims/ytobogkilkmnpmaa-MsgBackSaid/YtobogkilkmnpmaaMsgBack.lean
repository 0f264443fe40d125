/-
  Proved: for every message MsgBack returns true (which are right is the document's; their bytes are the document's and are read as the message; what isn't right has none) and nothing that was in memory turns. No condition.
-/
import Derived.Test.YtobogkilkmnpmaaRows
import Derived.WalkKit
import Derived.ProofKit
import Derived.OpenShut
import Derived.ShutString
import Derived.ChangeOld
import Derived.Below
import Derived.Test.YtobogkilkmnpmaaMsRow15
import Derived.Test.YtobogkilkmnpmaaMsRow15
import Derived.Test.YtobogkilkmnpmaaLaw15
import Derived.Deep.CutRange
namespace Go.Proofs.Ytobogkilkmnpmaa.msgBack
open Go.ChangeShapes Go.WideShapes Go.ChangeAt Go.RowKit
open Go.ChangeMaps (open_string shut_string)
set_option linter.unusedVariables false

theorem own : ownKnob Try.prog.godebug = none := by kernel_rfl
theorem laidOut : laidOutB Try.prog = true := by kernel_rfl

set_option maxHeartbeats 12800000 in
set_option maxRecDepth 100000 in
theorem walk (x0 : Ms15) (w : World) (h0 : Ms15.In w x0) :
    Calls Try.prog 3 #[.agg #[.int .i64 x0.kind, .int .i64 x0.n0, .int .i64 x0.n1, .int .i64 x0.n2, .int .i64 x0.n3, .int .i64 x0.n4, .int .i64 x0.n5, .int .i64 x0.n6, .slice x0.li.a x0.li.n x0.li.cap]] w fun e w' => e = .returned (.bool true) ∧ Below w.heap.size w w' := by
  obtain ⟨x, hx⟩ : ∃ x, x0 = x := ⟨_, rfl⟩
  subst hx
  have hx0 := h0
  have X := ms_box x0 w
  have hB1 := (Below.refl w.heap.size w).alloc (Nat.le_refl _) (.cells #[.int .i64 x0.kind, .int .i64 x0.n0, .int .i64 x0.n1, .int .i64 x0.n2, .int .i64 x0.n3, .int .i64 x0.n4, .int .i64 x0.n5, .int .i64 x0.n6, .slice x0.li.a x0.li.n x0.li.cap] 24)
  have HI := Lib.hid hx0
  obtain ⟨ab, hab⟩ : ∃ ab, w.heap.size = ab := ⟨_, rfl⟩
  have hll : x0.li.n ≤ 9223372036854775807 := h0.li.1.2.1
  clear h0 hx0
  by_cases h5 : 5000 < x0.li.n
  · have h5' : (5000 : Int) < (x0.li.n : Int) := by omega
    go_enter Try.func3, Try.ntmps3
    go_upto_region 1 with fail
    generalize (w.alloc (.cells #[.int .i64 x0.kind, .int .i64 x0.n0, .int .i64 x0.n1, .int .i64 x0.n2, .int .i64 x0.n3, .int .i64 x0.n4, .int .i64 x0.n5, .int .i64 x0.n6, .slice x0.li.a x0.li.n x0.li.cap] 24)) = w1 at X hB1 ⊢
    rw [hab] at X
    have HX := Lib.hid X
    have HB1 := Lib.hid hB1
    have HAB := Lib.hid hab
    clear X hB1
    go_wp2_with fail
    clear hab
    refine (awake15 _).mono ?_
    rintro e w2 ⟨rfl, hb2⟩
    have a8 : w2.cell? ⟨ab, 8, none⟩ = some (.slice x0.li.a x0.li.n x0.li.cap) := (HX.out.bel hb2).cell 8
    have HB2 := Lib.hid (below_two HB1.out hb2)
    clear hb2
    go_wp2_with fail
    refine (awake15 _).mono ?_
    rintro e w3 ⟨rfl, hb3⟩
    have HB3 := Lib.hid (below_two HB2.out hb3)
    clear hb3
    go_wp2_with fail
    go_ret
    exact ⟨rfl, HB3.out⟩
  · have h5' : ¬ (5000 : Int) < (x0.li.n : Int) := by omega
    have HN5 : Hid (x0.li.n ≤ 65536) := Lib.hid (by omega)
    clear h5
    go_enter Try.func3, Try.ntmps3
    go_upto_region 1 with fail
    generalize (w.alloc (.cells #[.int .i64 x0.kind, .int .i64 x0.n0, .int .i64 x0.n1, .int .i64 x0.n2, .int .i64 x0.n3, .int .i64 x0.n4, .int .i64 x0.n5, .int .i64 x0.n6, .slice x0.li.a x0.li.n x0.li.cap] 24)) = w1 at X hB1 ⊢
    rw [hab] at X
    have HX := Lib.hid X
    have HB1 := Lib.hid hB1
    have HAB := Lib.hid hab
    clear X hB1
    go_wp2_with fail
    refine (awake15 _).mono ?_
    rintro e w2 ⟨rfl, hb2⟩
    have X2 := HX.out.bel hb2
    have a0 : w2.cell? ⟨ab, 0, none⟩ = some (.int .i64 x0.kind) := X2.cell 0
    have a1 : w2.cell? ⟨ab, 1, none⟩ = some (.int .i64 x0.n0) := X2.cell 1
    have a2 : w2.cell? ⟨ab, 2, none⟩ = some (.int .i64 x0.n1) := X2.cell 2
    have a3 : w2.cell? ⟨ab, 3, none⟩ = some (.int .i64 x0.n2) := X2.cell 3
    have a4 : w2.cell? ⟨ab, 4, none⟩ = some (.int .i64 x0.n3) := X2.cell 4
    have a5 : w2.cell? ⟨ab, 5, none⟩ = some (.int .i64 x0.n4) := X2.cell 5
    have a6 : w2.cell? ⟨ab, 6, none⟩ = some (.int .i64 x0.n5) := X2.cell 6
    have a7 : w2.cell? ⟨ab, 7, none⟩ = some (.int .i64 x0.n6) := X2.cell 7
    have a8 : w2.cell? ⟨ab, 8, none⟩ = some (.slice x0.li.a x0.li.n x0.li.cap) := X2.cell 8
    have HX2 := Lib.hid X2
    have HB2 := Lib.hid (below_two HB1.out hb2)
    have C1 := mclone15 x0 w2 (HI.out.below HB2.out) HN5.out
    clear hb2 X2
    go_wp2_with fail
    refine C1.mono ?_
    rintro e w3 ⟨hce, hb3⟩
    obtain ⟨y, rfl, hcp⟩ := clone_copy (HI.out.below (below_two HB2.out hb3)) hce
    have HX3 := Lib.hid (HX2.out.bel hb3)
    have HB3 := Lib.hid (below_two HB2.out hb3)
    have HCP := Lib.hid hcp
    obtain ⟨cb, hcb⟩ : ∃ cb, w3.heap.size = cb := ⟨_, rfl⟩
    clear C1 hb3 hce hcp a0 a1 a2 a3 a4 a5 a6 a7 a8
    go_upto_region 4 with fail
    have Y4 : Box (w3.alloc (.cells #[.int .i64 y.kind, .int .i64 y.n0, .int .i64 y.n1, .int .i64 y.n2, .int .i64 y.n3, .int .i64 y.n4, .int .i64 y.n5, .int .i64 y.n6, .slice y.li.a y.li.n y.li.cap] 24)) w3.heap.size 24 #[.int .i64 y.kind, .int .i64 y.n0, .int .i64 y.n1, .int .i64 y.n2, .int .i64 y.n3, .int .i64 y.n4, .int .i64 y.n5, .int .i64 y.n6, .slice y.li.a y.li.n y.li.cap] := box_new _ _ _
    have hb4 : Below w3.heap.size w3 (w3.alloc (.cells #[.int .i64 y.kind, .int .i64 y.n0, .int .i64 y.n1, .int .i64 y.n2, .int .i64 y.n3, .int .i64 y.n4, .int .i64 y.n5, .int .i64 y.n6, .slice y.li.a y.li.n y.li.cap] 24)) := (Below.refl _ w3).alloc (Nat.le_refl _) _
    rw [hcb] at Y4
    have X4 := HX3.out.bel hb4
    have hY4 := HCP.out.ok.below hb4
    have HB4 := Lib.hid (below_two HB3.out hb4)
    generalize (w3.alloc (.cells #[.int .i64 y.kind, .int .i64 y.n0, .int .i64 y.n1, .int .i64 y.n2, .int .i64 y.n3, .int .i64 y.n4, .int .i64 y.n5, .int .i64 y.n6, .slice y.li.a y.li.n y.li.cap] 24)) = w4 at Y4 X4 HB4 hY4 ⊢
    clear hb4 hcb
    have c0 : w4.cell? ⟨cb, 0, none⟩ = some (.int .i64 y.kind) := Y4.cell 0
    have c1 : w4.cell? ⟨cb, 1, none⟩ = some (.int .i64 y.n0) := Y4.cell 1
    have c2 : w4.cell? ⟨cb, 2, none⟩ = some (.int .i64 y.n1) := Y4.cell 2
    have c3 : w4.cell? ⟨cb, 3, none⟩ = some (.int .i64 y.n2) := Y4.cell 3
    have c4 : w4.cell? ⟨cb, 4, none⟩ = some (.int .i64 y.n3) := Y4.cell 4
    have c5 : w4.cell? ⟨cb, 5, none⟩ = some (.int .i64 y.n4) := Y4.cell 5
    have c6 : w4.cell? ⟨cb, 6, none⟩ = some (.int .i64 y.n5) := Y4.cell 6
    have c7 : w4.cell? ⟨cb, 7, none⟩ = some (.int .i64 y.n6) := Y4.cell 7
    have c8 : w4.cell? ⟨cb, 8, none⟩ = some (.slice y.li.a y.li.n y.li.cap) := Y4.cell 8
    have HX4 := Lib.hid X4
    have HY4 := Lib.hid Y4
    have HYI := Lib.hid hY4
    have hry := HCP.out.right
    have hsm := HCP.out.same
    have HBD := Lib.hid HCP.out.body
    have HKD := Lib.hid HCP.out.kind
    cases hr : rightM x0 with
    | false =>
      rw [hr] at hry
      have B1 := bytes15_no y w4 hY4 hry
      have HRX := Lib.hid hr
      clear hr hry X4 Y4 hY4
      go_wp2_with fail
      refine B1.mono ?_
      rintro e w5 ⟨rfl, hb5⟩
      have X5 := HX4.out.bel hb5
      have Y5 := HY4.out.bel hb5
      have p0 : w5.cell? ⟨ab, 0, none⟩ = some (.int .i64 x0.kind) := X5.cell 0
      have p1 : w5.cell? ⟨ab, 1, none⟩ = some (.int .i64 x0.n0) := X5.cell 1
      have p2 : w5.cell? ⟨ab, 2, none⟩ = some (.int .i64 x0.n1) := X5.cell 2
      have p3 : w5.cell? ⟨ab, 3, none⟩ = some (.int .i64 x0.n2) := X5.cell 3
      have p4 : w5.cell? ⟨ab, 4, none⟩ = some (.int .i64 x0.n3) := X5.cell 4
      have p5 : w5.cell? ⟨ab, 5, none⟩ = some (.int .i64 x0.n4) := X5.cell 5
      have p6 : w5.cell? ⟨ab, 6, none⟩ = some (.int .i64 x0.n5) := X5.cell 6
      have p7 : w5.cell? ⟨ab, 7, none⟩ = some (.int .i64 x0.n6) := X5.cell 7
      have p8 : w5.cell? ⟨ab, 8, none⟩ = some (.slice x0.li.a x0.li.n x0.li.cap) := X5.cell 8
      have R1 := dright15 x0 w5 (HI.out.below (below_two HB4.out hb5))
      rw [HRX.out] at R1
      have HB5 := Lib.hid (below_two HB4.out hb5)
      have HX5 := Lib.hid X5
      have HY5 := Lib.hid Y5
      have HYI5 := Lib.hid (HYI.out.below hb5)
      clear B1 hb5 X5 Y5 c0 c1 c2 c3 c4 c5 c6 c7 c8
      go_wp2_with fail
      refine R1.mono ?_
      rintro e w6 ⟨rfl, hb6⟩
      clear p0 p1 p2 p3 p4 p5 p6 p7 p8
      have X6 := HX5.out.bel hb6
      have q0 : w6.cell? ⟨ab, 0, none⟩ = some (.int .i64 x0.kind) := X6.cell 0
      have q1 : w6.cell? ⟨ab, 1, none⟩ = some (.int .i64 x0.n0) := X6.cell 1
      have q2 : w6.cell? ⟨ab, 2, none⟩ = some (.int .i64 x0.n1) := X6.cell 2
      have q3 : w6.cell? ⟨ab, 3, none⟩ = some (.int .i64 x0.n2) := X6.cell 3
      have q4 : w6.cell? ⟨ab, 4, none⟩ = some (.int .i64 x0.n3) := X6.cell 4
      have q5 : w6.cell? ⟨ab, 5, none⟩ = some (.int .i64 x0.n4) := X6.cell 5
      have q6 : w6.cell? ⟨ab, 6, none⟩ = some (.int .i64 x0.n5) := X6.cell 6
      have q7 : w6.cell? ⟨ab, 7, none⟩ = some (.int .i64 x0.n6) := X6.cell 7
      have q8 : w6.cell? ⟨ab, 8, none⟩ = some (.slice x0.li.a x0.li.n x0.li.cap) := X6.cell 8
      have HB6 := Lib.hid (below_two HB5.out hb6)
      have RI := row_one15 (T := 24) (w := w6) x0 (HI.out.below HB6.out) rfl
      have Q1 := rights15 _ _ RI
      simp only [List.all_cons, List.all_nil, Bool.and_true] at Q1
      rw [HRX.out] at Q1
      have hb6a : Below w6.heap.size w6 (w6.alloc (.cells #[.int .i64 x0.kind, .int .i64 x0.n0, .int .i64 x0.n1, .int .i64 x0.n2, .int .i64 x0.n3, .int .i64 x0.n4, .int .i64 x0.n5, .int .i64 x0.n6, .slice x0.li.a x0.li.n x0.li.cap] 24)) := (Below.refl _ w6).alloc (Nat.le_refl _) _
      have HX6 := Lib.hid (X6.bel hb6a)
      have HY6 := Lib.hid ((HY5.out.bel hb6).bel hb6a)
      have HYI6 := Lib.hid ((HYI5.out.below hb6).below hb6a)
      have HB6a := Lib.hid (below_two HB6.out hb6a)
      have HW56 := Lib.hid (below_two hb6 hb6a)
      clear R1 hb6 X6 RI
      go_wp2_with fail
      refine Q1.mono ?_
      rintro e w7 ⟨rfl, hb7⟩
      clear q0 q1 q2 q3 q4 q5 q6 q7 q8
      have X7 := HX6.out.bel hb7
      have Y7 := HY6.out.bel hb7
      have r0 : w7.cell? ⟨ab, 0, none⟩ = some (.int .i64 x0.kind) := X7.cell 0
      have r1 : w7.cell? ⟨ab, 1, none⟩ = some (.int .i64 x0.n0) := X7.cell 1
      have r2 : w7.cell? ⟨ab, 2, none⟩ = some (.int .i64 x0.n1) := X7.cell 2
      have r3 : w7.cell? ⟨ab, 3, none⟩ = some (.int .i64 x0.n2) := X7.cell 3
      have r4 : w7.cell? ⟨ab, 4, none⟩ = some (.int .i64 x0.n3) := X7.cell 4
      have r5 : w7.cell? ⟨ab, 5, none⟩ = some (.int .i64 x0.n4) := X7.cell 5
      have r6 : w7.cell? ⟨ab, 6, none⟩ = some (.int .i64 x0.n5) := X7.cell 6
      have r7 : w7.cell? ⟨ab, 7, none⟩ = some (.int .i64 x0.n6) := X7.cell 7
      have r8 : w7.cell? ⟨ab, 8, none⟩ = some (.slice x0.li.a x0.li.n x0.li.cap) := X7.cell 8
      have t0 : w7.cell? ⟨cb, 0, none⟩ = some (.int .i64 y.kind) := Y7.cell 0
      have t1 : w7.cell? ⟨cb, 1, none⟩ = some (.int .i64 y.n0) := Y7.cell 1
      have t2 : w7.cell? ⟨cb, 2, none⟩ = some (.int .i64 y.n1) := Y7.cell 2
      have t3 : w7.cell? ⟨cb, 3, none⟩ = some (.int .i64 y.n2) := Y7.cell 3
      have t4 : w7.cell? ⟨cb, 4, none⟩ = some (.int .i64 y.n3) := Y7.cell 4
      have t5 : w7.cell? ⟨cb, 5, none⟩ = some (.int .i64 y.n4) := Y7.cell 5
      have t6 : w7.cell? ⟨cb, 6, none⟩ = some (.int .i64 y.n5) := Y7.cell 6
      have t7 : w7.cell? ⟨cb, 7, none⟩ = some (.int .i64 y.n6) := Y7.cell 7
      have t8 : w7.cell? ⟨cb, 8, none⟩ = some (.slice y.li.a y.li.n y.li.cap) := Y7.cell 8
      have HB7 := Lib.hid (below_two HB6a.out hb7)
      have hyi7 := HYI6.out.below hb7
      have S1 := dsame15 y x0 w7 hyi7 (HI.out.below HB7.out)
      rw [hsm] at S1
      have HX7 := Lib.hid X7
      have HY7 := Lib.hid Y7
      have HYI7 := Lib.hid hyi7
      have HW57 := Lib.hid (below_two HW56.out hb7)
      clear Q1 hb7 X7 Y7 hyi7 hb6a
      go_wp2_with fail
      refine S1.mono ?_
      rintro e w8 ⟨rfl, hb8⟩
      clear r0 r1 r2 r3 r4 r5 r6 r7 r8 t0 t1 t2 t3 t4 t5 t6 t7 t8
      have X8 := HX7.out.bel hb8
      have Y8 := HY7.out.bel hb8
      have e0 : w8.cell? ⟨ab, 0, none⟩ = some (.int .i64 x0.kind) := X8.cell 0
      have e1 : w8.cell? ⟨ab, 1, none⟩ = some (.int .i64 x0.n0) := X8.cell 1
      have e2 : w8.cell? ⟨ab, 2, none⟩ = some (.int .i64 x0.n1) := X8.cell 2
      have e3 : w8.cell? ⟨ab, 3, none⟩ = some (.int .i64 x0.n2) := X8.cell 3
      have e4 : w8.cell? ⟨ab, 4, none⟩ = some (.int .i64 x0.n3) := X8.cell 4
      have e5 : w8.cell? ⟨ab, 5, none⟩ = some (.int .i64 x0.n4) := X8.cell 5
      have e6 : w8.cell? ⟨ab, 6, none⟩ = some (.int .i64 x0.n5) := X8.cell 6
      have e7 : w8.cell? ⟨ab, 7, none⟩ = some (.int .i64 x0.n6) := X8.cell 7
      have e8 : w8.cell? ⟨ab, 8, none⟩ = some (.slice x0.li.a x0.li.n x0.li.cap) := X8.cell 8
      have g0 : w8.cell? ⟨cb, 0, none⟩ = some (.int .i64 y.kind) := Y8.cell 0
      have g1 : w8.cell? ⟨cb, 1, none⟩ = some (.int .i64 y.n0) := Y8.cell 1
      have g2 : w8.cell? ⟨cb, 2, none⟩ = some (.int .i64 y.n1) := Y8.cell 2
      have g3 : w8.cell? ⟨cb, 3, none⟩ = some (.int .i64 y.n2) := Y8.cell 3
      have g4 : w8.cell? ⟨cb, 4, none⟩ = some (.int .i64 y.n3) := Y8.cell 4
      have g5 : w8.cell? ⟨cb, 5, none⟩ = some (.int .i64 y.n4) := Y8.cell 5
      have g6 : w8.cell? ⟨cb, 6, none⟩ = some (.int .i64 y.n5) := Y8.cell 6
      have g7 : w8.cell? ⟨cb, 7, none⟩ = some (.int .i64 y.n6) := Y8.cell 7
      have g8 : w8.cell? ⟨cb, 8, none⟩ = some (.slice y.li.a y.li.n y.li.cap) := Y8.cell 8
      have HB8 := Lib.hid (below_two HB7.out hb8)
      have hyi8 := HYI7.out.below hb8
      have S2 := msame15 y x0 w8 hyi8 (HI.out.below HB8.out)
      rw [hsm] at S2
      have HX8 := Lib.hid X8
      have HW58 := Lib.hid (below_two HW57.out hb8)
      clear S1 hb8 X8 Y8 hyi8
      go_wp2_with fail
      refine S2.mono ?_
      rintro e w9 ⟨rfl, hb9⟩
      clear e0 e1 e2 e3 e4 e5 e6 e7 e8 g0 g1 g2 g3 g4 g5 g6 g7 g8
      have HX9 := Lib.hid (HX8.out.bel hb9)
      have HB9 := Lib.hid (below_two HB8.out hb9)
      have HB59 := Lib.hid (below_two HW58.out hb9)
      clear S2 hb9 hsm
      go_wp2_with fail
      go_ret
      exact ⟨rfl, HB9.out⟩
    | true =>
      rw [hr] at hry
      have B1 := bytes15_yes y w4 hY4 hry
      have HFE : Hid (frm y.kind (bodyM (fm y.kind) y) = frm x0.kind (bodyM (fm x0.kind) x0)) := Lib.hid (by rw [HKD.out, HBD.out])
      have HRX := Lib.hid hr
      clear hr hry X4 Y4 hY4
      go_wp2_with fail
      refine B1.mono ?_
      rintro e w5 ⟨⟨⟨ba, bn, bc, bv⟩, rfl, hbi, hbv⟩, hb5⟩
      simp only at hbv hbi
      have HBI := Lib.hid hbi
      have HBV : Hid (bv = frm x0.kind (bodyM (fm x0.kind) x0)) := Lib.hid (hbv.trans HFE.out)
      clear hbi hbv
      have X5 := HX4.out.bel hb5
      have Y5 := HY4.out.bel hb5
      have p0 : w5.cell? ⟨ab, 0, none⟩ = some (.int .i64 x0.kind) := X5.cell 0
      have p1 : w5.cell? ⟨ab, 1, none⟩ = some (.int .i64 x0.n0) := X5.cell 1
      have p2 : w5.cell? ⟨ab, 2, none⟩ = some (.int .i64 x0.n1) := X5.cell 2
      have p3 : w5.cell? ⟨ab, 3, none⟩ = some (.int .i64 x0.n2) := X5.cell 3
      have p4 : w5.cell? ⟨ab, 4, none⟩ = some (.int .i64 x0.n3) := X5.cell 4
      have p5 : w5.cell? ⟨ab, 5, none⟩ = some (.int .i64 x0.n4) := X5.cell 5
      have p6 : w5.cell? ⟨ab, 6, none⟩ = some (.int .i64 x0.n5) := X5.cell 6
      have p7 : w5.cell? ⟨ab, 7, none⟩ = some (.int .i64 x0.n6) := X5.cell 7
      have p8 : w5.cell? ⟨ab, 8, none⟩ = some (.slice x0.li.a x0.li.n x0.li.cap) := X5.cell 8
      have R1 := dright15 x0 w5 (HI.out.below (below_two HB4.out hb5))
      rw [HRX.out] at R1
      have HB5 := Lib.hid (below_two HB4.out hb5)
      have HX5 := Lib.hid X5
      have HY5 := Lib.hid Y5
      have HYI5 := Lib.hid (HYI.out.below hb5)
      clear B1 hb5 X5 Y5 c0 c1 c2 c3 c4 c5 c6 c7 c8
      go_wp2_with fail
      refine R1.mono ?_
      rintro e w6 ⟨rfl, hb6⟩
      clear p0 p1 p2 p3 p4 p5 p6 p7 p8
      have X6 := HX5.out.bel hb6
      have q0 : w6.cell? ⟨ab, 0, none⟩ = some (.int .i64 x0.kind) := X6.cell 0
      have q1 : w6.cell? ⟨ab, 1, none⟩ = some (.int .i64 x0.n0) := X6.cell 1
      have q2 : w6.cell? ⟨ab, 2, none⟩ = some (.int .i64 x0.n1) := X6.cell 2
      have q3 : w6.cell? ⟨ab, 3, none⟩ = some (.int .i64 x0.n2) := X6.cell 3
      have q4 : w6.cell? ⟨ab, 4, none⟩ = some (.int .i64 x0.n3) := X6.cell 4
      have q5 : w6.cell? ⟨ab, 5, none⟩ = some (.int .i64 x0.n4) := X6.cell 5
      have q6 : w6.cell? ⟨ab, 6, none⟩ = some (.int .i64 x0.n5) := X6.cell 6
      have q7 : w6.cell? ⟨ab, 7, none⟩ = some (.int .i64 x0.n6) := X6.cell 7
      have q8 : w6.cell? ⟨ab, 8, none⟩ = some (.slice x0.li.a x0.li.n x0.li.cap) := X6.cell 8
      have HB6 := Lib.hid (below_two HB5.out hb6)
      have RI := row_one15 (T := 24) (w := w6) x0 (HI.out.below HB6.out) rfl
      have Q1 := rights15 _ _ RI
      simp only [List.all_cons, List.all_nil, Bool.and_true] at Q1
      rw [HRX.out] at Q1
      have hb6a : Below w6.heap.size w6 (w6.alloc (.cells #[.int .i64 x0.kind, .int .i64 x0.n0, .int .i64 x0.n1, .int .i64 x0.n2, .int .i64 x0.n3, .int .i64 x0.n4, .int .i64 x0.n5, .int .i64 x0.n6, .slice x0.li.a x0.li.n x0.li.cap] 24)) := (Below.refl _ w6).alloc (Nat.le_refl _) _
      have HX6 := Lib.hid (X6.bel hb6a)
      have HY6 := Lib.hid ((HY5.out.bel hb6).bel hb6a)
      have HYI6 := Lib.hid ((HYI5.out.below hb6).below hb6a)
      have HB6a := Lib.hid (below_two HB6.out hb6a)
      have HW56 := Lib.hid (below_two hb6 hb6a)
      clear R1 hb6 X6 RI
      go_wp2_with fail
      refine Q1.mono ?_
      rintro e w7 ⟨rfl, hb7⟩
      clear q0 q1 q2 q3 q4 q5 q6 q7 q8
      have X7 := HX6.out.bel hb7
      have Y7 := HY6.out.bel hb7
      have r0 : w7.cell? ⟨ab, 0, none⟩ = some (.int .i64 x0.kind) := X7.cell 0
      have r1 : w7.cell? ⟨ab, 1, none⟩ = some (.int .i64 x0.n0) := X7.cell 1
      have r2 : w7.cell? ⟨ab, 2, none⟩ = some (.int .i64 x0.n1) := X7.cell 2
      have r3 : w7.cell? ⟨ab, 3, none⟩ = some (.int .i64 x0.n2) := X7.cell 3
      have r4 : w7.cell? ⟨ab, 4, none⟩ = some (.int .i64 x0.n3) := X7.cell 4
      have r5 : w7.cell? ⟨ab, 5, none⟩ = some (.int .i64 x0.n4) := X7.cell 5
      have r6 : w7.cell? ⟨ab, 6, none⟩ = some (.int .i64 x0.n5) := X7.cell 6
      have r7 : w7.cell? ⟨ab, 7, none⟩ = some (.int .i64 x0.n6) := X7.cell 7
      have r8 : w7.cell? ⟨ab, 8, none⟩ = some (.slice x0.li.a x0.li.n x0.li.cap) := X7.cell 8
      have t0 : w7.cell? ⟨cb, 0, none⟩ = some (.int .i64 y.kind) := Y7.cell 0
      have t1 : w7.cell? ⟨cb, 1, none⟩ = some (.int .i64 y.n0) := Y7.cell 1
      have t2 : w7.cell? ⟨cb, 2, none⟩ = some (.int .i64 y.n1) := Y7.cell 2
      have t3 : w7.cell? ⟨cb, 3, none⟩ = some (.int .i64 y.n2) := Y7.cell 3
      have t4 : w7.cell? ⟨cb, 4, none⟩ = some (.int .i64 y.n3) := Y7.cell 4
      have t5 : w7.cell? ⟨cb, 5, none⟩ = some (.int .i64 y.n4) := Y7.cell 5
      have t6 : w7.cell? ⟨cb, 6, none⟩ = some (.int .i64 y.n5) := Y7.cell 6
      have t7 : w7.cell? ⟨cb, 7, none⟩ = some (.int .i64 y.n6) := Y7.cell 7
      have t8 : w7.cell? ⟨cb, 8, none⟩ = some (.slice y.li.a y.li.n y.li.cap) := Y7.cell 8
      have HB7 := Lib.hid (below_two HB6a.out hb7)
      have hyi7 := HYI6.out.below hb7
      have S1 := dsame15 y x0 w7 hyi7 (HI.out.below HB7.out)
      rw [hsm] at S1
      have HX7 := Lib.hid X7
      have HY7 := Lib.hid Y7
      have HYI7 := Lib.hid hyi7
      have HW57 := Lib.hid (below_two HW56.out hb7)
      clear Q1 hb7 X7 Y7 hyi7 hb6a
      go_wp2_with fail
      refine S1.mono ?_
      rintro e w8 ⟨rfl, hb8⟩
      clear r0 r1 r2 r3 r4 r5 r6 r7 r8 t0 t1 t2 t3 t4 t5 t6 t7 t8
      have X8 := HX7.out.bel hb8
      have Y8 := HY7.out.bel hb8
      have e0 : w8.cell? ⟨ab, 0, none⟩ = some (.int .i64 x0.kind) := X8.cell 0
      have e1 : w8.cell? ⟨ab, 1, none⟩ = some (.int .i64 x0.n0) := X8.cell 1
      have e2 : w8.cell? ⟨ab, 2, none⟩ = some (.int .i64 x0.n1) := X8.cell 2
      have e3 : w8.cell? ⟨ab, 3, none⟩ = some (.int .i64 x0.n2) := X8.cell 3
      have e4 : w8.cell? ⟨ab, 4, none⟩ = some (.int .i64 x0.n3) := X8.cell 4
      have e5 : w8.cell? ⟨ab, 5, none⟩ = some (.int .i64 x0.n4) := X8.cell 5
      have e6 : w8.cell? ⟨ab, 6, none⟩ = some (.int .i64 x0.n5) := X8.cell 6
      have e7 : w8.cell? ⟨ab, 7, none⟩ = some (.int .i64 x0.n6) := X8.cell 7
      have e8 : w8.cell? ⟨ab, 8, none⟩ = some (.slice x0.li.a x0.li.n x0.li.cap) := X8.cell 8
      have g0 : w8.cell? ⟨cb, 0, none⟩ = some (.int .i64 y.kind) := Y8.cell 0
      have g1 : w8.cell? ⟨cb, 1, none⟩ = some (.int .i64 y.n0) := Y8.cell 1
      have g2 : w8.cell? ⟨cb, 2, none⟩ = some (.int .i64 y.n1) := Y8.cell 2
      have g3 : w8.cell? ⟨cb, 3, none⟩ = some (.int .i64 y.n2) := Y8.cell 3
      have g4 : w8.cell? ⟨cb, 4, none⟩ = some (.int .i64 y.n3) := Y8.cell 4
      have g5 : w8.cell? ⟨cb, 5, none⟩ = some (.int .i64 y.n4) := Y8.cell 5
      have g6 : w8.cell? ⟨cb, 6, none⟩ = some (.int .i64 y.n5) := Y8.cell 6
      have g7 : w8.cell? ⟨cb, 7, none⟩ = some (.int .i64 y.n6) := Y8.cell 7
      have g8 : w8.cell? ⟨cb, 8, none⟩ = some (.slice y.li.a y.li.n y.li.cap) := Y8.cell 8
      have HB8 := Lib.hid (below_two HB7.out hb8)
      have hyi8 := HYI7.out.below hb8
      have S2 := msame15 y x0 w8 hyi8 (HI.out.below HB8.out)
      rw [hsm] at S2
      have HX8 := Lib.hid X8
      have HW58 := Lib.hid (below_two HW57.out hb8)
      clear S1 hb8 X8 Y8 hyi8
      go_wp2_with fail
      refine S2.mono ?_
      rintro e w9 ⟨rfl, hb9⟩
      clear e0 e1 e2 e3 e4 e5 e6 e7 e8 g0 g1 g2 g3 g4 g5 g6 g7 g8
      have HX9 := Lib.hid (HX8.out.bel hb9)
      have HB9 := Lib.hid (below_two HB8.out hb9)
      have HB59 := Lib.hid (below_two HW58.out hb9)
      clear S2 hb9 hsm
      have HBI9 := Lib.hid (HBI.out.below HB59.out)
      obtain ⟨s1, hs1⟩ : ∃ s, strOfNums (frm x0.kind (bodyM (fm x0.kind) x0)) = s := ⟨_, rfl⟩
      have HCV : Hid (∀ W, Below w9.heap.size w9 W → Sem.run Try.prog (convert 27 9 (.slice ba bn bc)) W = .ok (.string s1) W) := Lib.hid (fun W hW => by rw [← hs1, ← HBV.out]; exact conv_u8 (HBI9.out.below hW).1)
      have HC2 : Hid (∀ (W : World) (a : Option Addr) (n c : Nat) (v : List Int), Elems .u8 W a n v → v = frm x0.kind (bodyM (fm x0.kind) x0) → Sem.run Try.prog (convert 27 9 (.slice a n c)) W = .ok (.string s1) W) := Lib.hid (fun W a n c v hE hv => by rw [← hs1, ← hv]; exact conv_u8 hE)
      have hkb := fm_some (right_parts HRX.out).1
      have hbl := bodyM_len (fm x0.kind) rfl HI.out.li.1.1 HRX.out
      have HWF : Hid (∀ y ∈ frm x0.kind (bodyM (fm x0.kind) x0), (Lit.int .u8 y).wf = true) := Lib.hid (frm_wf (b14_wf _ (by omega) (by omega)) (bodyM_wf _ x0) (by omega))
      have HNB : Hid ((bodyM (fm x0.kind) x0).length + 12 ≤ 9223372036854775807) := Lib.hid (by omega)
      have HBN : Hid (bn ≤ 1073741824) := Lib.hid (by have h1 := HBI.out.1.1; simp only at h1; rw [HBV.out, frm_len] at h1; omega)
      have cv : Sem.run Try.prog (convert 27 9 (.slice ba bn bc)) w9 = .ok (.string s1) w9 := HCV.out w9 (Below.refl _ _)
      have cvd : Sem.run Try.prog (convert 27 9 (.slice ba bn bc)) w9.drew = .ok (.string s1) w9.drew := HCV.out w9.drew (Below.refl _ w9).drew
      have hbr : Below w9.heap.size w9 w9.drew := (Below.refl _ w9).drew
      have D1 := dbytes15 x0 w9.drew ((HI.out.below HB9.out).below hbr) HRX.out
      have a0 : w9.cell? ⟨ab, 0, none⟩ = some (.int .i64 x0.kind) := HX9.out.cell 0
      have a1 : w9.cell? ⟨ab, 1, none⟩ = some (.int .i64 x0.n0) := HX9.out.cell 1
      have a2 : w9.cell? ⟨ab, 2, none⟩ = some (.int .i64 x0.n1) := HX9.out.cell 2
      have a3 : w9.cell? ⟨ab, 3, none⟩ = some (.int .i64 x0.n2) := HX9.out.cell 3
      have a4 : w9.cell? ⟨ab, 4, none⟩ = some (.int .i64 x0.n3) := HX9.out.cell 4
      have a5 : w9.cell? ⟨ab, 5, none⟩ = some (.int .i64 x0.n4) := HX9.out.cell 5
      have a6 : w9.cell? ⟨ab, 6, none⟩ = some (.int .i64 x0.n5) := HX9.out.cell 6
      have a7 : w9.cell? ⟨ab, 7, none⟩ = some (.int .i64 x0.n6) := HX9.out.cell 7
      have a8 : w9.cell? ⟨ab, 8, none⟩ = some (.slice x0.li.a x0.li.n x0.li.cap) := HX9.out.cell 8
      clear hkb hbl hs1
      go_upto_region 10 with fail
      go_cut [62] from 53 to 62 (fun v wx => v = .bool false ∧ Hid (Below w9.heap.size w9 wx))
      case first =>
        refine wp_region_held_drew (S := (fun V => V.cell? ⟨ab, 0, none⟩ = some (.int .i64 x0.kind) ∧ V.cell? ⟨ab, 1, none⟩ = some (.int .i64 x0.n0) ∧ V.cell? ⟨ab, 2, none⟩ = some (.int .i64 x0.n1) ∧ V.cell? ⟨ab, 3, none⟩ = some (.int .i64 x0.n2) ∧ V.cell? ⟨ab, 4, none⟩ = some (.int .i64 x0.n3) ∧ V.cell? ⟨ab, 5, none⟩ = some (.int .i64 x0.n4) ∧ V.cell? ⟨ab, 6, none⟩ = some (.int .i64 x0.n5) ∧ V.cell? ⟨ab, 7, none⟩ = some (.int .i64 x0.n6) ∧ V.cell? ⟨ab, 8, none⟩ = some (.slice x0.li.a x0.li.n x0.li.cap) ∧ Sem.run Try.prog (convert 27 9 (.slice ba bn bc)) V = .ok (.string s1) V)) (by kernel_rfl) ?_ (fun hHeld => ?_)
        · (first | go_keep | (go_split_ands; refine ⟨?_, ?_, ?_, ?_, ?_, ?_, ?_, ?_, ?_, ?_⟩ <;> assumption))
        refine wpAnyH_take (i := 0) (oi := ⟨some 53, _, _, _, _, _⟩) (v := ?_) rfl (by kernel_rfl) (by kernel_rfl) (by kernel_rfl) (fun _ _ _ h => h) (Or.inl ⟨by rfl, ?hy1⟩) hHeld ?rest1
        case hy1 => (intro W hSw; (try dsimp only at hSw); go_simp; (try with_reducible rfl))
        simp only [Act.put, List.setIfInBounds_toArray, List.set_cons_zero, List.set_cons_succ]
        refine wpAnyH_take (i := 1) (oi := ⟨some 54, _, _, _, _, _⟩) (v := ?_) rfl (by kernel_rfl) (by kernel_rfl) (by kernel_rfl) (fun _ _ _ h => h) (Or.inl ⟨by rfl, ?hy2⟩) hHeld ?rest2
        case hy2 => (intro W hSw; (try dsimp only at hSw); go_simp; (try with_reducible rfl))
        simp only [Act.put, List.setIfInBounds_toArray, List.set_cons_zero, List.set_cons_succ]
        refine wpAnyH_take (i := 2) (oi := ⟨some 55, _, _, _, _, _⟩) (v := ?_) rfl (by kernel_rfl) (by kernel_rfl) (by kernel_rfl) (fun _ _ _ h => h) (Or.inl ⟨by rfl, ?hy3⟩) hHeld ?rest3
        case hy3 => (intro W hSw; (try dsimp only at hSw); go_simp; (try with_reducible rfl))
        simp only [Act.put, List.setIfInBounds_toArray, List.set_cons_zero, List.set_cons_succ]
        refine wpAnyH_take (i := 3) (oi := ⟨some 56, _, _, _, _, _⟩) (v := ?_) rfl (by kernel_rfl) (by kernel_rfl) (by kernel_rfl) (fun _ _ _ h => h) (Or.inl ⟨by rfl, ?hy4⟩) hHeld ?rest4
        case hy4 => (intro W hSw; (try dsimp only at hSw); go_simp; (try with_reducible rfl))
        simp only [Act.put, List.setIfInBounds_toArray, List.set_cons_zero, List.set_cons_succ]
        refine wpAnyH_take (i := 4) (oi := ⟨some 57, _, _, _, _, _⟩) (v := ?_) rfl (by kernel_rfl) (by kernel_rfl) (by kernel_rfl) (fun _ _ _ h => h) (Or.inl ⟨by rfl, ?hy5⟩) hHeld ?rest5
        case hy5 => (intro W hSw; (try dsimp only at hSw); go_simp; (try with_reducible rfl))
        simp only [Act.put, List.setIfInBounds_toArray, List.set_cons_zero, List.set_cons_succ]
        refine wpAnyH_take (i := 5) (oi := ⟨some 58, _, _, _, _, _⟩) (v := ?_) rfl (by kernel_rfl) (by kernel_rfl) (by kernel_rfl) (fun _ _ _ h => h) (Or.inl ⟨by rfl, ?hy6⟩) hHeld ?rest6
        case hy6 => (intro W hSw; (try dsimp only at hSw); go_simp; (try with_reducible rfl))
        simp only [Act.put, List.setIfInBounds_toArray, List.set_cons_zero, List.set_cons_succ]
        refine wpAnyH_ready (rs := [6]) (by kernel_rfl) (by simp) ?_
        refine AllReadyH.cons (o := ⟨some 59, _, _, _, _, _⟩) rfl (fun K hK => ?_) AllReadyH.nil
        go_simp
        go_at_call 14
        refine D1.mono ?_
        rintro e wd ⟨⟨v, rfl, hob⟩, hbd⟩
        have hbr3 := below_two hbr hbd
        have k0 : wd.cell? ⟨ab, 0, none⟩ = some (.int .i64 x0.kind) := cell_keep a0 hbr3
        have k1 : wd.cell? ⟨ab, 1, none⟩ = some (.int .i64 x0.n0) := cell_keep a1 hbr3
        have k2 : wd.cell? ⟨ab, 2, none⟩ = some (.int .i64 x0.n1) := cell_keep a2 hbr3
        have k3 : wd.cell? ⟨ab, 3, none⟩ = some (.int .i64 x0.n2) := cell_keep a3 hbr3
        have k4 : wd.cell? ⟨ab, 4, none⟩ = some (.int .i64 x0.n3) := cell_keep a4 hbr3
        have k5 : wd.cell? ⟨ab, 5, none⟩ = some (.int .i64 x0.n4) := cell_keep a5 hbr3
        have k6 : wd.cell? ⟨ab, 6, none⟩ = some (.int .i64 x0.n5) := cell_keep a6 hbr3
        have k7 : wd.cell? ⟨ab, 7, none⟩ = some (.int .i64 x0.n6) := cell_keep a7 hbr3
        have k8 : wd.cell? ⟨ab, 8, none⟩ = some (.slice x0.li.a x0.li.n x0.li.cap) := cell_keep a8 hbr3
        have kv : Sem.run Try.prog (convert 27 9 (.slice ba bn bc)) wd = .ok (.string s1) wd := HCV.out wd hbr3
        have kvd : Sem.run Try.prog (convert 27 9 (.slice ba bn bc)) wd.drew = .ok (.string s1) wd.drew := HCV.out wd.drew hbr3.drew
        obtain ⟨⟨ga, gn2, gc, gv2⟩, rfl, hgn2, hgv2, hgi2, _⟩ := own_row8 hob HWF.out HNB.out
        obtain rfl : gn2 = (bodyM (fm x0.kind) x0).length + 12 := hgn2
        have d0 : Sem.run Try.prog (convert 27 9 (.slice ga ((bodyM (fm x0.kind) x0).length + 12) gc)) wd = .ok (.string s1) wd := HC2.out wd _ _ _ _ hgi2.1 hgv2
        have d1 : Sem.run Try.prog (convert 27 9 (.slice ga ((bodyM (fm x0.kind) x0).length + 12) gc)) wd.drew = .ok (.string s1) wd.drew := HC2.out wd.drew _ _ _ _ (hgi2.1 : Elems .u8 wd.drew ga _ gv2) hgv2
        have hBd := HB9.out.trans (hbr3.mono HB9.out.size)
        have HBd := Lib.hid hBd
        clear hob hgi2 hgv2
        (try go_wp2_with fail)
        refine hK.out _ _ ?_ (fun hNew => ?_)
        · (first | exact True.intro | ((try dsimp only); (first | go_keep | (go_split_ands; refine ⟨?_, ?_, ?_, ?_, ?_, ?_, ?_, ?_, ?_, ?_⟩ <;> assumption))))
        clear hK K hHeld
        have hHeld := hNew
        clear hNew
        try simp only [Act.put, List.setIfInBounds_toArray, List.set_cons_zero, List.set_cons_succ]
        refine wpAnyH_ready (rs := [7]) (by kernel_rfl) (by simp) ?_
        refine AllReadyH.cons (o := ⟨some 60, _, _, _, _, _⟩) rfl (fun K hK => ?_) AllReadyH.nil
        go_simp
        refine hK.out _ _ ?_ (fun hNew => ?_)
        · (first | exact True.intro | ((try dsimp only); (first | go_keep | (go_split_ands; refine ⟨?_, ?_, ?_, ?_, ?_, ?_, ?_, ?_, ?_, ?_⟩ <;> assumption))))
        clear hK K hHeld
        have hHeld := hNew
        clear hNew
        try simp only [Act.put, List.setIfInBounds_toArray, List.set_cons_zero, List.set_cons_succ]
        refine wpAnyH_take (i := 8) (oi := ⟨some 61, _, _, _, _, _⟩) (v := ?_) rfl (by kernel_rfl) (by kernel_rfl) (by kernel_rfl) (fun _ _ _ h => h) (Or.inl ⟨by rfl, ?hy9⟩) hHeld ?rest9
        case hy9 => (intro W hSw; (try dsimp only at hSw); go_simp; (try with_reducible rfl))
        simp only [Act.put, List.setIfInBounds_toArray, List.set_cons_zero, List.set_cons_succ]
        refine wpAnyH_take (i := 9) (oi := ⟨some 62, _, _, _, _, _⟩) (v := ?_) rfl (by kernel_rfl) (by kernel_rfl) (by kernel_rfl) (fun _ _ _ h => h) (Or.inl ⟨by rfl, ?hy10⟩) hHeld ?rest10
        case hy10 => (intro W hSw; (try dsimp only at hSw); go_simp; (try with_reducible rfl))
        simp only [Act.put, List.setIfInBounds_toArray, List.set_cons_zero, List.set_cons_succ]
        refine wpAnyH_done (by kernel_rfl) ?_ _
        have HBr3 := Lib.hid hbr3
        go_wp2_with fail
        go_meet
        case rel => exact ⟨by simp, HBr3⟩
      obtain ⟨rfl, hBc⟩ := hcut
      clear D1 hbr cv cvd a0 a1 a2 a3 a4 a5 a6 a7 a8
      have HBI10 := HBI9.out.below hBc.out
      have P1 := parse15 ⟨ba, bn, bc, bv⟩ wc HBI10 HBN.out
      simp only at P1
      rw [HBV.out] at P1
      obtain ⟨q1, q2, q3⟩ := frame_says HI.out.li.1.1 HI.out.li.1.2.2.1 HRX.out
      have HQ := Lib.hid (And.intro q1 (And.intro q2 q3))
      have HB10 := Lib.hid (HB9.out.trans (hBc.out.mono HB9.out.size))
      have HX10 := Lib.hid (HX9.out.bel hBc.out)
      clear HBI10 q1 q2 q3 hBc
      go_wp2_with fail
      refine P1.mono ?_
      rintro e w11 ⟨⟨hyes, _⟩, hb11⟩
      obtain ⟨z, rfl, hzi, gl, hz, hlv, hln⟩ := hyes HQ.out.1
      rw [HQ.out.2.1, HQ.out.2.2] at hz hlv
      have hsz := read_same HI.out.li.1.1 HI.out.li.1.2.2.1 HRX.out hz hlv
      have HSZ := Lib.hid hsz
      have HX11 := Lib.hid (HX10.out.bel hb11)
      have HB11 := Lib.hid (below_two HB10.out hb11)
      have HZI := Lib.hid hzi
      obtain ⟨zb, hzb⟩ : ∃ zb, w11.heap.size = zb := ⟨_, rfl⟩
      clear P1 hyes hz hlv hln hsz hb11 hzi
      go_upto_region 13 with fail
      have Z12 : Box (w11.alloc (.cells #[.int .i64 z.kind, .int .i64 z.n0, .int .i64 z.n1, .int .i64 z.n2, .int .i64 z.n3, .int .i64 z.n4, .int .i64 z.n5, .int .i64 z.n6, .slice z.li.a z.li.n z.li.cap] 24)) w11.heap.size 24 #[.int .i64 z.kind, .int .i64 z.n0, .int .i64 z.n1, .int .i64 z.n2, .int .i64 z.n3, .int .i64 z.n4, .int .i64 z.n5, .int .i64 z.n6, .slice z.li.a z.li.n z.li.cap] := box_new _ _ _
      have hb12 : Below w11.heap.size w11 (w11.alloc (.cells #[.int .i64 z.kind, .int .i64 z.n0, .int .i64 z.n1, .int .i64 z.n2, .int .i64 z.n3, .int .i64 z.n4, .int .i64 z.n5, .int .i64 z.n6, .slice z.li.a z.li.n z.li.cap] 24)) := (Below.refl _ w11).alloc (Nat.le_refl _) _
      rw [hzb] at Z12
      have X12 := HX11.out.bel hb12
      have hz12 := HZI.out.below hb12
      have HB12 := Lib.hid (below_two HB11.out hb12)
      generalize (w11.alloc (.cells #[.int .i64 z.kind, .int .i64 z.n0, .int .i64 z.n1, .int .i64 z.n2, .int .i64 z.n3, .int .i64 z.n4, .int .i64 z.n5, .int .i64 z.n6, .slice z.li.a z.li.n z.li.cap] 24)) = w12 at Z12 X12 HB12 hz12 ⊢
      clear hb12 hzb
      have a0 : w12.cell? ⟨ab, 0, none⟩ = some (.int .i64 x0.kind) := X12.cell 0
      have a1 : w12.cell? ⟨ab, 1, none⟩ = some (.int .i64 x0.n0) := X12.cell 1
      have a2 : w12.cell? ⟨ab, 2, none⟩ = some (.int .i64 x0.n1) := X12.cell 2
      have a3 : w12.cell? ⟨ab, 3, none⟩ = some (.int .i64 x0.n2) := X12.cell 3
      have a4 : w12.cell? ⟨ab, 4, none⟩ = some (.int .i64 x0.n3) := X12.cell 4
      have a5 : w12.cell? ⟨ab, 5, none⟩ = some (.int .i64 x0.n4) := X12.cell 5
      have a6 : w12.cell? ⟨ab, 6, none⟩ = some (.int .i64 x0.n5) := X12.cell 6
      have a7 : w12.cell? ⟨ab, 7, none⟩ = some (.int .i64 x0.n6) := X12.cell 7
      have a8 : w12.cell? ⟨ab, 8, none⟩ = some (.slice x0.li.a x0.li.n x0.li.cap) := X12.cell 8
      have z0 : w12.cell? ⟨zb, 0, none⟩ = some (.int .i64 z.kind) := Z12.cell 0
      have z1 : w12.cell? ⟨zb, 1, none⟩ = some (.int .i64 z.n0) := Z12.cell 1
      have z2 : w12.cell? ⟨zb, 2, none⟩ = some (.int .i64 z.n1) := Z12.cell 2
      have z3 : w12.cell? ⟨zb, 3, none⟩ = some (.int .i64 z.n2) := Z12.cell 3
      have z4 : w12.cell? ⟨zb, 4, none⟩ = some (.int .i64 z.n3) := Z12.cell 4
      have z5 : w12.cell? ⟨zb, 5, none⟩ = some (.int .i64 z.n4) := Z12.cell 5
      have z6 : w12.cell? ⟨zb, 6, none⟩ = some (.int .i64 z.n5) := Z12.cell 6
      have z7 : w12.cell? ⟨zb, 7, none⟩ = some (.int .i64 z.n6) := Z12.cell 7
      have z8 : w12.cell? ⟨zb, 8, none⟩ = some (.slice z.li.a z.li.n z.li.cap) := Z12.cell 8
      have S1 := dsame15 z x0 w12 hz12 (HI.out.below HB12.out)
      rw [HSZ.out] at S1
      clear Z12 X12 hz12
      go_wp2_with fail
      refine S1.mono ?_
      rintro e w13 ⟨rfl, hb13⟩
      have HB13 := Lib.hid (below_two HB12.out hb13)
      clear S1 hb13 a0 a1 a2 a3 a4 a5 a6 a7 a8 z0 z1 z2 z3 z4 z5 z6 z7 z8
      go_wp2_with fail
      go_ret
      exact ⟨rfl, HB13.out⟩

set_option maxRecDepth 100000 in
theorem lifted (os : Os) (started : os.Started) (H : Type) (enc : TypeId × Value → H) :
    ReturnsInHanded {} Try.checked os 3 .any (Rows.msgBackSpec.pre6 enc Try.prog Try.f3 Rows.msgBackRow.domain false) (Rows.msgBackSpec.post enc Try.prog Try.f3 false true false false) := by
  refine returnsInHanded_of_change (C := Try.checked) own started (by kernel_rfl) Try.func3
    (ChangeSpec.witness6 (enc := enc) (C := Try.checked) false ⟨#[], #[.agg #[.int .i64 0, .int .i64 0, .int .i64 0, .int .i64 0, .int .i64 0, .int .i64 0, .int .i64 0, .int .i64 0, .slice none 0 0]], []⟩ 8 (by kernel_rfl) (by kernel_rfl) (by kernel_rfl) (by kernel_rfl)) ?_
  intro W base args ds gs before hval0 hW hcnd _
  have hval : ∀ (j : Nat) t v, Try.f3.params[j]? = some t → args[j]? = some v → Value.okWide Try.prog W .any base t v := hval0
  have hW' := hW
  obtain ⟨p, q, hA0, hV, rfl, hfz, hnd⟩ := hW
  have hA : DataW.TrodAll enc Try.prog W 0 (fun _ => true) true Try.f3.params.toList args.toList ds p := hA0
  rw [Try.params3] at hA hval
  obtain ⟨v0, vs0, d0, ds0, p0, q0, hargs, rfl, rfl, h0, r0⟩ := trodAll_cons hA
  obtain ⟨rfl, rfl, rfl⟩ := trodAll_nil r0
  obtain rfl : args = #[v0] := by cases args; simp_all
  obtain ⟨rfl, rfl⟩ := trodVars_none hV
  have k0 := h0
  have lt0 : ∀ x ∈ p0, x.block < W.heap.size := by obtain ⟨m, hm⟩ := k0; exact DataW.trod_lt m _ _ _ hm
  obtain ⟨x0, rfl, w0⟩ := open_Ms15 (hval 0 24 v0 rfl rfl) h0
  clear hA0 hval0
  refine (walk x0 W w0).mono fun e W' ⟨he, bel⟩ => ?_
  subst he
  exact ⟨_, rfl, _, _, _, [], _, [], hW', trodAll_mk1 (shut_bool Try.underlying4 _), (trodAll_cons_mk (Below.trod laidOut (by kernel_rfl) (of_decide_eq_true (by kernel_rfl)) k0 bel lt0) trodAll_mk0), rfl, bel.frame _, fun h => by cases h⟩

theorem over : Rows.msgBackRow.holds Try.pinned (OpenSpec.ofChange Rows.msgBackSpec) :=
  OpenClaim.holds_of_wide 3 Try.f3 rfl rfl rfl rfl rfl rfl rfl ⟨rfl, rfl, rfl, rfl, rfl⟩ rfl rfl rfl rfl rfl (by kernel_rfl) Try.func3 (by kernel_rfl)
    (of_decide_eq_true (by kernel_rfl)) (by unfold Func.isWrapper; first | (rw [if_pos (by decide +kernel)]; kernel_rfl) | (rw [if_neg (by decide +kernel)]; exact ⟨rfl, rfl⟩))
    (fun os started H enc _ => lifted os started H enc)

/-- ████ THE STATEMENT ████ -/
theorem proved : Rows.MsgBackSaid := over
#print axioms proved
end Go.Proofs.Ytobogkilkmnpmaa.msgBack
