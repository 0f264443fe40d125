/-
  Proved: for all messages MsgApart returns true (two right messages have the same bytes just if they are the same; a copy that is turned leaves the other as it was) and nothing that was in memory turns. No condition.
-/
import Derived.Test.YtobogkilkmnpmaaRows
import Derived.WalkKit
import Derived.ProofKit
import Derived.OpenShut
import Derived.ShutString
import Derived.ChangeOld
import Derived.Below
import Derived.Test.YtobogkilkmnpmaaMsRow15
import Derived.Test.YtobogkilkmnpmaaMsRow15
import Derived.Test.YtobogkilkmnpmaaTurn15
import Derived.Deep.CutRange
namespace Go.Proofs.Ytobogkilkmnpmaa.msgApart
open Go.ChangeShapes Go.WideShapes Go.ChangeAt Go.RowKit
open Go.ChangeMaps (open_string shut_string)
set_option linter.unusedVariables false

theorem own : ownKnob Try.prog.godebug = none := by kernel_rfl
theorem laidOut : laidOutB Try.prog = true := by kernel_rfl

set_option maxHeartbeats 12800000 in
set_option maxRecDepth 100000 in
theorem walk (x0 : Ms15) (x1 : Ms15) (w : World) (h0 : Ms15.In w x0) (h1 : Ms15.In w x1) :
    Calls Try.prog 5 #[.agg #[.int .i64 x0.kind, .int .i64 x0.n0, .int .i64 x0.n1, .int .i64 x0.n2, .int .i64 x0.n3, .int .i64 x0.n4, .int .i64 x0.n5, .int .i64 x0.n6, .slice x0.li.a x0.li.n x0.li.cap], .agg #[.int .i64 x1.kind, .int .i64 x1.n0, .int .i64 x1.n1, .int .i64 x1.n2, .int .i64 x1.n3, .int .i64 x1.n4, .int .i64 x1.n5, .int .i64 x1.n6, .slice x1.li.a x1.li.n x1.li.cap]] w fun e w' => e = .returned (.bool true) ∧ Below w.heap.size w w' := by
  have X := (ms_box x0 w).alloc (.cells #[.int .i64 x1.kind, .int .i64 x1.n0, .int .i64 x1.n1, .int .i64 x1.n2, .int .i64 x1.n3, .int .i64 x1.n4, .int .i64 x1.n5, .int .i64 x1.n6, .slice x1.li.a x1.li.n x1.li.cap] 24)
  have B : Box ((w.alloc (.cells #[.int .i64 x0.kind, .int .i64 x0.n0, .int .i64 x0.n1, .int .i64 x0.n2, .int .i64 x0.n3, .int .i64 x0.n4, .int .i64 x0.n5, .int .i64 x0.n6, .slice x0.li.a x0.li.n x0.li.cap] 24)).alloc (.cells #[.int .i64 x1.kind, .int .i64 x1.n0, .int .i64 x1.n1, .int .i64 x1.n2, .int .i64 x1.n3, .int .i64 x1.n4, .int .i64 x1.n5, .int .i64 x1.n6, .slice x1.li.a x1.li.n x1.li.cap] 24)) (w.heap.size + 1) 24 x1.cells.toArray := box_at (World.size_alloc _ _).symm _ _
  have hB1 : Below w.heap.size w ((w.alloc (.cells #[.int .i64 x0.kind, .int .i64 x0.n0, .int .i64 x0.n1, .int .i64 x0.n2, .int .i64 x0.n3, .int .i64 x0.n4, .int .i64 x0.n5, .int .i64 x0.n6, .slice x0.li.a x0.li.n x0.li.cap] 24)).alloc (.cells #[.int .i64 x1.kind, .int .i64 x1.n0, .int .i64 x1.n1, .int .i64 x1.n2, .int .i64 x1.n3, .int .i64 x1.n4, .int .i64 x1.n5, .int .i64 x1.n6, .slice x1.li.a x1.li.n x1.li.cap] 24)) := ((Below.refl _ _).alloc (Nat.le_refl _) _).alloc (by simp) _
  have HI := Lib.hid h0
  have HJ := Lib.hid h1
  have hl0 : x0.li.n ≤ 9223372036854775807 := h0.li.1.2.1
  have hl1 : x1.li.n ≤ 9223372036854775807 := h1.li.1.2.1
  clear h0 h1
  have hbig : decide ((1000 : Int) < (x0.li.n : Int)) = decide (1000 < x0.li.n) := by congr 1; simp; omega
  by_cases h5 : 1000 < x0.li.n ∨ 1000 < x1.li.n
  · go_enter Try.func5, Try.ntmps5
    go_upto_region 1 with fail
    generalize ((w.alloc (.cells #[.int .i64 x0.kind, .int .i64 x0.n0, .int .i64 x0.n1, .int .i64 x0.n2, .int .i64 x0.n3, .int .i64 x0.n4, .int .i64 x0.n5, .int .i64 x0.n6, .slice x0.li.a x0.li.n x0.li.cap] 24)).alloc (.cells #[.int .i64 x1.kind, .int .i64 x1.n0, .int .i64 x1.n1, .int .i64 x1.n2, .int .i64 x1.n3, .int .i64 x1.n4, .int .i64 x1.n5, .int .i64 x1.n6, .slice x1.li.a x1.li.n x1.li.cap] 24)) = w1 at X B hB1 ⊢
    have HX := Lib.hid X
    have HBx := Lib.hid B
    have HB1 := Lib.hid hB1
    clear X B hB1 hbig
    rcases Classical.em (1000 < x0.li.n) with h6 | h6
    · have h6' : (1000 : Int) < (x0.li.n : Int) := by omega
      clear h5 h6
      go_wp2_with fail
      refine (awake15 _).mono ?_
      rintro e w2 ⟨rfl, hb2⟩
      have a8 : w2.cell? ⟨w.heap.size, 8, none⟩ = some (.slice x0.li.a x0.li.n x0.li.cap) := (HX.out.bel hb2).cell 8
      have HB2 := Lib.hid (below_two HB1.out hb2)
      clear hb2
      go_wp2_with fail
      refine (awake15 _).mono ?_
      rintro e w3 ⟨rfl, hb3⟩
      have HB3 := Lib.hid (below_two HB2.out hb3)
      clear hb3
      go_wp2_with fail
      go_ret
      exact ⟨rfl, HB3.out⟩
    · have h6' : ¬ (1000 : Int) < (x0.li.n : Int) := by omega
      have h7' : (1000 : Int) < (x1.li.n : Int) := by omega
      clear h5 h6
      go_wp2_with fail
      refine (awake15 _).mono ?_
      rintro e w2 ⟨rfl, hb2⟩
      have a8 : w2.cell? ⟨w.heap.size, 8, none⟩ = some (.slice x0.li.a x0.li.n x0.li.cap) := (HX.out.bel hb2).cell 8
      have b8 : w2.cell? ⟨w.heap.size + 1, 8, none⟩ = some (.slice x1.li.a x1.li.n x1.li.cap) := (HBx.out.bel hb2).cell 8
      have HB2 := Lib.hid (below_two HB1.out hb2)
      clear hb2
      go_wp2_with fail
      refine (awake15 _).mono ?_
      rintro e w3 ⟨rfl, hb3⟩
      have HB3 := Lib.hid (below_two HB2.out hb3)
      clear hb3
      go_wp2_with fail
      go_ret
      exact ⟨rfl, HB3.out⟩
  · have h6' : ¬ (1000 : Int) < (x0.li.n : Int) := by omega
    have h7' : ¬ (1000 : Int) < (x1.li.n : Int) := by omega
    have HN5 : Hid (x0.li.n ≤ 65536) := Lib.hid (by omega)
    clear h5 hbig
    obtain ⟨ab, hab⟩ : ∃ ab, w.heap.size = ab := ⟨_, rfl⟩
    go_enter Try.func5, Try.ntmps5
    go_upto_region 1 with fail
    generalize ((w.alloc (.cells #[.int .i64 x0.kind, .int .i64 x0.n0, .int .i64 x0.n1, .int .i64 x0.n2, .int .i64 x0.n3, .int .i64 x0.n4, .int .i64 x0.n5, .int .i64 x0.n6, .slice x0.li.a x0.li.n x0.li.cap] 24)).alloc (.cells #[.int .i64 x1.kind, .int .i64 x1.n0, .int .i64 x1.n1, .int .i64 x1.n2, .int .i64 x1.n3, .int .i64 x1.n4, .int .i64 x1.n5, .int .i64 x1.n6, .slice x1.li.a x1.li.n x1.li.cap] 24)) = w1 at X B hB1 ⊢
    obtain ⟨bb, hbb⟩ : ∃ bb, ab + 1 = bb := ⟨_, rfl⟩
    rw [hab] at X B
    rw [hbb] at B ⊢
    have HX := Lib.hid X
    have HBx := Lib.hid B
    have HB1 := Lib.hid hB1
    have HAB := Lib.hid hab
    clear X B hB1 hbb hab
    go_wp2_with fail
    refine (awake15 _).mono ?_
    rintro e w2 ⟨rfl, hb2⟩
    have X2 := HX.out.bel hb2
    have B2 := HBx.out.bel hb2
    have a0 : w2.cell? ⟨ab, 0, none⟩ = some (.int .i64 x0.kind) := X2.cell 0
    have a1 : w2.cell? ⟨ab, 1, none⟩ = some (.int .i64 x0.n0) := X2.cell 1
    have a2 : w2.cell? ⟨ab, 2, none⟩ = some (.int .i64 x0.n1) := X2.cell 2
    have a3 : w2.cell? ⟨ab, 3, none⟩ = some (.int .i64 x0.n2) := X2.cell 3
    have a4 : w2.cell? ⟨ab, 4, none⟩ = some (.int .i64 x0.n3) := X2.cell 4
    have a5 : w2.cell? ⟨ab, 5, none⟩ = some (.int .i64 x0.n4) := X2.cell 5
    have a6 : w2.cell? ⟨ab, 6, none⟩ = some (.int .i64 x0.n5) := X2.cell 6
    have a7 : w2.cell? ⟨ab, 7, none⟩ = some (.int .i64 x0.n6) := X2.cell 7
    have a8 : w2.cell? ⟨ab, 8, none⟩ = some (.slice x0.li.a x0.li.n x0.li.cap) := X2.cell 8
    have b0 : w2.cell? ⟨bb, 0, none⟩ = some (.int .i64 x1.kind) := B2.cell 0
    have b1 : w2.cell? ⟨bb, 1, none⟩ = some (.int .i64 x1.n0) := B2.cell 1
    have b2 : w2.cell? ⟨bb, 2, none⟩ = some (.int .i64 x1.n1) := B2.cell 2
    have b3 : w2.cell? ⟨bb, 3, none⟩ = some (.int .i64 x1.n2) := B2.cell 3
    have b4 : w2.cell? ⟨bb, 4, none⟩ = some (.int .i64 x1.n3) := B2.cell 4
    have b5 : w2.cell? ⟨bb, 5, none⟩ = some (.int .i64 x1.n4) := B2.cell 5
    have b6 : w2.cell? ⟨bb, 6, none⟩ = some (.int .i64 x1.n5) := B2.cell 6
    have b7 : w2.cell? ⟨bb, 7, none⟩ = some (.int .i64 x1.n6) := B2.cell 7
    have b8 : w2.cell? ⟨bb, 8, none⟩ = some (.slice x1.li.a x1.li.n x1.li.cap) := B2.cell 8
    have HX2 := Lib.hid X2
    have HBx2 := Lib.hid B2
    have HB2 := Lib.hid (below_two HB1.out hb2)
    have S1 := dsame15 x0 x1 w2 (HI.out.below HB2.out) (HJ.out.below HB2.out)
    obtain ⟨s, hs⟩ : ∃ s, sameM x0 x1 = s := ⟨_, rfl⟩
    rw [hs] at S1
    have HSM := Lib.hid hs
    clear hb2 X2 B2 hs
    go_wp2_with fail
    refine S1.mono ?_
    rintro e w3 ⟨rfl, hb3⟩
    clear a0 a1 a2 a3 a4 a5 a6 a7 a8 b0 b1 b2 b3 b4 b5 b6 b7 b8
    have X3 := HX2.out.bel hb3
    have B3 := HBx2.out.bel hb3
    have a0 : w3.cell? ⟨ab, 0, none⟩ = some (.int .i64 x0.kind) := X3.cell 0
    have a1 : w3.cell? ⟨ab, 1, none⟩ = some (.int .i64 x0.n0) := X3.cell 1
    have a2 : w3.cell? ⟨ab, 2, none⟩ = some (.int .i64 x0.n1) := X3.cell 2
    have a3 : w3.cell? ⟨ab, 3, none⟩ = some (.int .i64 x0.n2) := X3.cell 3
    have a4 : w3.cell? ⟨ab, 4, none⟩ = some (.int .i64 x0.n3) := X3.cell 4
    have a5 : w3.cell? ⟨ab, 5, none⟩ = some (.int .i64 x0.n4) := X3.cell 5
    have a6 : w3.cell? ⟨ab, 6, none⟩ = some (.int .i64 x0.n5) := X3.cell 6
    have a7 : w3.cell? ⟨ab, 7, none⟩ = some (.int .i64 x0.n6) := X3.cell 7
    have a8 : w3.cell? ⟨ab, 8, none⟩ = some (.slice x0.li.a x0.li.n x0.li.cap) := X3.cell 8
    have b0 : w3.cell? ⟨bb, 0, none⟩ = some (.int .i64 x1.kind) := B3.cell 0
    have b1 : w3.cell? ⟨bb, 1, none⟩ = some (.int .i64 x1.n0) := B3.cell 1
    have b2 : w3.cell? ⟨bb, 2, none⟩ = some (.int .i64 x1.n1) := B3.cell 2
    have b3 : w3.cell? ⟨bb, 3, none⟩ = some (.int .i64 x1.n2) := B3.cell 3
    have b4 : w3.cell? ⟨bb, 4, none⟩ = some (.int .i64 x1.n3) := B3.cell 4
    have b5 : w3.cell? ⟨bb, 5, none⟩ = some (.int .i64 x1.n4) := B3.cell 5
    have b6 : w3.cell? ⟨bb, 6, none⟩ = some (.int .i64 x1.n5) := B3.cell 6
    have b7 : w3.cell? ⟨bb, 7, none⟩ = some (.int .i64 x1.n6) := B3.cell 7
    have b8 : w3.cell? ⟨bb, 8, none⟩ = some (.slice x1.li.a x1.li.n x1.li.cap) := B3.cell 8
    have HX3 := Lib.hid X3
    have HBx3 := Lib.hid B3
    have HB3 := Lib.hid (below_two HB2.out hb3)
    have S2 := msame15 x0 x1 w3 (HI.out.below HB3.out) (HJ.out.below HB3.out)
    rw [HSM.out] at S2
    clear S1 hb3 X3 B3
    go_wp2_with fail
    refine S2.mono ?_
    rintro e w4 ⟨rfl, hb4⟩
    clear a0 a1 a2 a3 a4 a5 a6 a7 a8 b0 b1 b2 b3 b4 b5 b6 b7 b8
    have X4 := HX3.out.bel hb4
    have B4 := HBx3.out.bel hb4
    have a0 : w4.cell? ⟨ab, 0, none⟩ = some (.int .i64 x0.kind) := X4.cell 0
    have a1 : w4.cell? ⟨ab, 1, none⟩ = some (.int .i64 x0.n0) := X4.cell 1
    have a2 : w4.cell? ⟨ab, 2, none⟩ = some (.int .i64 x0.n1) := X4.cell 2
    have a3 : w4.cell? ⟨ab, 3, none⟩ = some (.int .i64 x0.n2) := X4.cell 3
    have a4 : w4.cell? ⟨ab, 4, none⟩ = some (.int .i64 x0.n3) := X4.cell 4
    have a5 : w4.cell? ⟨ab, 5, none⟩ = some (.int .i64 x0.n4) := X4.cell 5
    have a6 : w4.cell? ⟨ab, 6, none⟩ = some (.int .i64 x0.n5) := X4.cell 6
    have a7 : w4.cell? ⟨ab, 7, none⟩ = some (.int .i64 x0.n6) := X4.cell 7
    have a8 : w4.cell? ⟨ab, 8, none⟩ = some (.slice x0.li.a x0.li.n x0.li.cap) := X4.cell 8
    have b0 : w4.cell? ⟨bb, 0, none⟩ = some (.int .i64 x1.kind) := B4.cell 0
    have b1 : w4.cell? ⟨bb, 1, none⟩ = some (.int .i64 x1.n0) := B4.cell 1
    have b2 : w4.cell? ⟨bb, 2, none⟩ = some (.int .i64 x1.n1) := B4.cell 2
    have b3 : w4.cell? ⟨bb, 3, none⟩ = some (.int .i64 x1.n2) := B4.cell 3
    have b4 : w4.cell? ⟨bb, 4, none⟩ = some (.int .i64 x1.n3) := B4.cell 4
    have b5 : w4.cell? ⟨bb, 5, none⟩ = some (.int .i64 x1.n4) := B4.cell 5
    have b6 : w4.cell? ⟨bb, 6, none⟩ = some (.int .i64 x1.n5) := B4.cell 6
    have b7 : w4.cell? ⟨bb, 7, none⟩ = some (.int .i64 x1.n6) := B4.cell 7
    have b8 : w4.cell? ⟨bb, 8, none⟩ = some (.slice x1.li.a x1.li.n x1.li.cap) := B4.cell 8
    have HX4 := Lib.hid X4
    have HBx4 := Lib.hid B4
    have HB4 := Lib.hid (below_two HB3.out hb4)
    have S3 := msame15 x1 x0 w4 (HJ.out.below HB4.out) (HI.out.below HB4.out)
    rw [sameM_symm x1 x0, HSM.out] at S3
    clear S2 hb4 X4 B4
    go_wp2_with fail
    refine S3.mono ?_
    rintro e w5 ⟨rfl, hb5⟩
    clear a0 a1 a2 a3 a4 a5 a6 a7 a8 b0 b1 b2 b3 b4 b5 b6 b7 b8
    have X5 := HX4.out.bel hb5
    have B5 := HBx4.out.bel hb5
    have a0 : w5.cell? ⟨ab, 0, none⟩ = some (.int .i64 x0.kind) := X5.cell 0
    have a1 : w5.cell? ⟨ab, 1, none⟩ = some (.int .i64 x0.n0) := X5.cell 1
    have a2 : w5.cell? ⟨ab, 2, none⟩ = some (.int .i64 x0.n1) := X5.cell 2
    have a3 : w5.cell? ⟨ab, 3, none⟩ = some (.int .i64 x0.n2) := X5.cell 3
    have a4 : w5.cell? ⟨ab, 4, none⟩ = some (.int .i64 x0.n3) := X5.cell 4
    have a5 : w5.cell? ⟨ab, 5, none⟩ = some (.int .i64 x0.n4) := X5.cell 5
    have a6 : w5.cell? ⟨ab, 6, none⟩ = some (.int .i64 x0.n5) := X5.cell 6
    have a7 : w5.cell? ⟨ab, 7, none⟩ = some (.int .i64 x0.n6) := X5.cell 7
    have a8 : w5.cell? ⟨ab, 8, none⟩ = some (.slice x0.li.a x0.li.n x0.li.cap) := X5.cell 8
    have HX5 := Lib.hid X5
    have HBx5 := Lib.hid B5
    have HB5 := Lib.hid (below_two HB4.out hb5)
    have C1 := mclone15 x0 w5 (HI.out.below HB5.out) HN5.out
    clear S3 hb5 X5 B5
    go_wp2_with fail
    refine C1.mono ?_
    rintro e w6 ⟨hce, hb6⟩
    obtain ⟨y, rfl, hcp⟩ := clone_copy (HI.out.below (below_two HB5.out hb6)) hce
    have HX6 := Lib.hid (HX5.out.bel hb6)
    have HBx6 := Lib.hid (HBx5.out.bel hb6)
    have HB6 := Lib.hid (below_two HB5.out hb6)
    have HCP := Lib.hid hcp
    obtain ⟨cb, hcb⟩ : ∃ cb, w6.heap.size = cb := ⟨_, rfl⟩
    have hsz := HB5.out.size
    have HSZ := Lib.hid hsz
    clear C1 hb6 hce hcp a0 a1 a2 a3 a4 a5 a6 a7 a8 hsz
    go_upto_region 8 with fail
    have C7 : Box (w6.alloc (.cells #[.int .i64 y.kind, .int .i64 y.n0, .int .i64 y.n1, .int .i64 y.n2, .int .i64 y.n3, .int .i64 y.n4, .int .i64 y.n5, .int .i64 y.n6, .slice y.li.a y.li.n y.li.cap] 24)) w6.heap.size 24 #[.int .i64 y.kind, .int .i64 y.n0, .int .i64 y.n1, .int .i64 y.n2, .int .i64 y.n3, .int .i64 y.n4, .int .i64 y.n5, .int .i64 y.n6, .slice y.li.a y.li.n y.li.cap] := box_new _ _ _
    have hb7 : Below w6.heap.size w6 (w6.alloc (.cells #[.int .i64 y.kind, .int .i64 y.n0, .int .i64 y.n1, .int .i64 y.n2, .int .i64 y.n3, .int .i64 y.n4, .int .i64 y.n5, .int .i64 y.n6, .slice y.li.a y.li.n y.li.cap] 24)) := (Below.refl _ w6).alloc (Nat.le_refl _) _
    rw [hcb] at C7
    have X7 := HX6.out.bel hb7
    have B7 := HBx6.out.bel hb7
    have hy7 := HCP.out.ok.below hb7
    have ht7 := HCP.out.thaw.bel hb7
    have HB7 := Lib.hid (below_two HB6.out hb7)
    have hT0 : Turn15 w x0 x1 y ab bb cb 0 (w6.alloc (.cells #[.int .i64 y.kind, .int .i64 y.n0, .int .i64 y.n1, .int .i64 y.n2, .int .i64 y.n3, .int .i64 y.n4, .int .i64 y.n5, .int .i64 y.n6, .slice y.li.a y.li.n y.li.cap] 24)) := Turn15.start HB7.out X7 B7 C7 hy7 (fun a ha => Nat.le_trans HSZ.out (HCP.out.new a ha)) ht7
    have HT0 := Lib.hid hT0
    have HYV := Lib.hid HCP.out.v
    have HYN := Lib.hid HCP.out.n
    have HY7 := Lib.hid hy7
    generalize (w6.alloc (.cells #[.int .i64 y.kind, .int .i64 y.n0, .int .i64 y.n1, .int .i64 y.n2, .int .i64 y.n3, .int .i64 y.n4, .int .i64 y.n5, .int .i64 y.n6, .slice y.li.a y.li.n y.li.cap] 24)) = w7 at HT0 HY7 HB7 ⊢
    have hyn : y.li.n ≤ 65536 := by rw [HYN.out]; exact HN5.out
    clear hb7 hcb C7 X7 B7 hy7 ht7 hT0
    go_loopw [7] (fun i' wr => ∃ i : Nat, i ≤ y.li.n ∧ i' = .int .i64 i ∧ Hid (Turn15 w x0 x1 y ab bb cb i wr)) (fun i' _ => y.li.n - (intOf i').toNat)
    case atStart => exact ⟨0, by omega, rfl, HT0⟩
    case round =>
      obtain ⟨i, hi, rfl, hT⟩ := hrel
      have c8 : wr.cell? ⟨cb, 8, none⟩ = some (.slice y.li.a y.li.n y.li.cap) := hT.out.C.cell 8
      by_cases hlt : i < y.li.n
      · obtain ⟨gb, off, v, ha, hc, hf, v1, v2, hst⟩ := hT.out.step hlt
        have hlt2 : (i : Int) < (y.li.n : Int) := by omega
        obtain ⟨z, hz⟩ : ∃ z, wrap32 (v + 1) = z := ⟨_, rfl⟩
        have g1 : IntKind.i32.wrap (v + 1) = z := by rw [← hz, IntKind.wrap_i32]; unfold wrap32; omega
        rw [hz] at hst
        have HST := Lib.hid hst
        rw [ha] at c8
        have g2 : wrap32 (v + 1) = z := hz
        clear hst hz ha v1 v2 hT
        go_wp2_with fail
        go_roundw
        case rel => exact ⟨i + 1, by omega, by go_num, HST⟩
        case measure => simp [intOf]; omega
      · obtain rfl : i = y.li.n := by omega
        obtain ⟨vs, hzin, hzne⟩ := hT.out.fin HY7.out HYV.out
        have hX8 := Lib.hid hT.out.X
        have hB8 := Lib.hid hT.out.B
        have hC8 := Lib.hid hT.out.C
        have hL8 := Lib.hid hT.out.bel
        have HZI := Lib.hid hzin
        have HZE := Lib.hid hzne
        have HIw := Lib.hid (HI.out.below hL8.out)
        clear hT hzin hzne
        go_upto_region 11 with fail
        clear c8
        go_cut [77] from 58 to 77 (fun v wx => v = .bool false ∧ Hid (Below w.heap.size w wx) ∧ Hid (Box wx ab 24 x0.cells.toArray) ∧ Hid (Box wx bb 24 x1.cells.toArray))
        case first =>
          by_cases hn0 : 0 < y.li.n
          · obtain ⟨hz1, hz2⟩ := HZE.out hn0
            obtain ⟨gb, off, v, hga, hgc, hgv, _⟩ := HZI.out.li.1.at_ (show 0 < y.li.n by exact hn0)
            obtain ⟨xb, xoff, u, hxa, hxc, hxu, _⟩ := HIw.out.li.1.at_ (show 0 < x0.li.n by rw [← HYN.out]; exact hn0)
            have hvu : (v == u) = false := by
              rw [beq_eq_false_iff_ne]
              intro e
              exact hz2 (by rw [show vs.getD 0 0 = v by exact hgv.out, hxu.out, e])
            have S4 : Calls Try.prog 13 #[.agg #[.int .i64 x0.kind, .int .i64 x0.n0, .int .i64 x0.n1, .int .i64 x0.n2, .int .i64 x0.n3, .int .i64 x0.n4, .int .i64 x0.n5, .int .i64 x0.n6, .slice x0.li.a x0.li.n x0.li.cap], .agg #[.int .i64 y.kind, .int .i64 y.n0, .int .i64 y.n1, .int .i64 y.n2, .int .i64 y.n3, .int .i64 y.n4, .int .i64 y.n5, .int .i64 y.n6, .slice y.li.a y.li.n y.li.cap]] wr.drew fun e w' => e = .returned (.bool (sameM x0 (withL y ⟨y.li.a, y.li.n, y.li.cap, vs⟩))) ∧ Below wr.drew.heap.size wr.drew w' := msame15 x0 (withL y ⟨y.li.a, y.li.n, y.li.cap, vs⟩) wr.drew (HIw.out.below (Below.refl _ wr).drew) (HZI.out.below (Below.refl _ wr).drew)
            rw [hz1] at S4
            have hga2 : y.li.a = some ⟨gb, off, none⟩ := hga
            rw [Nat.add_zero] at hgc hxc
            have hn0x : 0 < x0.li.n := by rw [← HYN.out]; exact hn0
            have hni : (0 : Int) < (y.li.n : Int) := by omega
            have hnx : (0 : Int) < (x0.li.n : Int) := by omega
            have a0 : wr.cell? ⟨ab, 0, none⟩ = some (.int .i64 x0.kind) := hX8.out.cell 0
            have a1 : wr.cell? ⟨ab, 1, none⟩ = some (.int .i64 x0.n0) := hX8.out.cell 1
            have a2 : wr.cell? ⟨ab, 2, none⟩ = some (.int .i64 x0.n1) := hX8.out.cell 2
            have a3 : wr.cell? ⟨ab, 3, none⟩ = some (.int .i64 x0.n2) := hX8.out.cell 3
            have a4 : wr.cell? ⟨ab, 4, none⟩ = some (.int .i64 x0.n3) := hX8.out.cell 4
            have a5 : wr.cell? ⟨ab, 5, none⟩ = some (.int .i64 x0.n4) := hX8.out.cell 5
            have a6 : wr.cell? ⟨ab, 6, none⟩ = some (.int .i64 x0.n5) := hX8.out.cell 6
            have a7 : wr.cell? ⟨ab, 7, none⟩ = some (.int .i64 x0.n6) := hX8.out.cell 7
            have a8 : wr.cell? ⟨ab, 8, none⟩ = some (.slice x0.li.a x0.li.n x0.li.cap) := hX8.out.cell 8
            have c0 : wr.cell? ⟨cb, 0, none⟩ = some (.int .i64 y.kind) := hC8.out.cell 0
            have c1 : wr.cell? ⟨cb, 1, none⟩ = some (.int .i64 y.n0) := hC8.out.cell 1
            have c2 : wr.cell? ⟨cb, 2, none⟩ = some (.int .i64 y.n1) := hC8.out.cell 2
            have c3 : wr.cell? ⟨cb, 3, none⟩ = some (.int .i64 y.n2) := hC8.out.cell 3
            have c4 : wr.cell? ⟨cb, 4, none⟩ = some (.int .i64 y.n3) := hC8.out.cell 4
            have c5 : wr.cell? ⟨cb, 5, none⟩ = some (.int .i64 y.n4) := hC8.out.cell 5
            have c6 : wr.cell? ⟨cb, 6, none⟩ = some (.int .i64 y.n5) := hC8.out.cell 6
            have c7 : wr.cell? ⟨cb, 7, none⟩ = some (.int .i64 y.n6) := hC8.out.cell 7
            have c8 : wr.cell? ⟨cb, 8, none⟩ = some (.slice y.li.a y.li.n y.li.cap) := hC8.out.cell 8
            obtain ⟨yn, hyn2⟩ : ∃ yn, y.li.n = yn := ⟨_, rfl⟩
            rw [hga2] at c8 S4
            rw [hxa] at a8 S4
            have hbr : Below wr.heap.size wr wr.drew := (Below.refl _ wr).drew
            clear hz1 hz2 hgv hxu hga hxa hga2 hyn2
            refine wp_region_held_drew (S := (fun V => V.cell? ⟨ab, 0, none⟩ = some (.int .i64 x0.kind) ∧ V.cell? ⟨ab, 1, none⟩ = some (.int .i64 x0.n0) ∧ V.cell? ⟨ab, 2, none⟩ = some (.int .i64 x0.n1) ∧ V.cell? ⟨ab, 3, none⟩ = some (.int .i64 x0.n2) ∧ V.cell? ⟨ab, 4, none⟩ = some (.int .i64 x0.n3) ∧ V.cell? ⟨ab, 5, none⟩ = some (.int .i64 x0.n4) ∧ V.cell? ⟨ab, 6, none⟩ = some (.int .i64 x0.n5) ∧ V.cell? ⟨ab, 7, none⟩ = some (.int .i64 x0.n6) ∧ V.cell? ⟨ab, 8, none⟩ = some (.slice (some ⟨xb, xoff, none⟩) x0.li.n x0.li.cap) ∧ V.cell? ⟨cb, 0, none⟩ = some (.int .i64 y.kind) ∧ V.cell? ⟨cb, 1, none⟩ = some (.int .i64 y.n0) ∧ V.cell? ⟨cb, 2, none⟩ = some (.int .i64 y.n1) ∧ V.cell? ⟨cb, 3, none⟩ = some (.int .i64 y.n2) ∧ V.cell? ⟨cb, 4, none⟩ = some (.int .i64 y.n3) ∧ V.cell? ⟨cb, 5, none⟩ = some (.int .i64 y.n4) ∧ V.cell? ⟨cb, 6, none⟩ = some (.int .i64 y.n5) ∧ V.cell? ⟨cb, 7, none⟩ = some (.int .i64 y.n6) ∧ V.cell? ⟨cb, 8, none⟩ = some (.slice (some ⟨gb, off, none⟩) y.li.n y.li.cap) ∧ V.cell? ⟨gb, off, none⟩ = some (.int .i32 v) ∧ V.cell? ⟨xb, xoff, none⟩ = some (.int .i32 u))) (by kernel_rfl) ?_ (fun hHeld => ?_)
            · (first | go_keep | (go_split_ands; refine ⟨?_, ?_, ?_, ?_, ?_, ?_, ?_, ?_, ?_, ?_, ?_, ?_, ?_, ?_, ?_, ?_, ?_, ?_, ?_, ?_⟩ <;> assumption))
            refine wpAnyH_take (i := 0) (oi := ⟨some 58, _, _, _, _, _⟩) (v := ?_) rfl (by kernel_rfl) (by kernel_rfl) (by kernel_rfl) (fun _ _ _ h => h) (Or.inl ⟨by rfl, ?hy1⟩) hHeld ?rest1
            case hy1 => (intro W hSw; (try dsimp only at hSw); go_simp; (try with_reducible rfl))
            simp only [Act.put, List.setIfInBounds_toArray, List.set_cons_zero, List.set_cons_succ]
            refine wpAnyH_take (i := 1) (oi := ⟨some 59, _, _, _, _, _⟩) (v := ?_) rfl (by kernel_rfl) (by kernel_rfl) (by kernel_rfl) (fun _ _ _ h => h) (Or.inl ⟨by rfl, ?hy2⟩) hHeld ?rest2
            case hy2 => (intro W hSw; (try dsimp only at hSw); go_simp; (try with_reducible rfl))
            simp only [Act.put, List.setIfInBounds_toArray, List.set_cons_zero, List.set_cons_succ]
            refine wpAnyH_take (i := 2) (oi := ⟨some 60, _, _, _, _, _⟩) (v := ?_) rfl (by kernel_rfl) (by kernel_rfl) (by kernel_rfl) (fun _ _ _ h => h) (Or.inl ⟨by rfl, ?hy3⟩) hHeld ?rest3
            case hy3 => (intro W hSw; (try dsimp only at hSw); go_simp; (try with_reducible rfl))
            simp only [Act.put, List.setIfInBounds_toArray, List.set_cons_zero, List.set_cons_succ]
            refine wpAnyH_take (i := 3) (oi := ⟨some 61, _, _, _, _, _⟩) (v := ?_) rfl (by kernel_rfl) (by kernel_rfl) (by kernel_rfl) (fun _ _ _ h => h) (Or.inl ⟨by rfl, ?hy4⟩) hHeld ?rest4
            case hy4 => (intro W hSw; (try dsimp only at hSw); go_simp; (try with_reducible rfl))
            simp only [Act.put, List.setIfInBounds_toArray, List.set_cons_zero, List.set_cons_succ]
            refine wpAnyH_take (i := 4) (oi := ⟨some 62, _, _, _, _, _⟩) (v := ?_) rfl (by kernel_rfl) (by kernel_rfl) (by kernel_rfl) (fun _ _ _ h => h) (Or.inl ⟨by rfl, ?hy5⟩) hHeld ?rest5
            case hy5 => (intro W hSw; (try dsimp only at hSw); go_simp; (try with_reducible rfl))
            simp only [Act.put, List.setIfInBounds_toArray, List.set_cons_zero, List.set_cons_succ]
            refine wpAnyH_take (i := 5) (oi := ⟨some 63, _, _, _, _, _⟩) (v := ?_) rfl (by kernel_rfl) (by kernel_rfl) (by kernel_rfl) (fun _ _ _ h => h) (Or.inl ⟨by rfl, ?hy6⟩) hHeld ?rest6
            case hy6 => (intro W hSw; (try dsimp only at hSw); go_simp; (try with_reducible rfl))
            simp only [Act.put, List.setIfInBounds_toArray, List.set_cons_zero, List.set_cons_succ]
            refine wpAnyH_take (i := 6) (oi := ⟨some 64, _, _, _, _, _⟩) (v := ?_) rfl (by kernel_rfl) (by kernel_rfl) (by kernel_rfl) (fun _ _ _ h => h) (Or.inl ⟨by rfl, ?hy7⟩) hHeld ?rest7
            case hy7 => (intro W hSw; (try dsimp only at hSw); go_simp; (try with_reducible rfl))
            simp only [Act.put, List.setIfInBounds_toArray, List.set_cons_zero, List.set_cons_succ]
            refine wpAnyH_ready (rs := [7]) (by kernel_rfl) (by simp) ?_
            refine AllReadyH.cons (o := ⟨some 65, _, _, _, _, _⟩) rfl (fun K hK => ?_) AllReadyH.nil
            go_simp
            go_at_call 13
            refine S4.mono ?_
            rintro e wb ⟨rfl, hbb⟩
            have hbr2 := below_two hbr hbb
            have j0 := cell_keep a0 hbr2
            have j1 := cell_keep a1 hbr2
            have j2 := cell_keep a2 hbr2
            have j3 := cell_keep a3 hbr2
            have j4 := cell_keep a4 hbr2
            have j5 := cell_keep a5 hbr2
            have j6 := cell_keep a6 hbr2
            have j7 := cell_keep a7 hbr2
            have j8 := cell_keep a8 hbr2
            have k0 := cell_keep c0 hbr2
            have k1 := cell_keep c1 hbr2
            have k2 := cell_keep c2 hbr2
            have k3 := cell_keep c3 hbr2
            have k4 := cell_keep c4 hbr2
            have k5 := cell_keep c5 hbr2
            have k6 := cell_keep c6 hbr2
            have k7 := cell_keep c7 hbr2
            have k8 := cell_keep c8 hbr2
            have jg := cell_keep hgc hbr2
            have jx := cell_keep hxc hbr2
            (try go_wp2_with fail)
            refine hK.out _ _ ?_ (fun hNew => ?_)
            · (first | exact True.intro | ((try dsimp only); (first | go_keep | (go_split_ands; refine ⟨?_, ?_, ?_, ?_, ?_, ?_, ?_, ?_, ?_, ?_, ?_, ?_, ?_, ?_, ?_, ?_, ?_, ?_, ?_, ?_⟩ <;> assumption))))
            clear hK K hHeld
            have hHeld := hNew
            clear hNew
            try simp only [Act.put, List.setIfInBounds_toArray, List.set_cons_zero, List.set_cons_succ]
            refine wpAnyH_take (i := 8) (oi := ⟨some 66, _, _, _, _, _⟩) (v := ?_) rfl (by kernel_rfl) (by kernel_rfl) (by kernel_rfl) (fun _ _ _ h => h) (Or.inl ⟨by rfl, ?hy9⟩) hHeld ?rest9
            case hy9 => (intro W hSw; (try dsimp only at hSw); go_simp; (try with_reducible rfl))
            simp only [Act.put, List.setIfInBounds_toArray, List.set_cons_zero, List.set_cons_succ]
            refine wpAnyH_take (i := 9) (oi := ⟨some 67, _, _, _, _, _⟩) (v := ?_) rfl (by kernel_rfl) (by kernel_rfl) (by kernel_rfl) (fun _ _ _ h => h) (Or.inl ⟨by rfl, ?hy10⟩) hHeld ?rest10
            case hy10 => (intro W hSw; (try dsimp only at hSw); go_simp; (try with_reducible rfl))
            simp only [Act.put, List.setIfInBounds_toArray, List.set_cons_zero, List.set_cons_succ]
            refine wpAnyH_take (i := 10) (oi := ⟨some 68, _, _, _, _, _⟩) (v := ?_) rfl (by kernel_rfl) (by kernel_rfl) (by kernel_rfl) (fun _ _ _ h => h) (Or.inl ⟨by rfl, ?hy11⟩) hHeld ?rest11
            case hy11 => (intro W hSw; (try dsimp only at hSw); go_simp; (try with_reducible rfl))
            simp only [Act.put, List.setIfInBounds_toArray, List.set_cons_zero, List.set_cons_succ]
            refine wpAnyH_take (i := 11) (oi := ⟨some 69, _, _, _, _, _⟩) (v := ?_) rfl (by kernel_rfl) (by kernel_rfl) (by kernel_rfl) (fun _ _ _ h => h) (Or.inl ⟨by rfl, ?hy12⟩) hHeld ?rest12
            case hy12 => (intro W hSw; (try dsimp only at hSw); go_simp; (try with_reducible rfl))
            simp only [Act.put, List.setIfInBounds_toArray, List.set_cons_zero, List.set_cons_succ]
            refine wpAnyH_take (i := 12) (oi := ⟨some 70, _, _, _, _, _⟩) (v := ?_) rfl (by kernel_rfl) (by kernel_rfl) (by kernel_rfl) (fun _ _ _ h => h) (Or.inl ⟨by rfl, ?hy13⟩) hHeld ?rest13
            case hy13 => (intro W hSw; (try dsimp only at hSw); go_simp; (try with_reducible rfl))
            simp only [Act.put, List.setIfInBounds_toArray, List.set_cons_zero, List.set_cons_succ]
            refine wpAnyH_take (i := 13) (oi := ⟨some 71, _, _, _, _, _⟩) (v := ?_) rfl (by kernel_rfl) (by kernel_rfl) (by kernel_rfl) (fun _ _ _ h => h) (Or.inl ⟨by rfl, ?hy14⟩) hHeld ?rest14
            case hy14 => (intro W hSw; (try dsimp only at hSw); go_simp; (try with_reducible rfl))
            simp only [Act.put, List.setIfInBounds_toArray, List.set_cons_zero, List.set_cons_succ]
            refine wpAnyH_take (i := 14) (oi := ⟨some 72, _, _, _, _, _⟩) (v := ?_) rfl (by kernel_rfl) (by kernel_rfl) (by kernel_rfl) (fun _ _ _ h => h) (Or.inl ⟨by rfl, ?hy15⟩) hHeld ?rest15
            case hy15 => (intro W hSw; (try dsimp only at hSw); go_simp; (try with_reducible rfl))
            simp only [Act.put, List.setIfInBounds_toArray, List.set_cons_zero, List.set_cons_succ]
            refine wpAnyH_take (i := 15) (oi := ⟨some 73, _, _, _, _, _⟩) (v := ?_) rfl (by kernel_rfl) (by kernel_rfl) (by kernel_rfl) (fun _ _ _ h => h) (Or.inl ⟨by rfl, ?hy16⟩) hHeld ?rest16
            case hy16 => (intro W hSw; (try dsimp only at hSw); go_simp; (try with_reducible rfl))
            simp only [Act.put, List.setIfInBounds_toArray, List.set_cons_zero, List.set_cons_succ]
            refine wpAnyH_take (i := 16) (oi := ⟨some 74, _, _, _, _, _⟩) (v := ?_) rfl (by kernel_rfl) (by kernel_rfl) (by kernel_rfl) (fun _ _ _ h => h) (Or.inl ⟨by rfl, ?hy17⟩) hHeld ?rest17
            case hy17 => (intro W hSw; (try dsimp only at hSw); go_simp; (try with_reducible rfl))
            simp only [Act.put, List.setIfInBounds_toArray, List.set_cons_zero, List.set_cons_succ]
            refine wpAnyH_take (i := 17) (oi := ⟨some 75, _, _, _, _, _⟩) (v := ?_) rfl (by kernel_rfl) (by kernel_rfl) (by kernel_rfl) (fun _ _ _ h => h) (Or.inl ⟨by rfl, ?hy18⟩) hHeld ?rest18
            case hy18 => (intro W hSw; (try dsimp only at hSw); go_simp; (try with_reducible rfl))
            simp only [Act.put, List.setIfInBounds_toArray, List.set_cons_zero, List.set_cons_succ]
            refine wpAnyH_take (i := 18) (oi := ⟨some 76, _, _, _, _, _⟩) (v := ?_) rfl (by kernel_rfl) (by kernel_rfl) (by kernel_rfl) (fun _ _ _ h => h) (Or.inl ⟨by rfl, ?hy19⟩) hHeld ?rest19
            case hy19 => (intro W hSw; (try dsimp only at hSw); go_simp; (try with_reducible rfl))
            simp only [Act.put, List.setIfInBounds_toArray, List.set_cons_zero, List.set_cons_succ]
            refine wpAnyH_take (i := 19) (oi := ⟨some 77, _, _, _, _, _⟩) (v := ?_) rfl (by kernel_rfl) (by kernel_rfl) (by kernel_rfl) (fun _ _ _ h => h) (Or.inl ⟨by rfl, ?hy20⟩) hHeld ?rest20
            case hy20 => (intro W hSw; (try dsimp only at hSw); go_simp; (try with_reducible rfl))
            simp only [Act.put, List.setIfInBounds_toArray, List.set_cons_zero, List.set_cons_succ]
            refine wpAnyH_done (by kernel_rfl) ?_ _
            have hB9 := Lib.hid (hL8.out.trans (hbr2.mono hL8.out.size))
            have hX9 := Lib.hid (hX8.out.bel hbr2)
            have hBx9 := Lib.hid (hB8.out.bel hbr2)
            go_wp2_with fail
            go_meet
            case rel => exact ⟨by simp, hB9, hX9, hBx9⟩
          · have hni : ¬ (0 : Int) < (y.li.n : Int) := by omega
            have hnd : decide ((0 : Int) < (y.li.n : Int)) = false := decide_eq_false hni
            have hyn0 : y.li.n = 0 := by omega
            have HY0 := Lib.hid hyn0
            have hnd2 : decide (0 < y.li.n) = false := decide_eq_false (by omega)
            clear hyn0 hni
            have c8 : wr.cell? ⟨cb, 8, none⟩ = some (.slice y.li.a y.li.n y.li.cap) := hC8.out.cell 8
            clear hn0
            have c8d : wr.drew.cell? ⟨cb, 8, none⟩ = some (.slice y.li.a y.li.n y.li.cap) := c8
            refine wp_region_held_drew (S := (fun V => V.cell? ⟨cb, 8, none⟩ = some (.slice y.li.a y.li.n y.li.cap))) (by kernel_rfl) ?_ (fun hHeld => ?_)
            · (first | assumption | go_keep)
            refine wpAnyH_take (i := 0) (oi := ⟨some 58, _, _, _, _, _⟩) (v := ?_) rfl (by kernel_rfl) (by kernel_rfl) (by kernel_rfl) (fun _ _ _ h => h) (Or.inl ⟨by rfl, ?hy21⟩) hHeld ?rest21
            case hy21 => (intro W hSw; (try dsimp only at hSw); go_simp; (try with_reducible rfl))
            simp only [Act.put, List.setIfInBounds_toArray, List.set_cons_zero, List.set_cons_succ]
            refine wpAnyH_take (i := 1) (oi := ⟨some 59, _, _, _, _, _⟩) (v := ?_) rfl (by kernel_rfl) (by kernel_rfl) (by kernel_rfl) (fun _ _ _ h => h) (Or.inl ⟨by rfl, ?hy22⟩) hHeld ?rest22
            case hy22 => (intro W hSw; (try dsimp only at hSw); go_simp; (try with_reducible rfl))
            simp only [Act.put, List.setIfInBounds_toArray, List.set_cons_zero, List.set_cons_succ]
            refine wpAnyH_take (i := 2) (oi := ⟨some 60, _, _, _, _, _⟩) (v := ?_) rfl (by kernel_rfl) (by kernel_rfl) (by kernel_rfl) (fun _ _ _ h => h) (Or.inl ⟨by rfl, ?hy23⟩) hHeld ?rest23
            case hy23 => (intro W hSw; (try dsimp only at hSw); go_simp; (try with_reducible rfl))
            simp only [Act.put, List.setIfInBounds_toArray, List.set_cons_zero, List.set_cons_succ]
            refine wpAnyH_take (i := 3) (oi := ⟨some 61, _, _, _, _, _⟩) (v := ?_) rfl (by kernel_rfl) (by kernel_rfl) (by kernel_rfl) (fun _ _ _ h => h) (Or.inl ⟨by rfl, ?hy24⟩) hHeld ?rest24
            case hy24 => (intro W hSw; (try dsimp only at hSw); go_simp; (try with_reducible rfl))
            simp only [Act.put, List.setIfInBounds_toArray, List.set_cons_zero, List.set_cons_succ]
            refine wpAnyH_take (i := 4) (oi := ⟨some 62, _, _, _, _, _⟩) (v := ?_) rfl (by kernel_rfl) (by kernel_rfl) (by kernel_rfl) (fun _ _ _ h => h) (Or.inl ⟨by rfl, ?hy25⟩) hHeld ?rest25
            case hy25 => (intro W hSw; (try dsimp only at hSw); go_simp; (try with_reducible rfl))
            simp only [Act.put, List.setIfInBounds_toArray, List.set_cons_zero, List.set_cons_succ]
            refine wpAnyH_take (i := 5) (oi := ⟨some 63, _, _, _, _, _⟩) (v := undef) rfl (by kernel_rfl) (by kernel_rfl) (by kernel_rfl) (fun _ _ _ h => h) (Or.inr ⟨by rfl, rfl⟩) hHeld ?rest26
            simp only [Act.put, List.setIfInBounds_toArray, List.set_cons_zero, List.set_cons_succ]
            refine wpAnyH_take (i := 6) (oi := ⟨some 64, _, _, _, _, _⟩) (v := undef) rfl (by kernel_rfl) (by kernel_rfl) (by kernel_rfl) (fun _ _ _ h => h) (Or.inr ⟨by rfl, rfl⟩) hHeld ?rest27
            simp only [Act.put, List.setIfInBounds_toArray, List.set_cons_zero, List.set_cons_succ]
            refine wpAnyH_take (i := 7) (oi := ⟨some 65, _, _, _, _, _⟩) (v := undef) rfl (by kernel_rfl) (by kernel_rfl) (by kernel_rfl) (fun _ _ _ h => h) (Or.inr ⟨by rfl, rfl⟩) hHeld ?rest28
            simp only [Act.put, List.setIfInBounds_toArray, List.set_cons_zero, List.set_cons_succ]
            refine wpAnyH_take (i := 8) (oi := ⟨some 66, _, _, _, _, _⟩) (v := undef) rfl (by kernel_rfl) (by kernel_rfl) (by kernel_rfl) (fun _ _ _ h => h) (Or.inr ⟨by rfl, rfl⟩) hHeld ?rest29
            simp only [Act.put, List.setIfInBounds_toArray, List.set_cons_zero, List.set_cons_succ]
            refine wpAnyH_take (i := 9) (oi := ⟨some 67, _, _, _, _, _⟩) (v := undef) rfl (by kernel_rfl) (by kernel_rfl) (by kernel_rfl) (fun _ _ _ h => h) (Or.inr ⟨by rfl, rfl⟩) hHeld ?rest30
            simp only [Act.put, List.setIfInBounds_toArray, List.set_cons_zero, List.set_cons_succ]
            refine wpAnyH_take (i := 10) (oi := ⟨some 68, _, _, _, _, _⟩) (v := undef) rfl (by kernel_rfl) (by kernel_rfl) (by kernel_rfl) (fun _ _ _ h => h) (Or.inr ⟨by rfl, rfl⟩) hHeld ?rest31
            simp only [Act.put, List.setIfInBounds_toArray, List.set_cons_zero, List.set_cons_succ]
            refine wpAnyH_take (i := 11) (oi := ⟨some 69, _, _, _, _, _⟩) (v := undef) rfl (by kernel_rfl) (by kernel_rfl) (by kernel_rfl) (fun _ _ _ h => h) (Or.inr ⟨by rfl, rfl⟩) hHeld ?rest32
            simp only [Act.put, List.setIfInBounds_toArray, List.set_cons_zero, List.set_cons_succ]
            refine wpAnyH_take (i := 12) (oi := ⟨some 70, _, _, _, _, _⟩) (v := undef) rfl (by kernel_rfl) (by kernel_rfl) (by kernel_rfl) (fun _ _ _ h => h) (Or.inr ⟨by rfl, rfl⟩) hHeld ?rest33
            simp only [Act.put, List.setIfInBounds_toArray, List.set_cons_zero, List.set_cons_succ]
            refine wpAnyH_take (i := 13) (oi := ⟨some 71, _, _, _, _, _⟩) (v := undef) rfl (by kernel_rfl) (by kernel_rfl) (by kernel_rfl) (fun _ _ _ h => h) (Or.inr ⟨by rfl, rfl⟩) hHeld ?rest34
            simp only [Act.put, List.setIfInBounds_toArray, List.set_cons_zero, List.set_cons_succ]
            refine wpAnyH_take (i := 14) (oi := ⟨some 72, _, _, _, _, _⟩) (v := undef) rfl (by kernel_rfl) (by kernel_rfl) (by kernel_rfl) (fun _ _ _ h => h) (Or.inr ⟨by rfl, rfl⟩) hHeld ?rest35
            simp only [Act.put, List.setIfInBounds_toArray, List.set_cons_zero, List.set_cons_succ]
            refine wpAnyH_take (i := 15) (oi := ⟨some 73, _, _, _, _, _⟩) (v := undef) rfl (by kernel_rfl) (by kernel_rfl) (by kernel_rfl) (fun _ _ _ h => h) (Or.inr ⟨by rfl, rfl⟩) hHeld ?rest36
            simp only [Act.put, List.setIfInBounds_toArray, List.set_cons_zero, List.set_cons_succ]
            refine wpAnyH_take (i := 16) (oi := ⟨some 74, _, _, _, _, _⟩) (v := undef) rfl (by kernel_rfl) (by kernel_rfl) (by kernel_rfl) (fun _ _ _ h => h) (Or.inr ⟨by rfl, rfl⟩) hHeld ?rest37
            simp only [Act.put, List.setIfInBounds_toArray, List.set_cons_zero, List.set_cons_succ]
            refine wpAnyH_take (i := 17) (oi := ⟨some 75, _, _, _, _, _⟩) (v := undef) rfl (by kernel_rfl) (by kernel_rfl) (by kernel_rfl) (fun _ _ _ h => h) (Or.inr ⟨by rfl, rfl⟩) hHeld ?rest38
            simp only [Act.put, List.setIfInBounds_toArray, List.set_cons_zero, List.set_cons_succ]
            refine wpAnyH_take (i := 18) (oi := ⟨some 76, _, _, _, _, _⟩) (v := undef) rfl (by kernel_rfl) (by kernel_rfl) (by kernel_rfl) (fun _ _ _ h => h) (Or.inr ⟨by rfl, rfl⟩) hHeld ?rest39
            simp only [Act.put, List.setIfInBounds_toArray, List.set_cons_zero, List.set_cons_succ]
            refine wpAnyH_take (i := 19) (oi := ⟨some 77, _, _, _, _, _⟩) (v := ?_) rfl (by kernel_rfl) (by kernel_rfl) (by kernel_rfl) (fun _ _ _ h => h) (Or.inl ⟨by rfl, ?hy40⟩) hHeld ?rest40
            case hy40 => (intro W hSw; (try dsimp only at hSw); go_simp; (try with_reducible rfl))
            simp only [Act.put, List.setIfInBounds_toArray, List.set_cons_zero, List.set_cons_succ]
            refine wpAnyH_done (by kernel_rfl) ?_ _
            go_wp2_with fail
            go_meet
            case rel => exact ⟨by simp, Lib.hid hL8.out.drew, Lib.hid hX8.out.drew, Lib.hid hB8.out.drew⟩
        obtain ⟨rfl, hLc, hXc, hBc⟩ := hcut
        clear hX8 hB8 hC8 hL8 HIw HZI HZE
        have X9 := hXc.out
        have a0 : wc.cell? ⟨ab, 0, none⟩ = some (.int .i64 x0.kind) := X9.cell 0
        have a1 : wc.cell? ⟨ab, 1, none⟩ = some (.int .i64 x0.n0) := X9.cell 1
        have a2 : wc.cell? ⟨ab, 2, none⟩ = some (.int .i64 x0.n1) := X9.cell 2
        have a3 : wc.cell? ⟨ab, 3, none⟩ = some (.int .i64 x0.n2) := X9.cell 3
        have a4 : wc.cell? ⟨ab, 4, none⟩ = some (.int .i64 x0.n3) := X9.cell 4
        have a5 : wc.cell? ⟨ab, 5, none⟩ = some (.int .i64 x0.n4) := X9.cell 5
        have a6 : wc.cell? ⟨ab, 6, none⟩ = some (.int .i64 x0.n5) := X9.cell 6
        have a7 : wc.cell? ⟨ab, 7, none⟩ = some (.int .i64 x0.n6) := X9.cell 7
        have a8 : wc.cell? ⟨ab, 8, none⟩ = some (.slice x0.li.a x0.li.n x0.li.cap) := X9.cell 8
        have R1 := dright15 x0 wc (HI.out.below hLc.out)
        clear X9
        cases hr0 : rightM x0 with
        | false =>
          rw [hr0] at R1
          have hall : ([x0, x1].all rightM) = false := by simp [hr0]
          have HALL := Lib.hid hall
          clear hr0 hall
          go_wp2_with fail
          refine R1.mono ?_
          rintro e wd ⟨rfl, hbd⟩
          clear a0 a1 a2 a3 a4 a5 a6 a7 a8
          have X12 := Lib.hid (hXc.out.bel hbd)
          have B12 := Lib.hid (hBc.out.bel hbd)
          have L12 := Lib.hid (below_two hLc.out hbd)
          have a0 : wd.cell? ⟨ab, 0, none⟩ = some (.int .i64 x0.kind) := X12.out.cell 0
          have a1 : wd.cell? ⟨ab, 1, none⟩ = some (.int .i64 x0.n0) := X12.out.cell 1
          have a2 : wd.cell? ⟨ab, 2, none⟩ = some (.int .i64 x0.n1) := X12.out.cell 2
          have a3 : wd.cell? ⟨ab, 3, none⟩ = some (.int .i64 x0.n2) := X12.out.cell 3
          have a4 : wd.cell? ⟨ab, 4, none⟩ = some (.int .i64 x0.n3) := X12.out.cell 4
          have a5 : wd.cell? ⟨ab, 5, none⟩ = some (.int .i64 x0.n4) := X12.out.cell 5
          have a6 : wd.cell? ⟨ab, 6, none⟩ = some (.int .i64 x0.n5) := X12.out.cell 6
          have a7 : wd.cell? ⟨ab, 7, none⟩ = some (.int .i64 x0.n6) := X12.out.cell 7
          have a8 : wd.cell? ⟨ab, 8, none⟩ = some (.slice x0.li.a x0.li.n x0.li.cap) := X12.out.cell 8
          have b0 : wd.cell? ⟨bb, 0, none⟩ = some (.int .i64 x1.kind) := B12.out.cell 0
          have b1 : wd.cell? ⟨bb, 1, none⟩ = some (.int .i64 x1.n0) := B12.out.cell 1
          have b2 : wd.cell? ⟨bb, 2, none⟩ = some (.int .i64 x1.n1) := B12.out.cell 2
          have b3 : wd.cell? ⟨bb, 3, none⟩ = some (.int .i64 x1.n2) := B12.out.cell 3
          have b4 : wd.cell? ⟨bb, 4, none⟩ = some (.int .i64 x1.n3) := B12.out.cell 4
          have b5 : wd.cell? ⟨bb, 5, none⟩ = some (.int .i64 x1.n4) := B12.out.cell 5
          have b6 : wd.cell? ⟨bb, 6, none⟩ = some (.int .i64 x1.n5) := B12.out.cell 6
          have b7 : wd.cell? ⟨bb, 7, none⟩ = some (.int .i64 x1.n6) := B12.out.cell 7
          have b8 : wd.cell? ⟨bb, 8, none⟩ = some (.slice x1.li.a x1.li.n x1.li.cap) := B12.out.cell 8
          have RI := row_two15 (T := 24) (w := wd) x0 x1 (HI.out.below L12.out) (HJ.out.below L12.out) rfl
          have Q1 := rights15 _ _ RI
          rw [HALL.out] at Q1
          have L13 := Lib.hid (L12.out.alloc L12.out.size (.cells #[.int .i64 x0.kind, .int .i64 x0.n0, .int .i64 x0.n1, .int .i64 x0.n2, .int .i64 x0.n3, .int .i64 x0.n4, .int .i64 x0.n5, .int .i64 x0.n6, .slice x0.li.a x0.li.n x0.li.cap, .int .i64 x1.kind, .int .i64 x1.n0, .int .i64 x1.n1, .int .i64 x1.n2, .int .i64 x1.n3, .int .i64 x1.n4, .int .i64 x1.n5, .int .i64 x1.n6, .slice x1.li.a x1.li.n x1.li.cap] 24))
          clear RI hbd hXc hBc hLc R1
          go_wp2_with fail
          refine Q1.mono ?_
          rintro e wi ⟨rfl, hbi⟩
          have L15 := Lib.hid (below_two L13.out hbi)
          clear Q1 hbi a0 a1 a2 a3 a4 a5 a6 a7 a8 b0 b1 b2 b3 b4 b5 b6 b7 b8
          go_wp2_with fail
          go_ret
          exact ⟨rfl, L15.out⟩
        | true =>
          rw [hr0] at R1
          have HR0 := Lib.hid hr0
          clear hr0
          go_wp2_with fail
          refine R1.mono ?_
          rintro e we ⟨rfl, hbe⟩
          clear a0 a1 a2 a3 a4 a5 a6 a7 a8
          have X10 := Lib.hid (hXc.out.bel hbe)
          have B10 := Lib.hid (hBc.out.bel hbe)
          have L10 := Lib.hid (below_two hLc.out hbe)
          have b0 : we.cell? ⟨bb, 0, none⟩ = some (.int .i64 x1.kind) := B10.out.cell 0
          have b1 : we.cell? ⟨bb, 1, none⟩ = some (.int .i64 x1.n0) := B10.out.cell 1
          have b2 : we.cell? ⟨bb, 2, none⟩ = some (.int .i64 x1.n1) := B10.out.cell 2
          have b3 : we.cell? ⟨bb, 3, none⟩ = some (.int .i64 x1.n2) := B10.out.cell 3
          have b4 : we.cell? ⟨bb, 4, none⟩ = some (.int .i64 x1.n3) := B10.out.cell 4
          have b5 : we.cell? ⟨bb, 5, none⟩ = some (.int .i64 x1.n4) := B10.out.cell 5
          have b6 : we.cell? ⟨bb, 6, none⟩ = some (.int .i64 x1.n5) := B10.out.cell 6
          have b7 : we.cell? ⟨bb, 7, none⟩ = some (.int .i64 x1.n6) := B10.out.cell 7
          have b8 : we.cell? ⟨bb, 8, none⟩ = some (.slice x1.li.a x1.li.n x1.li.cap) := B10.out.cell 8
          have R2 := dright15 x1 we (HJ.out.below L10.out)
          clear R1 hbe hXc hBc hLc
          cases hr1 : rightM x1 with
          | false =>
            rw [hr1] at R2
            have hall : ([x0, x1].all rightM) = false := by simp [hr1]
            have HALL := Lib.hid hall
            clear hr1 hall
            have hXc := X10
            have hBc := B10
            have hLc := L10
            clear X10 B10 L10
            go_wp2_with fail
            refine R2.mono ?_
            rintro e wd ⟨rfl, hbd⟩
            clear b0 b1 b2 b3 b4 b5 b6 b7 b8 R2
            have R1 := trivial
            have X12 := Lib.hid (hXc.out.bel hbd)
            have B12 := Lib.hid (hBc.out.bel hbd)
            have L12 := Lib.hid (below_two hLc.out hbd)
            have a0 : wd.cell? ⟨ab, 0, none⟩ = some (.int .i64 x0.kind) := X12.out.cell 0
            have a1 : wd.cell? ⟨ab, 1, none⟩ = some (.int .i64 x0.n0) := X12.out.cell 1
            have a2 : wd.cell? ⟨ab, 2, none⟩ = some (.int .i64 x0.n1) := X12.out.cell 2
            have a3 : wd.cell? ⟨ab, 3, none⟩ = some (.int .i64 x0.n2) := X12.out.cell 3
            have a4 : wd.cell? ⟨ab, 4, none⟩ = some (.int .i64 x0.n3) := X12.out.cell 4
            have a5 : wd.cell? ⟨ab, 5, none⟩ = some (.int .i64 x0.n4) := X12.out.cell 5
            have a6 : wd.cell? ⟨ab, 6, none⟩ = some (.int .i64 x0.n5) := X12.out.cell 6
            have a7 : wd.cell? ⟨ab, 7, none⟩ = some (.int .i64 x0.n6) := X12.out.cell 7
            have a8 : wd.cell? ⟨ab, 8, none⟩ = some (.slice x0.li.a x0.li.n x0.li.cap) := X12.out.cell 8
            have b0 : wd.cell? ⟨bb, 0, none⟩ = some (.int .i64 x1.kind) := B12.out.cell 0
            have b1 : wd.cell? ⟨bb, 1, none⟩ = some (.int .i64 x1.n0) := B12.out.cell 1
            have b2 : wd.cell? ⟨bb, 2, none⟩ = some (.int .i64 x1.n1) := B12.out.cell 2
            have b3 : wd.cell? ⟨bb, 3, none⟩ = some (.int .i64 x1.n2) := B12.out.cell 3
            have b4 : wd.cell? ⟨bb, 4, none⟩ = some (.int .i64 x1.n3) := B12.out.cell 4
            have b5 : wd.cell? ⟨bb, 5, none⟩ = some (.int .i64 x1.n4) := B12.out.cell 5
            have b6 : wd.cell? ⟨bb, 6, none⟩ = some (.int .i64 x1.n5) := B12.out.cell 6
            have b7 : wd.cell? ⟨bb, 7, none⟩ = some (.int .i64 x1.n6) := B12.out.cell 7
            have b8 : wd.cell? ⟨bb, 8, none⟩ = some (.slice x1.li.a x1.li.n x1.li.cap) := B12.out.cell 8
            have RI := row_two15 (T := 24) (w := wd) x0 x1 (HI.out.below L12.out) (HJ.out.below L12.out) rfl
            have Q1 := rights15 _ _ RI
            rw [HALL.out] at Q1
            have L13 := Lib.hid (L12.out.alloc L12.out.size (.cells #[.int .i64 x0.kind, .int .i64 x0.n0, .int .i64 x0.n1, .int .i64 x0.n2, .int .i64 x0.n3, .int .i64 x0.n4, .int .i64 x0.n5, .int .i64 x0.n6, .slice x0.li.a x0.li.n x0.li.cap, .int .i64 x1.kind, .int .i64 x1.n0, .int .i64 x1.n1, .int .i64 x1.n2, .int .i64 x1.n3, .int .i64 x1.n4, .int .i64 x1.n5, .int .i64 x1.n6, .slice x1.li.a x1.li.n x1.li.cap] 24))
            clear RI hbd hXc hBc hLc R1
            go_wp2_with fail
            refine Q1.mono ?_
            rintro e wi ⟨rfl, hbi⟩
            have L15 := Lib.hid (below_two L13.out hbi)
            clear Q1 hbi a0 a1 a2 a3 a4 a5 a6 a7 a8 b0 b1 b2 b3 b4 b5 b6 b7 b8
            go_wp2_with fail
            go_ret
            exact ⟨rfl, L15.out⟩
          | true =>
            rw [hr1] at R2
            have HR1 := Lib.hid hr1
            clear hr1
            go_wp2_with fail
            refine R2.mono ?_
            rintro e wf ⟨rfl, hbf⟩
            clear b0 b1 b2 b3 b4 b5 b6 b7 b8 R2
            have X11 := Lib.hid (X10.out.bel hbf)
            have B11 := Lib.hid (B10.out.bel hbf)
            have L11 := Lib.hid (below_two L10.out hbf)
            have a0 : wf.cell? ⟨ab, 0, none⟩ = some (.int .i64 x0.kind) := X11.out.cell 0
            have a1 : wf.cell? ⟨ab, 1, none⟩ = some (.int .i64 x0.n0) := X11.out.cell 1
            have a2 : wf.cell? ⟨ab, 2, none⟩ = some (.int .i64 x0.n1) := X11.out.cell 2
            have a3 : wf.cell? ⟨ab, 3, none⟩ = some (.int .i64 x0.n2) := X11.out.cell 3
            have a4 : wf.cell? ⟨ab, 4, none⟩ = some (.int .i64 x0.n3) := X11.out.cell 4
            have a5 : wf.cell? ⟨ab, 5, none⟩ = some (.int .i64 x0.n4) := X11.out.cell 5
            have a6 : wf.cell? ⟨ab, 6, none⟩ = some (.int .i64 x0.n5) := X11.out.cell 6
            have a7 : wf.cell? ⟨ab, 7, none⟩ = some (.int .i64 x0.n6) := X11.out.cell 7
            have a8 : wf.cell? ⟨ab, 8, none⟩ = some (.slice x0.li.a x0.li.n x0.li.cap) := X11.out.cell 8
            have P1 := bytes15_yes x0 wf (HI.out.below L11.out) HR0.out
            clear hbf X10 B10 L10
            go_wp2_with fail
            refine P1.mono ?_
            rintro e wg ⟨⟨⟨pa, pn, pc, pv⟩, rfl, hpi, hpv⟩, hbg⟩
            simp only at hpi hpv
            clear a0 a1 a2 a3 a4 a5 a6 a7 a8 P1
            have X12 := Lib.hid (X11.out.bel hbg)
            have B12 := Lib.hid (B11.out.bel hbg)
            have L12 := Lib.hid (below_two L11.out hbg)
            have HPI := Lib.hid hpi
            have HPV := Lib.hid hpv
            have b0 : wg.cell? ⟨bb, 0, none⟩ = some (.int .i64 x1.kind) := B12.out.cell 0
            have b1 : wg.cell? ⟨bb, 1, none⟩ = some (.int .i64 x1.n0) := B12.out.cell 1
            have b2 : wg.cell? ⟨bb, 2, none⟩ = some (.int .i64 x1.n1) := B12.out.cell 2
            have b3 : wg.cell? ⟨bb, 3, none⟩ = some (.int .i64 x1.n2) := B12.out.cell 3
            have b4 : wg.cell? ⟨bb, 4, none⟩ = some (.int .i64 x1.n3) := B12.out.cell 4
            have b5 : wg.cell? ⟨bb, 5, none⟩ = some (.int .i64 x1.n4) := B12.out.cell 5
            have b6 : wg.cell? ⟨bb, 6, none⟩ = some (.int .i64 x1.n5) := B12.out.cell 6
            have b7 : wg.cell? ⟨bb, 7, none⟩ = some (.int .i64 x1.n6) := B12.out.cell 7
            have b8 : wg.cell? ⟨bb, 8, none⟩ = some (.slice x1.li.a x1.li.n x1.li.cap) := B12.out.cell 8
            have P2 := bytes15_yes x1 wg (HJ.out.below L12.out) HR1.out
            clear hbg X11 B11 L11 hpi hpv
            go_wp2_with fail
            refine P2.mono ?_
            rintro e wh ⟨⟨⟨qa, qn, qc, qv⟩, rfl, hqi, hqv⟩, hbh⟩
            simp only at hqi hqv
            clear b0 b1 b2 b3 b4 b5 b6 b7 b8 P2
            have X13 := Lib.hid (X12.out.bel hbh)
            have B13 := Lib.hid (B12.out.bel hbh)
            have L13 := Lib.hid (below_two L12.out hbh)
            have HPI2 := Lib.hid (HPI.out.below hbh)
            have HQI := Lib.hid hqi
            have HQV := Lib.hid hqv
            have a0 : wh.cell? ⟨ab, 0, none⟩ = some (.int .i64 x0.kind) := X13.out.cell 0
            have a1 : wh.cell? ⟨ab, 1, none⟩ = some (.int .i64 x0.n0) := X13.out.cell 1
            have a2 : wh.cell? ⟨ab, 2, none⟩ = some (.int .i64 x0.n1) := X13.out.cell 2
            have a3 : wh.cell? ⟨ab, 3, none⟩ = some (.int .i64 x0.n2) := X13.out.cell 3
            have a4 : wh.cell? ⟨ab, 4, none⟩ = some (.int .i64 x0.n3) := X13.out.cell 4
            have a5 : wh.cell? ⟨ab, 5, none⟩ = some (.int .i64 x0.n4) := X13.out.cell 5
            have a6 : wh.cell? ⟨ab, 6, none⟩ = some (.int .i64 x0.n5) := X13.out.cell 6
            have a7 : wh.cell? ⟨ab, 7, none⟩ = some (.int .i64 x0.n6) := X13.out.cell 7
            have a8 : wh.cell? ⟨ab, 8, none⟩ = some (.slice x0.li.a x0.li.n x0.li.cap) := X13.out.cell 8
            have b0 : wh.cell? ⟨bb, 0, none⟩ = some (.int .i64 x1.kind) := B13.out.cell 0
            have b1 : wh.cell? ⟨bb, 1, none⟩ = some (.int .i64 x1.n0) := B13.out.cell 1
            have b2 : wh.cell? ⟨bb, 2, none⟩ = some (.int .i64 x1.n1) := B13.out.cell 2
            have b3 : wh.cell? ⟨bb, 3, none⟩ = some (.int .i64 x1.n2) := B13.out.cell 3
            have b4 : wh.cell? ⟨bb, 4, none⟩ = some (.int .i64 x1.n3) := B13.out.cell 4
            have b5 : wh.cell? ⟨bb, 5, none⟩ = some (.int .i64 x1.n4) := B13.out.cell 5
            have b6 : wh.cell? ⟨bb, 6, none⟩ = some (.int .i64 x1.n5) := B13.out.cell 6
            have b7 : wh.cell? ⟨bb, 7, none⟩ = some (.int .i64 x1.n6) := B13.out.cell 7
            have b8 : wh.cell? ⟨bb, 8, none⟩ = some (.slice x1.li.a x1.li.n x1.li.cap) := B13.out.cell 8
            have RI := row_two15 (T := 24) (w := wh) x0 x1 (HI.out.below L13.out) (HJ.out.below L13.out) rfl
            have Q1 := rights15 _ _ RI
            have hall : ([x0, x1].all rightM) = true := by simp [HR0.out, HR1.out]
            rw [hall] at Q1
            have hba : Below wh.heap.size wh (wh.alloc (.cells #[.int .i64 x0.kind, .int .i64 x0.n0, .int .i64 x0.n1, .int .i64 x0.n2, .int .i64 x0.n3, .int .i64 x0.n4, .int .i64 x0.n5, .int .i64 x0.n6, .slice x0.li.a x0.li.n x0.li.cap, .int .i64 x1.kind, .int .i64 x1.n0, .int .i64 x1.n1, .int .i64 x1.n2, .int .i64 x1.n3, .int .i64 x1.n4, .int .i64 x1.n5, .int .i64 x1.n6, .slice x1.li.a x1.li.n x1.li.cap] 24)) := (Below.refl _ wh).alloc (Nat.le_refl _) _
            have HPI3 := Lib.hid (HPI2.out.below hba)
            have HQI3 := Lib.hid (HQI.out.below hba)
            have L14 := Lib.hid (below_two L13.out hba)
            have hfs := frames_same HI.out.li.1.1 HI.out.li.1.2.2.1 HR0.out HJ.out.li.1.1 HJ.out.li.1.2.2.1 HR1.out
            rw [HSM.out, ← HPV.out, ← HQV.out] at hfs
            have hss := str14_eq HPI3.out.1.2.2.1 HQI3.out.1.2.2.1
            simp only at hss
            rw [hfs] at hss
            obtain ⟨s1, hs1⟩ : ∃ s, strOfNums pv = s := ⟨_, rfl⟩
            obtain ⟨s2, hs2⟩ : ∃ s, strOfNums qv = s := ⟨_, rfl⟩
            rw [hs1, hs2] at hss
            have HCP1 : Hid (∀ W, Elems .u8 W pa pn pv → Sem.run Try.prog (convert 27 9 (.slice pa pn pc)) W = .ok (.string s1) W) := Lib.hid (fun W h => by rw [← hs1]; exact conv_u8 h)
            have HCP2 : Hid (∀ W, Elems .u8 W qa qn qv → Sem.run Try.prog (convert 27 9 (.slice qa qn qc)) W = .ok (.string s2) W) := Lib.hid (fun W h => by rw [← hs2]; exact conv_u8 h)
            clear RI hall hba hbh hqi hqv hfs hs1 hs2 X12 B12 L12 X13 B13
            go_wp2_with fail
            refine Q1.mono ?_
            rintro e wi ⟨rfl, hbi⟩
            clear a0 a1 a2 a3 a4 a5 a6 a7 a8 b0 b1 b2 b3 b4 b5 b6 b7 b8
            have L15 := Lib.hid (below_two L14.out hbi)
            have k1 := HCP1.out wi (HPI3.out.below hbi).1
            have k2 := HCP2.out wi (HQI3.out.below hbi).1
            clear Q1 hbi
            go_wp2_with fail
            go_ret
            exact ⟨ret_bool (by simp), L15.out⟩

set_option maxRecDepth 100000 in
theorem lifted (os : Os) (started : os.Started) (H : Type) (enc : TypeId × Value → H) :
    ReturnsInHanded {} Try.checked os 5 .any (Rows.msgApartSpec.pre6 enc Try.prog Try.f5 Rows.msgApartRow.domain false) (Rows.msgApartSpec.post enc Try.prog Try.f5 false true false false) := by
  refine returnsInHanded_of_change (C := Try.checked) own started (by kernel_rfl) Try.func5
    (ChangeSpec.witness6 (enc := enc) (C := Try.checked) false ⟨#[], #[.agg #[.int .i64 0, .int .i64 0, .int .i64 0, .int .i64 0, .int .i64 0, .int .i64 0, .int .i64 0, .int .i64 0, .slice none 0 0], .agg #[.int .i64 0, .int .i64 0, .int .i64 0, .int .i64 0, .int .i64 0, .int .i64 0, .int .i64 0, .int .i64 0, .slice none 0 0]], []⟩ 8 (by kernel_rfl) (by kernel_rfl) (by kernel_rfl) (by kernel_rfl)) ?_
  intro W base args ds gs before hval0 hW hcnd _
  have hval : ∀ (j : Nat) t v, Try.f5.params[j]? = some t → args[j]? = some v → Value.okWide Try.prog W .any base t v := hval0
  have hW' := hW
  obtain ⟨p, q, hA0, hV, rfl, hfz, hnd⟩ := hW
  have hA : DataW.TrodAll enc Try.prog W 0 (fun _ => true) true Try.f5.params.toList args.toList ds p := hA0
  rw [Try.params5] at hA hval
  obtain ⟨v0, vs0, d0, ds0, p0, q0, hargs, rfl, rfl, h0, r0⟩ := trodAll_cons hA
  obtain ⟨v1, vs1, d1, ds1, p1, q1, rfl, rfl, rfl, h1, r1⟩ := trodAll_cons r0
  obtain ⟨rfl, rfl, rfl⟩ := trodAll_nil r1
  obtain rfl : args = #[v0, v1] := by cases args; simp_all
  obtain ⟨rfl, rfl⟩ := trodVars_none hV
  have k0 := h0
  have lt0 : ∀ x ∈ p0, x.block < W.heap.size := by obtain ⟨m, hm⟩ := k0; exact DataW.trod_lt m _ _ _ hm
  obtain ⟨x0, rfl, w0⟩ := open_Ms15 (hval 0 24 v0 rfl rfl) h0
  have k1 := h1
  have lt1 : ∀ x ∈ p1, x.block < W.heap.size := by obtain ⟨m, hm⟩ := k1; exact DataW.trod_lt m _ _ _ hm
  obtain ⟨x1, rfl, w1⟩ := open_Ms15 (hval 1 24 v1 rfl rfl) h1
  clear hA0 hval0
  refine (walk x0 x1 W w0 w1).mono fun e W' ⟨he, bel⟩ => ?_
  subst he
  exact ⟨_, rfl, _, _, _, [], _, [], hW', trodAll_mk1 (shut_bool Try.underlying4 _), (trodAll_cons_mk (Below.trod laidOut (by kernel_rfl) (of_decide_eq_true (by kernel_rfl)) k0 bel lt0) (trodAll_cons_mk (Below.trod laidOut (by kernel_rfl) (of_decide_eq_true (by kernel_rfl)) k1 bel lt1) trodAll_mk0)), rfl, bel.frame _, fun h => by cases h⟩

theorem over : Rows.msgApartRow.holds Try.pinned (OpenSpec.ofChange Rows.msgApartSpec) :=
  OpenClaim.holds_of_wide 5 Try.f5 rfl rfl rfl rfl rfl rfl rfl ⟨rfl, rfl, rfl, rfl, rfl⟩ rfl rfl rfl rfl rfl (by kernel_rfl) Try.func5 (by kernel_rfl)
    (of_decide_eq_true (by kernel_rfl)) (by unfold Func.isWrapper; first | (rw [if_pos (by decide +kernel)]; kernel_rfl) | (rw [if_neg (by decide +kernel)]; exact ⟨rfl, rfl⟩))
    (fun os started H enc _ => lifted os started H enc)

/-- ████ THE STATEMENT ████ -/
theorem proved : Rows.MsgApartSaid := over
#print axioms proved
end Go.Proofs.Ytobogkilkmnpmaa.msgApart
