/-
  The law's awake answers true: the document's example.
-/
import Derived.Test.YtkinbngikmcpeaaSegs16
namespace Go.Proofs.Ytkinbngikmcpeaa
open Go.RowKit Go.Maps
set_option linter.unusedVariables false

def aw1 : Lk16 := ⟨0, [⟨-1, [97]⟩, ⟨-1, [98]⟩, ⟨-1, [99]⟩], 0, 0, 0, [], false⟩
def aw2 : Lk16 := ⟨0, [⟨0, [97]⟩, ⟨0, [98]⟩, ⟨-1, [99]⟩], 0, 2, 0, [], false⟩
def aw3 : Lk16 := ⟨0, [⟨1, [97]⟩, ⟨1, [98]⟩, ⟨-1, [99]⟩], 0, 2, 0, [], false⟩
def aw4 : Lk16 := ⟨0, [⟨2, [97]⟩, ⟨2, [98]⟩, ⟨-1, [99]⟩], 0, 2, 0, [], false⟩
def aw6 : Lk16 := ⟨0, [⟨0, [98]⟩, ⟨-1, [99]⟩], 1, 2, 0, [], false⟩
def aw7 : Lk16 := ⟨0, [⟨1, [98]⟩, ⟨0, [99]⟩], 1, 3, 0, [], false⟩
theorem aws : sendE 9 (new16 0) [[97], [98], [99]] = (0, aw1) := rfl
theorem awt1 : tickE 2 3 aw1 = ([⟨0, 1, 0, [97]⟩, ⟨0, 2, 0, [98]⟩], aw2) := rfl
theorem awt2 : tickE 2 3 aw2 = ([], aw3) := rfl
theorem awt3 : tickE 2 3 aw3 = ([], aw4) := rfl
theorem awt4 : tickE 2 3 aw4 = ([⟨0, 1, 0, [97]⟩, ⟨0, 2, 0, [98]⟩], aw2) := rfl
theorem awh : hearE 2 aw2 ⟨0, 0, 1, []⟩ = (([], 0), aw6) := rfl
theorem awt5 : tickE 2 3 aw6 = ([⟨0, 3, 0, [99]⟩], aw7) := rfl

set_option maxHeartbeats 3200000 in
set_option maxRecDepth 100000 in
theorem awake16 (w : World) : Calls Try.prog 7 #[] w fun e w' => e = .returned (.bool true) ∧ Below w.heap.size w w' := by
  have N1 := new16_yes 2 3 9 ⟨by omega, by omega, by omega⟩ w
  go_enter Try.func7, Try.ntmps7
  go_wp2_with fail
  refine N1.mono ?_
  rintro e w1 ⟨f, rfl, hL, hf, hb⟩
  have v1 : (convert 37 37 (.slice (some ⟨w1.heap.size, 0, none⟩) 1 1)).run Try.prog (w1.alloc (.cells #[.int .u8 97] 5)) = .ok (.slice (some ⟨w1.heap.size, 0, none⟩) 1 1) (w1.alloc (.cells #[.int .u8 97] 5 (1, 2))) :=
    Go.Joins.run_convert_bytes_const_at w1 37 5 _ 1 1 _ rfl Try.underlying37 Try.underlying5
  have v2 : (convert 37 37 (.slice (some ⟨w1.heap.size + 1, 0, none⟩) 1 1)).run Try.prog ((w1.alloc (.cells #[.int .u8 97] 5 (1, 2))).alloc (.cells #[.int .u8 98] 5)) = .ok (.slice (some ⟨w1.heap.size + 1, 0, none⟩) 1 1) ((w1.alloc (.cells #[.int .u8 97] 5 (1, 2))).alloc (.cells #[.int .u8 98] 5 (1, 2))) :=
    Go.Joins.run_convert_bytes_const_at (w1.alloc (.cells #[.int .u8 97] 5 (1, 2))) 37 5 _ 1 1 _ (by simp) Try.underlying37 Try.underlying5
  have v3 : (convert 37 37 (.slice (some ⟨w1.heap.size + 1 + 1, 0, none⟩) 1 1)).run Try.prog (((w1.alloc (.cells #[.int .u8 97] 5 (1, 2))).alloc (.cells #[.int .u8 98] 5 (1, 2))).alloc (.cells #[.int .u8 99] 5)) = .ok (.slice (some ⟨w1.heap.size + 1 + 1, 0, none⟩) 1 1) (((w1.alloc (.cells #[.int .u8 97] 5 (1, 2))).alloc (.cells #[.int .u8 98] 5 (1, 2))).alloc (.cells #[.int .u8 99] 5 (1, 2))) :=
    Go.Joins.run_convert_bytes_const_at ((w1.alloc (.cells #[.int .u8 97] 5 (1, 2))).alloc (.cells #[.int .u8 98] 5 (1, 2))) 37 5 _ 1 1 _ (by simp) Try.underlying37 Try.underlying5
  have hQ := rws_lit3 (w := w1) 97 98 99 (by decide) (by decide) (by decide) (T := 37) rfl
  obtain ⟨w2, hw2⟩ : ∃ w2, (((w1.alloc (.cells #[.int .u8 97] 5 (1, 2))).alloc (.cells #[.int .u8 98] 5 (1, 2))).alloc (.cells #[.int .u8 99] 5 (1, 2))).alloc (.cells #[.slice (some ⟨w1.heap.size, 0, none⟩) 1 1, .slice (some ⟨w1.heap.size + 1, 0, none⟩) 1 1, .slice (some ⟨w1.heap.size + 1 + 1, 0, none⟩) 1 1] 37) = w2 := ⟨_, rfl⟩
  have hb12 : Below w1.heap.size w1 w2 := by
    rw [← hw2]
    exact ((((Below.refl _ w1).alloc (Nat.le_refl _) _).alloc (by simp) _).alloc (by simp; omega) _).alloc (by simp; omega) _
  rw [hw2] at hQ
  have hL2 := hL.bel hb12
  have S1 := send16 hL2 _ 3 3 _ hQ (by omega) (fun b off e _ hh => by
    simp only [Option.some.injEq, Addr.mk.injEq] at e
    have := hL.lt b hh
    omega)
  have HB2 := Lib.hid (hb.trans (hb12.mono hb.size))
  have HF := Lib.hid hf
  clear hQ hL2 hL hf hb hb12 N1
  go_wp2_with fail
  simp only [List.map_cons, List.map_nil, aws] at S1
  refine S1.mono ?_
  rintro e w3 ⟨rfl, ⟨l1, m1, va1⟩, hL3, hF3, hM3⟩
  obtain rfl : l1 = f.lb := hF3.1
  have hM3' := HF.out
  have HM0 := Lib.hid (And.intro hF3 hM3)
  have hT0 : LinkAt w3 ⟨f.lb, m1, va1⟩ 2 3 9 aw1 := hL3
  clear hL3 hF3 hM3 hM3' S1 v1 v2 v3 hw2
  have T1 := tick16 hT0 (by simp only [aw1]; decide)
  clear hT0
  go_wp2_with fail
  refine T1.mono ?_
  rintro e w4 ⟨t1, x1, rfl, hS1, hx1, hT1, hM1⟩
  rw [awt1] at hx1 hT1
  clear T1
  have T2 := tick16 hT1 (by simp only [aw2]; decide)
  clear hT1
  go_wp2_with fail
  refine T2.mono ?_
  rintro e w5 ⟨t2, x2, rfl, hS2, hx2, hT2, hM2⟩
  rw [awt2] at hx2 hT2
  clear T2
  have T3 := tick16 hT2 (by simp only [aw3]; decide)
  clear hT2
  go_wp2_with fail
  refine T3.mono ?_
  rintro e w6 ⟨t3, x3, rfl, hS3, hx3, hT3, hM3⟩
  rw [awt3] at hx3 hT3
  clear T3
  have T4 := tick16 hT3 (by simp only [aw4]; decide)
  clear hT3
  go_wp2_with fail
  refine T4.mono ?_
  rintro e w7 ⟨t4, x4, rfl, hS4, hx4, hT4, hM4⟩
  rw [awt4] at hx4 hT4
  clear T4
  have HX1 := Lib.hid (And.intro hS1 hx1)
  have HX2 := Lib.hid (And.intro hS2 hx2)
  have HX3 := Lib.hid (And.intro hS3 hx3)
  have HX4 := Lib.hid (And.intro hS4 hx4)
  have HM4 : Hid (Moves w3 w7 ⟨f.lb, m1, va1⟩) := Lib.hid (((hM1.trans (FootTo.refl _ _) hM2).trans (FootTo.refl _ _) hM3).trans (FootTo.refl _ _) hM4)
  have R1 := hear16 hT4 0 0 1 ⟨none, 0, 0, []⟩ ⟨Elems.nil_ _ _ _, Nat.le_refl _, by show 0 ≤ _; omega, ⟨fun _ => rfl, fun x e _ => by cases e⟩⟩ (by show 0 ≤ _; omega) (by simp only [aw2]; decide) (by simp only [aw2]; decide)
  clear hS1 hx1 hS2 hx2 hS3 hx3 hS4 hx4 hM1 hM2 hM3 hM4 hT4
  unfold HearR at R1
  rw [awh] at R1
  go_wp2_with fail
  refine R1.mono ?_
  rintro e w8 ⟨hv, hn, hqs, rfl, hLR, hn64, hqq, ⟨l1, m5, va5⟩, hL8, hF8, hM8⟩
  obtain rfl : l1 = f.lb := hF8.1
  have hT4 : LinkAt w8 ⟨f.lb, m5, va5⟩ 2 3 9 aw6 := hL8
  obtain ⟨ha, hc, rfl, _⟩ := hLR.shape
  clear R1 hL8 hLR hn64 hqq
  have T5 := tick16 hT4 (by simp only [aw6]; decide)
  clear hT4
  go_wp2_with fail
  refine T5.mono ?_
  rintro e w9 ⟨t5, x5, rfl, hS5, hx5, hT5, hM5⟩
  rw [awt5] at hx5 hT5
  clear T5
  obtain ⟨a1, c1, rfl, _⟩ := HX1.out.1.shape
  obtain ⟨a2, c2, rfl, _⟩ := HX2.out.1.shape
  obtain ⟨a3, c3, rfl, _⟩ := HX3.out.1.shape
  have n1 : x1.length = 2 := by simpa using congrArg List.length HX1.out.2
  have n2 : x2.length = 0 := by simpa using congrArg List.length HX2.out.2
  have n3 : x3.length = 0 := by simpa using congrArg List.length HX3.out.2
  have n4 : x4.length = 2 := by simpa using congrArg List.length HX4.out.2
  have n5 : x5.length = 1 := by simpa using congrArg List.length hx5
  have hS4 := (HX4.out.1.moved hM8).moved hM5
  obtain ⟨g4, c4, rfl, d1, d2, _, _, hc4⟩ := hS4.cells (by omega)
  obtain ⟨g5, c5, rfl, d3, d4, _, _, hc5⟩ := hS5.cells (by omega)
  obtain ⟨zz0, z1, zz2, z3, zq, zz5⟩ := hc4 1 (by omega)
  obtain ⟨yy0, y1, yy2, yy3, yy4, yy5⟩ := hc5 0 (by omega)
  clear zz0 zz2 zz5 yy0 yy2 yy3 yy4 yy5
  have e4 : sgOf (x4[1]'(by omega)) = ⟨0, 2, 0, [98]⟩ := by
    have := congrArg (fun l => l[1]?) HX4.out.2
    simp only [List.getElem?_map] at this
    rw [List.getElem?_eq_getElem (by omega)] at this
    simpa using this
  have e5 : sgOf (x5[0]'(by omega)) = ⟨0, 3, 0, [99]⟩ := by
    have := congrArg (fun l => l[0]?) hx5
    simp only [List.getElem?_map] at this
    rw [List.getElem?_eq_getElem (by omega)] at this
    simpa using this
  obtain ⟨q, hq⟩ : ∃ q, (x4[1]'(by omega)).q = q := ⟨_, rfl⟩
  have s4 : (x4[1]'(by omega)).s = 2 := congrArg Sg16.s e4
  have b4 : q.v = [98] := by rw [← hq]; exact congrArg Sg16.b e4
  have s5 : (x5[0]'(by omega)).s = 3 := congrArg Sg16.s e5
  rw [s4] at z1
  rw [hq] at z3 zq
  rw [s5] at y1
  have cv : Sem.run Try.prog (convert 37 9 (.slice q.a q.n q.cap)) w9 = .ok (.string ⟨#[98]⟩) w9 := by
    have := conv_u8 (cap := q.cap) zq.1
    rw [b4] at this
    exact this
  have hBf : Hid (Below w.heap.size w w9) := Lib.hid (by
    have m1 := (HM0.out.2.trans HM0.out.1 HM4.out).trans HM0.out.1 hM8
    have m2 := m1.trans ⟨hF8.1, fun b hb => ?_⟩ hM5
    · exact HB2.out.trans (m2.below HB2.out.size HF.out)
    · rcases hF8.2 b hb with h | h
      · exact HM0.out.1.2 b h
      · exact .inr (Nat.le_trans (Nat.le_trans HM0.out.2.size HM4.out.size) h))
  have z1' : w9.cell? ⟨g4, 4 + 1, none⟩ = some (.int .i64 2) := z1
  have z3' : w9.cell? ⟨g4, 4 + 3, none⟩ = some (.slice q.a q.n q.cap) := z3
  have z1'' : w9.cell? ⟨g4, 5, none⟩ = some (.int .i64 2) := z1
  have z3'' : w9.cell? ⟨g4, 7, none⟩ = some (.slice q.a q.n q.cap) := z3
  have y1' : w9.cell? ⟨g5, 1, none⟩ = some (.int .i64 3) := y1
  rw [n1, n2, n3, n4, n5]
  clear hS4 hS5 hx5 hT5 hc4 hc5 zq e4 e5 s4 b4 s5 n1 n2 n3 n4 n5 hq hM8 hM5 HX1 HX2 HX3 HX4 hF8 z1 z3 y1
  go_wp2_with fail
  go_ret
  exact ⟨rfl, hBf.out⟩

end Go.Proofs.Ytkinbngikmcpeaa
