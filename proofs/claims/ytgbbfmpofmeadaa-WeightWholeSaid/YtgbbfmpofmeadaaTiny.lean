/-
  The document's Tiny: a small right shape out of six numbers.
-/
import Derived.Test.YtgbbfmpofmeadaaShape
import Derived.Test.YtgbbfmpofmeadaaNew7
import Derived.Deep.RegionHeld3
import Derived.IntWalk
import Derived.Deep.CutRange
namespace Go.Proofs.Ytgbbfmpofmeadaa
open Go.RowKit
set_option linter.unusedVariables false

/-- a small right shape -/
def Sz.Tiny (s : Sz) : Prop := s.Ok ∧ s.l ≤ 3 ∧ s.w ≤ 16 ∧ s.i ≤ 8 ∧ s.v ≤ 10

theorem rest_math (n m : Int) (hm : 1 ≤ m) : (n.tmod m + m).tmod m = n % m := by
  have hb := rest_by n m hm
  rw [Int.tmod_eq_emod_of_nonneg (by omega), Int.add_emod_right]
  have h := Int.mul_tdiv_add_tmod n m
  have : n.tmod m = n - m * n.tdiv m := by omega
  rw [this, Int.sub_mul_emod_self_left]

theorem rest_any (n m : Int) (w : World) (h1 : 1 ≤ m) (h2 : m ≤ 16) :
    Calls Try.prog 14 #[.int .i64 n, .int .i64 m] w fun e w' => e = .returned (.int .i64 (n % m)) ∧ w = w' := by
  have hb := rest_by n m h1
  have E := Lib.hid (rest_math n m h1)
  obtain ⟨r, hr⟩ : ∃ r, n.tmod m = r := ⟨_, rfl⟩
  rw [hr] at hb E
  have e2 : (r + m).tmod m = (r + m) % m := Int.tmod_eq_emod_of_nonneg (by omega)
  have E2 := Lib.hid e2
  clear e2
  go_enter Try.func14, Try.ntmps14
  go_wp2
  go_ret
  exact ⟨ret_int (by first | exact E.out | (rw [← E2.out]; exact E.out)), rfl⟩

set_option maxHeartbeats 6400000 in
theorem tiny_any2 (x0 x1 x2 x3 x4 x5 : Int) (w : World) :
    Calls Try.prog 5 #[.agg #[.int .i64 x0, .int .i64 x1, .int .i64 x2, .int .i64 x3, .int .i64 x4, .int .i64 x5]] w fun e w' => (∃ s : Sz, (s.Tiny ∧ s.p ≤ 12) ∧ e = .returned s.val) ∧ Below w.heap.size w w' := by
  have c2 : x2 % 3 = 0 ∨ x2 % 3 = 1 ∨ x2 % 3 = 2 := by omega
  have hr := fun (n m : Int) (h1 : 1 ≤ m) (h2 : m ≤ 16) (W : World) => rest_any n m W h1 h2
  have b0 : 0 ≤ x0 % 3 ∧ x0 % 3 ≤ 2 := by omega
  have b1 : 0 ≤ x1 % 2 ∧ x1 % 2 ≤ 1 := by omega
  have b3 : 0 ≤ x3 % 8 ∧ x3 % 8 ≤ 7 := by omega
  have b4 : 0 ≤ x4 % 9 ∧ x4 % 9 ≤ 8 := by omega
  have b5 : 0 ≤ x5 % 9 ∧ x5 % 9 ≤ 8 := by omega
  have r0 := fun W : World => hr x0 3 (by omega) (by omega) W
  have r1 := fun W : World => hr x1 2 (by omega) (by omega) W
  have r2 := fun W : World => hr x2 3 (by omega) (by omega) W
  have r3 := fun W : World => hr x3 8 (by omega) (by omega) W
  have r4 := fun W : World => hr x4 9 (by omega) (by omega) W
  have r5 := fun W : World => hr x5 9 (by omega) (by omega) W
  clear hr
  generalize x0 % 3 = y0 at *
  generalize x1 % 2 = y1 at *
  generalize x3 % 8 = y3 at *
  generalize x4 % 9 = y4 at *
  generalize x5 % 9 = y5 at *
  rcases c2 with c2 | c2 | c2
  · rw [c2] at r2
    clear c2
    go_enter Try.func5, Try.ntmps5
    go_wp2_with (go_at_call 14; (with_reducible refine (r2 _).mono ?_); rintro e w' ⟨rfl, rfl⟩)
    generalize hw1 : ((w.alloc _).alloc _).alloc _ = wa
    have hb : Below w.heap.size w wa := by rw [← hw1]; exact (((Below.refl _ _).alloc (Nat.le_refl _) _).alloc (by simp) _).alloc (by simp; omega) _
    have hx : Box wa w.heap.size 22 #[Value.int .i64 x0, .int .i64 x1, .int .i64 x2, .int .i64 x3, .int .i64 x4, .int .i64 x5] := by rw [← hw1]; exact ((box_new _ _ _).alloc _).alloc _
    have hy : Box wa (w.heap.size + 1) 25 #[Value.int .i64 0, .int .i64 0, .int .i64 0, .int .i64 0, .int .i64 0, .int .i64 0] := by rw [← hw1]; exact (box_at (by simp) _ _).alloc _
    have c0 : wa.cell? ⟨w.heap.size, 0, none⟩ = some (.int .i64 x0) := hx.cell 0
    have c1 : wa.cell? ⟨w.heap.size, 1, none⟩ = some (.int .i64 x1) := hx.cell 1
    have c3 : wa.cell? ⟨w.heap.size, 3, none⟩ = some (.int .i64 x3) := hx.cell 3
    have c4 : wa.cell? ⟨w.heap.size, 4, none⟩ = some (.int .i64 x4) := hx.cell 4
    have c5 : wa.cell? ⟨w.heap.size, 5, none⟩ = some (.int .i64 x5) := hx.cell 5
    have d0 : ∀ o, wa.frozen? ⟨w.heap.size + 1, o, none⟩ = false := hy.frozen
    have d1 : wa.cell? ⟨w.heap.size + 1, 0, none⟩ = some (.int .i64 0) := hy.cell 0
    have d2 : wa.cell? ⟨w.heap.size + 1, 1, none⟩ = some (.int .i64 0) := hy.cell 1
    have d3 : wa.cell? ⟨w.heap.size + 1, 2, none⟩ = some (.int .i64 0) := hy.cell 2
    have d4 : wa.cell? ⟨w.heap.size + 1, 3, none⟩ = some (.int .i64 0) := hy.cell 3
    have d5 : wa.cell? ⟨w.heap.size + 1, 4, none⟩ = some (.int .i64 0) := hy.cell 4
    have d6 : wa.cell? ⟨w.heap.size + 1, 5, none⟩ = some (.int .i64 0) := hy.cell 5
    have HY := Lib.hid hy
    clear hw1 hx hy r2
    have w0 : IntKind.i64.wrap (1 + y0) = 1 + y0 := IntWalk.i64_in _ (by omega)
    have w1 : IntKind.i64.wrap (1 + y1) = 1 + y1 := IntWalk.i64_in _ (by omega)
    have w3 : IntKind.i64.wrap (1 + y3) = 1 + y3 := IntWalk.i64_in _ (by omega)
    have w4 : IntKind.i64.wrap (2 + y4) = 2 + y4 := IntWalk.i64_in _ (by omega)
    have w5 : IntKind.i64.wrap (4 + y5) = 4 + y5 := IntWalk.i64_in _ (by omega)
    have t2 : IntKind.i64.wrap 2 = 2 := by decide
    have t4 : IntKind.i64.wrap 4 = 4 := by decide
    have t8 : IntKind.i64.wrap 8 = 8 := by decide
    have m2 : IntKind.i64.wrap (2 * (1 + y1)) = 2 * (1 + y1) := IntWalk.i64_in _ (by omega)
    have m4 : IntKind.i64.wrap (4 * (1 + y1)) = 4 * (1 + y1) := IntWalk.i64_in _ (by omega)
    have m8 : IntKind.i64.wrap (8 * (1 + y1)) = 8 * (1 + y1) := IntWalk.i64_in _ (by omega)
    go_region_held3 (fun w' => w'.cell? ⟨w.heap.size, 0, none⟩ = some (.int .i64 x0) ∧ w'.cell? ⟨w.heap.size, 1, none⟩ = some (.int .i64 x1) ∧ w'.cell? ⟨w.heap.size, 3, none⟩ = some (.int .i64 x3) ∧ w'.cell? ⟨w.heap.size, 4, none⟩ = some (.int .i64 x4) ∧ w'.cell? ⟨w.heap.size, 5, none⟩ = some (.int .i64 x5)) (first | go_keep | (go_split_ands; refine ⟨?_, ?_, ?_, ?_, ?_⟩ <;> assumption))
      (first
        | (go_at_call 14; (first | (with_reducible refine (r0 _).mono ?_) | (with_reducible refine (r1 _).mono ?_) | (with_reducible refine (r3 _).mono ?_) | (with_reducible refine (r4 _).mono ?_) | (with_reducible refine (r5 _).mono ?_)); rintro e w' ⟨rfl, rfl⟩))
    go_wp2
    have HF : Box ((((((wa.setCell ⟨w.heap.size + 1, 0, none⟩ (.int .i64 (1 + y0))).setCell ⟨w.heap.size + 1, 1, none⟩ (.int .i64 (2 * (1 + y1)))).setCell ⟨w.heap.size + 1, 2, none⟩ (.int .i64 1)).setCell ⟨w.heap.size + 1, 3, none⟩ (.int .i64 (1 + y3))).setCell ⟨w.heap.size + 1, 4, none⟩ (.int .i64 (2 + y4))).setCell ⟨w.heap.size + 1, 5, none⟩ (.int .i64 (4 + y5))).drew (w.heap.size + 1) 25 #[.int .i64 (1 + y0), .int .i64 (2 * (1 + y1)), .int .i64 1, .int .i64 (1 + y3), .int .i64 (2 + y4), .int .i64 (4 + y5)] := (HY.out.six _ _ _ _ _ _).drew
    have HB : Below w.heap.size w ((((((wa.setCell ⟨w.heap.size + 1, 0, none⟩ (.int .i64 (1 + y0))).setCell ⟨w.heap.size + 1, 1, none⟩ (.int .i64 (2 * (1 + y1)))).setCell ⟨w.heap.size + 1, 2, none⟩ (.int .i64 1)).setCell ⟨w.heap.size + 1, 3, none⟩ (.int .i64 (1 + y3))).setCell ⟨w.heap.size + 1, 4, none⟩ (.int .i64 (2 + y4))).setCell ⟨w.heap.size + 1, 5, none⟩ (.int .i64 (4 + y5))).drew := ((((((hb.setCell (p := ⟨w.heap.size + 1, 0, none⟩) (by simp) _).setCell (p := ⟨w.heap.size + 1, 1, none⟩) (by simp) _).setCell (p := ⟨w.heap.size + 1, 2, none⟩) (by simp) _).setCell (p := ⟨w.heap.size + 1, 3, none⟩) (by simp) _).setCell (p := ⟨w.heap.size + 1, 4, none⟩) (by simp) _).setCell (p := ⟨w.heap.size + 1, 5, none⟩) (by simp) _).drew
    generalize ((((((wa.setCell ⟨w.heap.size + 1, 0, none⟩ (.int .i64 (1 + y0))).setCell ⟨w.heap.size + 1, 1, none⟩ (.int .i64 (2 * (1 + y1)))).setCell ⟨w.heap.size + 1, 2, none⟩ (.int .i64 1)).setCell ⟨w.heap.size + 1, 3, none⟩ (.int .i64 (1 + y3))).setCell ⟨w.heap.size + 1, 4, none⟩ (.int .i64 (2 + y4))).setCell ⟨w.heap.size + 1, 5, none⟩ (.int .i64 (4 + y5))).drew = W at HF HB ⊢
    obtain ⟨f0, f1, f2, f3, f4, f5⟩ := HF.cells6
    refine bodyPost_ret (v := .agg #[.int .i64 (1 + y0), .int .i64 (2 * (1 + y1)), .int .i64 1, .int .i64 (1 + y3), .int .i64 (2 + y4), .int .i64 (4 + y5)]) (by simp [results, Try.results5, go_sem, f0, f1, f2, f3, f4, f5]) rfl ⟨⟨⟨(1 + y0).toNat, (2 * (1 + y1)).toNat, 1, (1 + y3).toNat, (2 + y4).toNat, (4 + y5).toNat⟩, ?_, ?_⟩, HB⟩
    · refine ⟨⟨⟨by simp; omega, by simp; omega, by simp, by simp, by simp; omega, by simp; omega, by simp; omega, by simp; omega, by simp; omega, by simp; omega, by simp; omega, by simp; omega, by simp; omega⟩, ?_, ?_, ?_, ?_⟩, ?_⟩ <;> (simp; omega)
    · simp only [Sz.val, shv, Int.toNat_of_nonneg (show 0 ≤ 1 + y0 by omega), Int.toNat_of_nonneg (show 0 ≤ 2 * (1 + y1) by omega), Int.toNat_of_nonneg (show 0 ≤ 1 + y3 by omega), Int.toNat_of_nonneg (show 0 ≤ 2 + y4 by omega), Int.toNat_of_nonneg (show 0 ≤ 4 + y5 by omega)]
      rfl
  · rw [c2] at r2
    clear c2
    go_enter Try.func5, Try.ntmps5
    go_wp2_with (go_at_call 14; (with_reducible refine (r2 _).mono ?_); rintro e w' ⟨rfl, rfl⟩)
    generalize hw1 : ((w.alloc _).alloc _).alloc _ = wa
    have hb : Below w.heap.size w wa := by rw [← hw1]; exact (((Below.refl _ _).alloc (Nat.le_refl _) _).alloc (by simp) _).alloc (by simp; omega) _
    have hx : Box wa w.heap.size 22 #[Value.int .i64 x0, .int .i64 x1, .int .i64 x2, .int .i64 x3, .int .i64 x4, .int .i64 x5] := by rw [← hw1]; exact ((box_new _ _ _).alloc _).alloc _
    have hy : Box wa (w.heap.size + 1) 25 #[Value.int .i64 0, .int .i64 0, .int .i64 0, .int .i64 0, .int .i64 0, .int .i64 0] := by rw [← hw1]; exact (box_at (by simp) _ _).alloc _
    have c0 : wa.cell? ⟨w.heap.size, 0, none⟩ = some (.int .i64 x0) := hx.cell 0
    have c1 : wa.cell? ⟨w.heap.size, 1, none⟩ = some (.int .i64 x1) := hx.cell 1
    have c3 : wa.cell? ⟨w.heap.size, 3, none⟩ = some (.int .i64 x3) := hx.cell 3
    have c4 : wa.cell? ⟨w.heap.size, 4, none⟩ = some (.int .i64 x4) := hx.cell 4
    have c5 : wa.cell? ⟨w.heap.size, 5, none⟩ = some (.int .i64 x5) := hx.cell 5
    have d0 : ∀ o, wa.frozen? ⟨w.heap.size + 1, o, none⟩ = false := hy.frozen
    have d1 : wa.cell? ⟨w.heap.size + 1, 0, none⟩ = some (.int .i64 0) := hy.cell 0
    have d2 : wa.cell? ⟨w.heap.size + 1, 1, none⟩ = some (.int .i64 0) := hy.cell 1
    have d3 : wa.cell? ⟨w.heap.size + 1, 2, none⟩ = some (.int .i64 0) := hy.cell 2
    have d4 : wa.cell? ⟨w.heap.size + 1, 3, none⟩ = some (.int .i64 0) := hy.cell 3
    have d5 : wa.cell? ⟨w.heap.size + 1, 4, none⟩ = some (.int .i64 0) := hy.cell 4
    have d6 : wa.cell? ⟨w.heap.size + 1, 5, none⟩ = some (.int .i64 0) := hy.cell 5
    have HY := Lib.hid hy
    clear hw1 hx hy r2
    have w0 : IntKind.i64.wrap (1 + y0) = 1 + y0 := IntWalk.i64_in _ (by omega)
    have w1 : IntKind.i64.wrap (1 + y1) = 1 + y1 := IntWalk.i64_in _ (by omega)
    have w3 : IntKind.i64.wrap (1 + y3) = 1 + y3 := IntWalk.i64_in _ (by omega)
    have w4 : IntKind.i64.wrap (2 + y4) = 2 + y4 := IntWalk.i64_in _ (by omega)
    have w5 : IntKind.i64.wrap (4 + y5) = 4 + y5 := IntWalk.i64_in _ (by omega)
    have t2 : IntKind.i64.wrap 2 = 2 := by decide
    have t4 : IntKind.i64.wrap 4 = 4 := by decide
    have t8 : IntKind.i64.wrap 8 = 8 := by decide
    have m2 : IntKind.i64.wrap (2 * (1 + y1)) = 2 * (1 + y1) := IntWalk.i64_in _ (by omega)
    have m4 : IntKind.i64.wrap (4 * (1 + y1)) = 4 * (1 + y1) := IntWalk.i64_in _ (by omega)
    have m8 : IntKind.i64.wrap (8 * (1 + y1)) = 8 * (1 + y1) := IntWalk.i64_in _ (by omega)
    go_region_held3 (fun w' => w'.cell? ⟨w.heap.size, 0, none⟩ = some (.int .i64 x0) ∧ w'.cell? ⟨w.heap.size, 1, none⟩ = some (.int .i64 x1) ∧ w'.cell? ⟨w.heap.size, 3, none⟩ = some (.int .i64 x3) ∧ w'.cell? ⟨w.heap.size, 4, none⟩ = some (.int .i64 x4) ∧ w'.cell? ⟨w.heap.size, 5, none⟩ = some (.int .i64 x5)) (first | go_keep | (go_split_ands; refine ⟨?_, ?_, ?_, ?_, ?_⟩ <;> assumption))
      (first
        | (go_at_call 14; (first | (with_reducible refine (r0 _).mono ?_) | (with_reducible refine (r1 _).mono ?_) | (with_reducible refine (r3 _).mono ?_) | (with_reducible refine (r4 _).mono ?_) | (with_reducible refine (r5 _).mono ?_)); rintro e w' ⟨rfl, rfl⟩))
    go_wp2
    have HF : Box ((((((wa.setCell ⟨w.heap.size + 1, 0, none⟩ (.int .i64 (1 + y0))).setCell ⟨w.heap.size + 1, 1, none⟩ (.int .i64 (4 * (1 + y1)))).setCell ⟨w.heap.size + 1, 2, none⟩ (.int .i64 2)).setCell ⟨w.heap.size + 1, 3, none⟩ (.int .i64 (1 + y3))).setCell ⟨w.heap.size + 1, 4, none⟩ (.int .i64 (2 + y4))).setCell ⟨w.heap.size + 1, 5, none⟩ (.int .i64 (4 + y5))).drew (w.heap.size + 1) 25 #[.int .i64 (1 + y0), .int .i64 (4 * (1 + y1)), .int .i64 2, .int .i64 (1 + y3), .int .i64 (2 + y4), .int .i64 (4 + y5)] := (HY.out.six _ _ _ _ _ _).drew
    have HB : Below w.heap.size w ((((((wa.setCell ⟨w.heap.size + 1, 0, none⟩ (.int .i64 (1 + y0))).setCell ⟨w.heap.size + 1, 1, none⟩ (.int .i64 (4 * (1 + y1)))).setCell ⟨w.heap.size + 1, 2, none⟩ (.int .i64 2)).setCell ⟨w.heap.size + 1, 3, none⟩ (.int .i64 (1 + y3))).setCell ⟨w.heap.size + 1, 4, none⟩ (.int .i64 (2 + y4))).setCell ⟨w.heap.size + 1, 5, none⟩ (.int .i64 (4 + y5))).drew := ((((((hb.setCell (p := ⟨w.heap.size + 1, 0, none⟩) (by simp) _).setCell (p := ⟨w.heap.size + 1, 1, none⟩) (by simp) _).setCell (p := ⟨w.heap.size + 1, 2, none⟩) (by simp) _).setCell (p := ⟨w.heap.size + 1, 3, none⟩) (by simp) _).setCell (p := ⟨w.heap.size + 1, 4, none⟩) (by simp) _).setCell (p := ⟨w.heap.size + 1, 5, none⟩) (by simp) _).drew
    generalize ((((((wa.setCell ⟨w.heap.size + 1, 0, none⟩ (.int .i64 (1 + y0))).setCell ⟨w.heap.size + 1, 1, none⟩ (.int .i64 (4 * (1 + y1)))).setCell ⟨w.heap.size + 1, 2, none⟩ (.int .i64 2)).setCell ⟨w.heap.size + 1, 3, none⟩ (.int .i64 (1 + y3))).setCell ⟨w.heap.size + 1, 4, none⟩ (.int .i64 (2 + y4))).setCell ⟨w.heap.size + 1, 5, none⟩ (.int .i64 (4 + y5))).drew = W at HF HB ⊢
    obtain ⟨f0, f1, f2, f3, f4, f5⟩ := HF.cells6
    refine bodyPost_ret (v := .agg #[.int .i64 (1 + y0), .int .i64 (4 * (1 + y1)), .int .i64 2, .int .i64 (1 + y3), .int .i64 (2 + y4), .int .i64 (4 + y5)]) (by simp [results, Try.results5, go_sem, f0, f1, f2, f3, f4, f5]) rfl ⟨⟨⟨(1 + y0).toNat, (4 * (1 + y1)).toNat, 2, (1 + y3).toNat, (2 + y4).toNat, (4 + y5).toNat⟩, ?_, ?_⟩, HB⟩
    · refine ⟨⟨⟨by simp; omega, by simp; omega, by simp, by simp, by simp; omega, by simp; omega, by simp; omega, by simp; omega, by simp; omega, by simp; omega, by simp; omega, by simp; omega, by simp; omega⟩, ?_, ?_, ?_, ?_⟩, ?_⟩ <;> (simp; omega)
    · simp only [Sz.val, shv, Int.toNat_of_nonneg (show 0 ≤ 1 + y0 by omega), Int.toNat_of_nonneg (show 0 ≤ 4 * (1 + y1) by omega), Int.toNat_of_nonneg (show 0 ≤ 1 + y3 by omega), Int.toNat_of_nonneg (show 0 ≤ 2 + y4 by omega), Int.toNat_of_nonneg (show 0 ≤ 4 + y5 by omega)]
      rfl
  · rw [c2] at r2
    clear c2
    go_enter Try.func5, Try.ntmps5
    go_wp2_with (go_at_call 14; (with_reducible refine (r2 _).mono ?_); rintro e w' ⟨rfl, rfl⟩)
    generalize hw1 : ((w.alloc _).alloc _).alloc _ = wa
    have hb : Below w.heap.size w wa := by rw [← hw1]; exact (((Below.refl _ _).alloc (Nat.le_refl _) _).alloc (by simp) _).alloc (by simp; omega) _
    have hx : Box wa w.heap.size 22 #[Value.int .i64 x0, .int .i64 x1, .int .i64 x2, .int .i64 x3, .int .i64 x4, .int .i64 x5] := by rw [← hw1]; exact ((box_new _ _ _).alloc _).alloc _
    have hy : Box wa (w.heap.size + 1) 25 #[Value.int .i64 0, .int .i64 0, .int .i64 0, .int .i64 0, .int .i64 0, .int .i64 0] := by rw [← hw1]; exact (box_at (by simp) _ _).alloc _
    have c0 : wa.cell? ⟨w.heap.size, 0, none⟩ = some (.int .i64 x0) := hx.cell 0
    have c1 : wa.cell? ⟨w.heap.size, 1, none⟩ = some (.int .i64 x1) := hx.cell 1
    have c3 : wa.cell? ⟨w.heap.size, 3, none⟩ = some (.int .i64 x3) := hx.cell 3
    have c4 : wa.cell? ⟨w.heap.size, 4, none⟩ = some (.int .i64 x4) := hx.cell 4
    have c5 : wa.cell? ⟨w.heap.size, 5, none⟩ = some (.int .i64 x5) := hx.cell 5
    have d0 : ∀ o, wa.frozen? ⟨w.heap.size + 1, o, none⟩ = false := hy.frozen
    have d1 : wa.cell? ⟨w.heap.size + 1, 0, none⟩ = some (.int .i64 0) := hy.cell 0
    have d2 : wa.cell? ⟨w.heap.size + 1, 1, none⟩ = some (.int .i64 0) := hy.cell 1
    have d3 : wa.cell? ⟨w.heap.size + 1, 2, none⟩ = some (.int .i64 0) := hy.cell 2
    have d4 : wa.cell? ⟨w.heap.size + 1, 3, none⟩ = some (.int .i64 0) := hy.cell 3
    have d5 : wa.cell? ⟨w.heap.size + 1, 4, none⟩ = some (.int .i64 0) := hy.cell 4
    have d6 : wa.cell? ⟨w.heap.size + 1, 5, none⟩ = some (.int .i64 0) := hy.cell 5
    have HY := Lib.hid hy
    clear hw1 hx hy r2
    have w0 : IntKind.i64.wrap (1 + y0) = 1 + y0 := IntWalk.i64_in _ (by omega)
    have w1 : IntKind.i64.wrap (1 + y1) = 1 + y1 := IntWalk.i64_in _ (by omega)
    have w3 : IntKind.i64.wrap (1 + y3) = 1 + y3 := IntWalk.i64_in _ (by omega)
    have w4 : IntKind.i64.wrap (2 + y4) = 2 + y4 := IntWalk.i64_in _ (by omega)
    have w5 : IntKind.i64.wrap (4 + y5) = 4 + y5 := IntWalk.i64_in _ (by omega)
    have t2 : IntKind.i64.wrap 2 = 2 := by decide
    have t4 : IntKind.i64.wrap 4 = 4 := by decide
    have t8 : IntKind.i64.wrap 8 = 8 := by decide
    have m2 : IntKind.i64.wrap (2 * (1 + y1)) = 2 * (1 + y1) := IntWalk.i64_in _ (by omega)
    have m4 : IntKind.i64.wrap (4 * (1 + y1)) = 4 * (1 + y1) := IntWalk.i64_in _ (by omega)
    have m8 : IntKind.i64.wrap (8 * (1 + y1)) = 8 * (1 + y1) := IntWalk.i64_in _ (by omega)
    go_region_held3 (fun w' => w'.cell? ⟨w.heap.size, 0, none⟩ = some (.int .i64 x0) ∧ w'.cell? ⟨w.heap.size, 1, none⟩ = some (.int .i64 x1) ∧ w'.cell? ⟨w.heap.size, 3, none⟩ = some (.int .i64 x3) ∧ w'.cell? ⟨w.heap.size, 4, none⟩ = some (.int .i64 x4) ∧ w'.cell? ⟨w.heap.size, 5, none⟩ = some (.int .i64 x5)) (first | go_keep | (go_split_ands; refine ⟨?_, ?_, ?_, ?_, ?_⟩ <;> assumption))
      (first
        | (go_at_call 14; (first | (with_reducible refine (r0 _).mono ?_) | (with_reducible refine (r1 _).mono ?_) | (with_reducible refine (r3 _).mono ?_) | (with_reducible refine (r4 _).mono ?_) | (with_reducible refine (r5 _).mono ?_)); rintro e w' ⟨rfl, rfl⟩))
    go_wp2
    have HF : Box ((((((wa.setCell ⟨w.heap.size + 1, 0, none⟩ (.int .i64 (1 + y0))).setCell ⟨w.heap.size + 1, 1, none⟩ (.int .i64 (8 * (1 + y1)))).setCell ⟨w.heap.size + 1, 2, none⟩ (.int .i64 4)).setCell ⟨w.heap.size + 1, 3, none⟩ (.int .i64 (1 + y3))).setCell ⟨w.heap.size + 1, 4, none⟩ (.int .i64 (2 + y4))).setCell ⟨w.heap.size + 1, 5, none⟩ (.int .i64 (4 + y5))).drew (w.heap.size + 1) 25 #[.int .i64 (1 + y0), .int .i64 (8 * (1 + y1)), .int .i64 4, .int .i64 (1 + y3), .int .i64 (2 + y4), .int .i64 (4 + y5)] := (HY.out.six _ _ _ _ _ _).drew
    have HB : Below w.heap.size w ((((((wa.setCell ⟨w.heap.size + 1, 0, none⟩ (.int .i64 (1 + y0))).setCell ⟨w.heap.size + 1, 1, none⟩ (.int .i64 (8 * (1 + y1)))).setCell ⟨w.heap.size + 1, 2, none⟩ (.int .i64 4)).setCell ⟨w.heap.size + 1, 3, none⟩ (.int .i64 (1 + y3))).setCell ⟨w.heap.size + 1, 4, none⟩ (.int .i64 (2 + y4))).setCell ⟨w.heap.size + 1, 5, none⟩ (.int .i64 (4 + y5))).drew := ((((((hb.setCell (p := ⟨w.heap.size + 1, 0, none⟩) (by simp) _).setCell (p := ⟨w.heap.size + 1, 1, none⟩) (by simp) _).setCell (p := ⟨w.heap.size + 1, 2, none⟩) (by simp) _).setCell (p := ⟨w.heap.size + 1, 3, none⟩) (by simp) _).setCell (p := ⟨w.heap.size + 1, 4, none⟩) (by simp) _).setCell (p := ⟨w.heap.size + 1, 5, none⟩) (by simp) _).drew
    generalize ((((((wa.setCell ⟨w.heap.size + 1, 0, none⟩ (.int .i64 (1 + y0))).setCell ⟨w.heap.size + 1, 1, none⟩ (.int .i64 (8 * (1 + y1)))).setCell ⟨w.heap.size + 1, 2, none⟩ (.int .i64 4)).setCell ⟨w.heap.size + 1, 3, none⟩ (.int .i64 (1 + y3))).setCell ⟨w.heap.size + 1, 4, none⟩ (.int .i64 (2 + y4))).setCell ⟨w.heap.size + 1, 5, none⟩ (.int .i64 (4 + y5))).drew = W at HF HB ⊢
    obtain ⟨f0, f1, f2, f3, f4, f5⟩ := HF.cells6
    refine bodyPost_ret (v := .agg #[.int .i64 (1 + y0), .int .i64 (8 * (1 + y1)), .int .i64 4, .int .i64 (1 + y3), .int .i64 (2 + y4), .int .i64 (4 + y5)]) (by simp [results, Try.results5, go_sem, f0, f1, f2, f3, f4, f5]) rfl ⟨⟨⟨(1 + y0).toNat, (8 * (1 + y1)).toNat, 4, (1 + y3).toNat, (2 + y4).toNat, (4 + y5).toNat⟩, ?_, ?_⟩, HB⟩
    · refine ⟨⟨⟨by simp; omega, by simp; omega, by simp, by simp, by simp; omega, by simp; omega, by simp; omega, by simp; omega, by simp; omega, by simp; omega, by simp; omega, by simp; omega, by simp; omega⟩, ?_, ?_, ?_, ?_⟩, ?_⟩ <;> (simp; omega)
    · simp only [Sz.val, shv, Int.toNat_of_nonneg (show 0 ≤ 1 + y0 by omega), Int.toNat_of_nonneg (show 0 ≤ 8 * (1 + y1) by omega), Int.toNat_of_nonneg (show 0 ≤ 1 + y3 by omega), Int.toNat_of_nonneg (show 0 ≤ 2 + y4 by omega), Int.toNat_of_nonneg (show 0 ≤ 4 + y5 by omega)]
      rfl

theorem tiny_any (x0 x1 x2 x3 x4 x5 : Int) (w : World) :
    Calls Try.prog 5 #[.agg #[.int .i64 x0, .int .i64 x1, .int .i64 x2, .int .i64 x3, .int .i64 x4, .int .i64 x5]] w fun e w' => (∃ s : Sz, s.Tiny ∧ e = .returned s.val) ∧ Below w.heap.size w w' :=
  (tiny_any2 x0 x1 x2 x3 x4 x5 w).mono fun e w' ⟨⟨s, h, he⟩, hb⟩ => ⟨⟨s, h.1, he⟩, hb⟩

end Go.Proofs.Ytgbbfmpofmeadaa
