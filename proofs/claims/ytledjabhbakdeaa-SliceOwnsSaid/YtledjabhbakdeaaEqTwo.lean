/-
  '==' and '!=' on two arrays of two ints.
-/
import Derived.Test.YtledjabhbakdeaaNew7
import Derived.ChangeKeysEq
namespace Go.Proofs.Ytledjabhbakdeaa
open Go.RowKit
set_option linter.unusedVariables false

theorem bel_drewN {B : Nat} {a w : World} (h : Below B a w) (n : Nat) : Below B a (w.drewN n) := ⟨h.os, h.tape, h.output, h.size, h.block⟩
theorem cells_one10 : Try.prog.cellsOf 3 = 1 := by kernel_rfl
theorem info_one10 : ∃ i, Try.prog.info? 3 = some i := by
  cases h : Try.prog.info? 3 with
  | some i => exact ⟨i, rfl⟩
  | none => have := infoInt; rw [h] at this; cases this
theorem part_two0 (x y : Value) (w : World) : (part 3 #[x, y] 0).run Try.prog w = .ok x w := by
  simp [part, isAgg, run_underlying Try.underlying3]
theorem part_two1 (x y : Value) (w : World) : (part 3 #[x, y] 1).run Try.prog w = .ok y w := by
  simp [part, isAgg, run_underlying Try.underlying3]
theorem eqs_one (a b c d : Int) (w : World) : (Op.eqItems 9999 3 1 #[Value.int .i64 a, .int .i64 b] #[.int .i64 c, .int .i64 d] [1]).run Try.prog w = .ok (b == d) w := by
  have e1 := part_two1 (.int .i64 a) (.int .i64 b) w
  have e2 := part_two1 (.int .i64 c) (.int .i64 d) w
  have e3 := run_equalIn_int w 9998 3 .i64 .i64 b d Try.underlying3
  simp only [Op.eqItems, Nat.one_mul, Sem.run_bind, e1, e2, e3, Result.andThen_ok]
  cases h2 : (b == d) <;> simp
theorem eqIn_two (a b c d : Int) (w : World) : (Op.equalIn 10000 29 (.agg #[.int .i64 a, .int .i64 b]) (.agg #[.int .i64 c, .int .i64 d])).run Try.prog w = .ok (a == c && b == d) w := by
  obtain ⟨i, hi⟩ := info_one10
  rw [show (10000 : Nat) = 9999 + 1 from rfl, run_equalIn_array w 9999 _ _ Try.underlying29 hi, cells_one10, show List.range 2 = [0, 1] from rfl]
  have e0 := eqs_one a b c d w
  have e1 := part_two0 (.int .i64 a) (.int .i64 b) w
  have e2 := part_two0 (.int .i64 c) (.int .i64 d) w
  have e3 := run_equalIn_int w 9998 3 .i64 .i64 a c Try.underlying3
  rw [Op.eqItems]
  simp only [Nat.zero_mul, Sem.run_bind, e1, e2, e3, Result.andThen_ok]
  cases h1 : (a == c)
  · simp
  · simpa using e0
theorem eql_two (a b c d : Int) (w : World) : (binOp .eql 29 (.agg #[.int .i64 a, .int .i64 b]) (.agg #[.int .i64 c, .int .i64 d])).run Try.prog w = .ok (.bool (a == c && b == d)) w := by
  rw [run_eql_struct, eqIn_two]; rfl
theorem neq_two (a b c d : Int) (w : World) : (binOp .neq 29 (.agg #[.int .i64 a, .int .i64 b]) (.agg #[.int .i64 c, .int .i64 d])).run Try.prog w = .ok (.bool (!(a == c && b == d))) w := by
  rw [run_neq_struct, eqIn_two]; rfl

end Go.Proofs.Ytledjabhbakdeaa
