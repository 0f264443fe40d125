/-
  Maps from [2]int to [2]int32 that a call makes: keys, elements, what such a map holds of a table of places and pairs; the map stays where nothing writes it.
-/
import Derived.Test.YtledjabhbakdeaaKit
import Derived.WideKeyPair
import Derived.Maps.OwnSet
import Derived.ProofKit
namespace Go.Proofs.Ytledjabhbakdeaa
open Go.RowKit Go.Maps Go.WideMaps
set_option linter.unusedVariables false

theorem arr2 : ArrKey Try.prog 29 3 2 := ⟨Try.underlying29, by kernel_rfl, by kernel_rfl, by kernel_rfl⟩
theorem law2 : Keyed Try.prog 29 := Keyed.of_law arr2.law
theorem types_some : ∃ m, Try.prog.types.size = m + 1 := ⟨Try.prog.types.size - 1, by have : 0 < Try.prog.types.size := of_decide_eq_true (by kernel_rfl); omega⟩

/-- the key of a place and a pair -/
def keyP (p i : Nat) : Lit := .string (keyBytes [.int .i64 p, .int .i64 i])
theorem keyP_isKey (p i : Nat) : WideAt.IsKeyLit (keyP p i) := trivial
theorem wf_nat {n : Nat} (h : n ≤ 65536) : (Lit.int .i64 (n : Int)).wf = true := WalkArith.wf_i64 ⟨by omega, by omega⟩
theorem key_mk {p i : Nat} (hp : p ≤ 65536) (hi : i ≤ 65536) : keyOf Try.prog 29 (.agg #[.int .i64 p, .int .i64 i]) = some (keyP p i) :=
  keyOf_pair arr2 Try.underlying3 types_some (wf_nat hp) (wf_nat hi)
theorem keyP_inj {p i p' i' : Nat} (hp : p ≤ 65536) (hi : i ≤ 65536) (hp' : p' ≤ 65536) (hi' : i' ≤ 65536) (h : keyP p i = keyP p' i') : p = p' ∧ i = i' := by
  have h1 := key_mk hp hi
  have h2 := key_mk hp' hi'
  rw [h] at h1
  have := law2.inj h1 h2
  simp only [Value.agg.injEq, Array.mk.injEq, List.cons.injEq, Value.int.injEq, true_and, and_true] at this
  omega


end Go.Proofs.Ytledjabhbakdeaa
