/-
  Maps from [2]int to [2]int32 that a call makes: keys, elements, what such a map holds of a table of places and pairs; the map stays where nothing writes it.
-/
import Derived.Test.YtbggklhnmkiamaaDoorKit
import Derived.WideKeyPair
import Derived.Maps.OwnSet
import Derived.ProofKit
namespace Go.Proofs.YtbggklhnmkiamaaDoor
open Go.RowKit Go.Maps Go.WideMaps
set_option linter.unusedVariables false

theorem arr2 : ArrKey Tryd.prog 38 3 2 := ⟨Tryd.underlying38, by kernel_rfl, by kernel_rfl, by kernel_rfl⟩
theorem law2 : Keyed Tryd.prog 38 := Keyed.of_law arr2.law
theorem types_some : ∃ m, Tryd.prog.types.size = m + 1 := ⟨Tryd.prog.types.size - 1, by have : 0 < Tryd.prog.types.size := of_decide_eq_true (by kernel_rfl); omega⟩

/-- the key of a place and a pair -/
def keyP (p i : Nat) : Lit := .string (keyBytes [.int .i64 p, .int .i64 i])
theorem keyP_isKey (p i : Nat) : WideAt.IsKeyLit (keyP p i) := trivial
theorem wf_nat {n : Nat} (h : n ≤ 65536) : (Lit.int .i64 (n : Int)).wf = true := WalkArith.wf_i64 ⟨by omega, by omega⟩
theorem key_mk {p i : Nat} (hp : p ≤ 65536) (hi : i ≤ 65536) : keyOf Tryd.prog 38 (.agg #[.int .i64 p, .int .i64 i]) = some (keyP p i) :=
  keyOf_pair arr2 Tryd.underlying3 types_some (wf_nat hp) (wf_nat hi)
theorem keyP_inj {p i p' i' : Nat} (hp : p ≤ 65536) (hi : i ≤ 65536) (hp' : p' ≤ 65536) (hi' : i' ≤ 65536) (h : keyP p i = keyP p' i') : p = p' ∧ i = i' := by
  have h1 := key_mk hp hi
  have h2 := key_mk hp' hi'
  rw [h] at h1
  have := law2.inj h1 h2
  simp only [Value.agg.injEq, Array.mk.injEq, List.cons.injEq, Value.int.injEq, true_and, and_true] at this
  omega

/-- what a pair of two numbers of 32 bits reads as -/
def rowD (c s : Int) : DataW Unit := .agg [.lit (.int .i32 c), .lit (.int .i32 s)]
/-- how such a pair reads -/
def rowElem : Value → Option (DataW Unit × List MemPlace)
  | .agg ⟨[.int .i32 c, .int .i32 s]⟩ => some (rowD c s, [])
  | _ => none
theorem rowElem_mk (c s : Int) : rowElem (.agg #[.int .i32 c, .int .i32 s]) = some (rowD c s, []) := rfl
theorem rowElem_inv {v : Value} {c s : Int} {ps : List MemPlace} (h : rowElem v = some (rowD c s, ps)) : v = .agg #[.int .i32 c, .int .i32 s] := by
  unfold rowElem at h
  split at h
  · simp only [Option.some.injEq, Prod.mk.injEq, rowD, DataW.agg.injEq, List.cons.injEq, DataW.lit.injEq, Lit.int.injEq, true_and, and_true] at h
    obtain ⟨⟨rfl, rfl⟩, _⟩ := h
    rfl
  · cases h

/-- block b of w is a map of at most n entries that reads as D -/
def Own2 (w : World) (b n : Nat) (D : DataW Unit) : Prop := w.ownsMap Tryd.prog 38 rowElem b n D
theorem Own2.lt {w : World} {b n : Nat} {D : DataW Unit} (h : Own2 w b n D) : b < w.heap.size := World.ownsMap.lt h
theorem Own2.below {w w' : World} {b n B : Nat} {D : DataW Unit} (h : Own2 w b n D) (hb : Below B w w') (hB : b < B) : Own2 w' b n D := by
  obtain ⟨es, clock, hh, F, hs, hD⟩ := h
  exact ⟨es, clock, (hb.block b hB).trans hh, F, hs, hD⟩
theorem own2_made (w : World) {b : Nat} (hb : b = w.heap.size) : Own2 (w.alloc (.map #[] 0)) b 0 (.map []) := by subst hb; exact World.ownsMap_made w _ _ _

theorem run_makeMap_hint (n : Int) (w : World) : (Instr.makeMap 33 (some (.int .i64 n))).run Tryd.prog w = .ok (.map (some w.heap.size)) (w.alloc (.map #[] 0)) := by
  simp [Instr.makeMap, run_underlying Tryd.underlying33, asInt, asIntOf, Sem.run_bind, Result.andThen]

theorem zero_row (w : World) : (zeroValue 36).run Tryd.prog w = .ok (.agg #[.int .i32 0, .int .i32 0]) w := by kernel_rfl
/-- a look-up that finds its row -/
theorem wpList_lookup_row (w : World) {ops : Array Oper} {rest : List Oper} {o : Oper} {a : Act} {Q : Exit → Act → World → Prop} (hg : o.guard = none) (m x : Operand) (hop : o.op = Op.lookup 33 m x true)
    (b n : Nat) (D : DataW Unit) (hm : a.eval m = .map (some b)) (hown : Own2 w b n D) (key : Value) (kl : Lit) (hx : a.eval x = key) (hkey : keyOf Tryd.prog 38 key = some kl) (c s : Int)
    (hhas : Maps.has D kl = true) (hat : ∀ z, D.atKey kl z = rowD c s) (hK : wpList Tryd.prog ops Q rest (a.put o.dst (.tuple #[.agg #[.int .i32 c, .int .i32 s], .bool true])) w) :
    wpList Tryd.prog ops Q (o :: rest) a w :=
  wpList_lookup_own_ok w hg m x _ hop _ _ law2 Tryd.underlying33 rowElem (zero_row w) (rowD 0 0) [] (rowElem_mk 0 0) b n D hm hown key kl hx hkey (fun v ps hv => by
    rw [hat] at hv
    rw [rowElem_inv hv, hhas]
    exact hK)
theorem Own2.len {w : World} {b n : Nat} {D : DataW Unit} (h : Own2 w b n D) (ty : TypeId) : (Builtin.len_ #[33] ty #[.map (some b)]).run Tryd.prog w = .ok (.int .i64 (Maps.size D)) w :=
  World.ownsMap.len h Tryd.underlying33 ty
theorem len_none (w : World) (ty : TypeId) : (Builtin.len_ #[33] ty #[.map none]).run Tryd.prog w = .ok (.int .i64 0) w := Maps.len_nil Tryd.underlying33 ty

/-- D holds just the places below p, with all their pairs, and of place p the pairs below i, each with f's numbers -/
def TabD (f g : Nat → Nat → Int) (Q p i : Nat) (D : DataW Unit) : Prop :=
  Tidy D ∧ Maps.size D = p * Q + i ∧ (∀ p' i', p' ≤ 65536 → i' ≤ 65536 → Maps.has D (keyP p' i') = decide (i' < Q ∧ (p' < p ∨ p' = p ∧ i' < i))) ∧
    ∀ p' i', p' ≤ 65536 → i' ≤ 65536 → i' < Q ∧ (p' < p ∨ p' = p ∧ i' < i) → ∀ z, D.atKey (keyP p' i') z = rowD (f p' i') (g p' i')
theorem tabD_start (f g : Nat → Nat → Int) (Q : Nat) : TabD f g Q 0 0 (.map []) := by
  refine ⟨tidy_empty, by simp [Maps.size], fun p' i' _ _ => ?_, fun p' i' _ _ h => by omega⟩
  rw [decide_eq_false (by omega)]; rfl
theorem tabD_step {f g : Nat → Nat → Int} {Q p i : Nat} {D : DataW Unit} (h : TabD f g Q p i D) (hi : i < Q) (hp : p ≤ 65536) (hQ : Q ≤ 65536) : TabD f g Q p (i + 1) (D.put (keyP p i) (rowD (f p i) (g p i))) := by
  obtain ⟨h1, h2, h3, h4⟩ := h
  have hno : Maps.has D (keyP p i) = false := by rw [h3 p i hp (by omega), decide_eq_false (by omega)]
  refine ⟨h1.put (keyP_isKey p i) _, ?_, fun p' i' hp' hi' => ?_, fun p' i' hp' hi' hd z => ?_⟩
  · rw [size_put h1, hno, h2]; simp; omega
  · by_cases e : p' = p ∧ i' = i
    · obtain ⟨rfl, rfl⟩ := e
      rw [has_put_same h1.isMap (keyP_isKey _ _), decide_eq_true (by omega)]
    · rw [has_put_other (fun e2 => e (keyP_inj hp' hi' hp (by omega) e2)), h3 p' i' hp' hi']
      congr 1
      apply propext
      omega
  · by_cases e : p' = p ∧ i' = i
    · obtain ⟨rfl, rfl⟩ := e
      exact atKey_put_same h1.isMap (keyP_isKey _ _) _ _
    · rw [atKey_put_other (fun e2 => e (keyP_inj hp' hi' hp (by omega) e2)), h4 p' i' hp' hi' (by omega)]
theorem tabD_next {f g : Nat → Nat → Int} {Q p : Nat} {D : DataW Unit} (h : TabD f g Q p Q D) : TabD f g Q (p + 1) 0 D := by
  obtain ⟨h1, h2, h3, h4⟩ := h
  refine ⟨h1, by rw [h2, Nat.succ_mul]; rfl, fun p' i' hp' hi' => ?_, fun p' i' hp' hi' hd z => h4 p' i' hp' hi' (by omega) z⟩
  rw [h3 p' i' hp' hi']
  congr 1
  apply propext
  omega

end Go.Proofs.YtbggklhnmkiamaaDoor
