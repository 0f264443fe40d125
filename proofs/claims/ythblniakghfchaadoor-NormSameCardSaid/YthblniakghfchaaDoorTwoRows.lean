/-
  Two rows of 32 bits that are grown side by side, each in memory of its own.
-/
import Derived.Test.YthblniakghfchaaDoorRw
import Derived.Maps.AppendAt
namespace Go.Proofs.YthblniakghfchaaDoor
open Go.RowKit
set_option linter.unusedVariables false

theorem wf16 {n : Int} (h : (Lit.int .i16 n).wf = true) : -32768 ≤ n ∧ n ≤ 32767 := by
  simp [Lit.wf, IntKind.min, IntKind.max, IntKind.signed, IntKind.bits] at h; omega

/-- one number more, behind a row of the call's own, and where the row lies then -/
theorem run_append_one_nd (w : World) (base : Nat) (v : Value) (m : Nat) (cs : List Int) (x : Int) (hown : w.ownsRow base 21 1 v m (cs.map (.int .i32))) (hm : m ≤ 16777216) (hbase : base ≤ w.heap.size) :
    ∃ v' w', Sem.run Tryd.prog (Builtin.append_ #[23, 23] 23 #[v, .slice (some ⟨w.heap.size, 0, none⟩) 1 1]) (w.alloc (.cells #[.int .i32 x] 21)) = .ok v' w' ∧
      w'.ownsRow base 21 1 v' (m + 1) ((cs ++ [x]).map (.int .i32)) ∧ w.grownBy w' v.ownBlock ∧ (v'.ownBlock = v.ownBlock ∨ v'.ownBlock = some (w.heap.size + 1)) := by
  obtain ⟨i0, hi, hj⟩ := Option.map_eq_some_iff.1 info_int32
  obtain ⟨hz0, hz1, hz2⟩ : i0.zero = some (.int .i32 0) ∧ i0.size = 1 ∧ i0.bytes = 4 := by simpa using hj
  obtain ⟨v', w', hr, h2, h3, _, h4⟩ := run_append_own_at (P := Tryd.prog) (w.alloc (.cells #[.int .i32 x] 21)) base 23 23 21 i0 _ 1 4 Tryd.underlying23 hi hz0 hz1 hz2 rfl (by omega) v m _ (hown.alloc _)
    ⟨w.heap.size, 0, none⟩ 1 1 [.int .i32 x] rfl (World.news_of_block (cs := #[.int .i32 x]) (t := 21) (fr := (0, 0)) (heap_alloc_new w _)) one_cell (by unfold maxLen; omega) (by omega) (by simp; omega)
  refine ⟨v', w', hr, by simpa using h2, (World.grownBy_alloc w _ _).trans h3, ?_⟩
  rcases h4 with h4 | h4
  · exact .inl h4
  · exact .inr (by rw [h4]; simp)

/-- two rows, each in a block of its own -/
structure Two (base : Nat) (va vb : Value) (ka kb : Nat) (ca cb : List Int) (wr : World) : Prop where
  le : base ≤ wr.heap.size
  a : wr.ownsRow base 21 1 va ka (ca.map (.int .i32))
  b : wr.ownsRow base 21 1 vb kb (cb.map (.int .i32))
  dis : ∀ g, va.ownBlock = some g → vb.ownBlock ≠ some g
theorem Two.symm {base : Nat} {va vb : Value} {ka kb : Nat} {ca cb : List Int} {wr : World} (h : Two base va vb ka kb ca cb wr) : Two base vb va kb ka cb ca wr :=
  ⟨h.le, h.b, h.a, fun g h1 h2 => h.dis g h2 h1⟩
theorem two_start (w : World) : Two w.heap.size (.slice none 0 0) (.slice none 0 0) 0 0 [] [] w := ⟨Nat.le_refl _, own_nil _ _ _, own_nil _ _ _, fun g h => by simp [Value.ownBlock] at h⟩
theorem Two.next {base : Nat} {va vb : Value} {ka kb : Nat} {ca cb : List Int} {wr : World} (h : Two base va vb ka kb ca cb wr) (hk : ka ≤ 16777216) (x : Int) :
    ∃ v' w', Sem.run Tryd.prog (Builtin.append_ #[23, 23] 23 #[va, .slice (some ⟨wr.heap.size, 0, none⟩) 1 1]) (wr.alloc (.cells #[.int .i32 x] 21)) = .ok v' w' ∧
      Two base v' vb (ka + 1) kb (ca ++ [x]) cb w' ∧ ∀ w0 : World, base = w0.heap.size → Below base w0 wr → Below base w0 w' := by
  obtain ⟨v', w', hr, h2, h3, h4⟩ := run_append_one_nd wr base va ka ca x h.a hk h.le
  refine ⟨v', w', hr, ⟨Nat.le_trans h.le h3.size, h2, h.b.kept h3 ?_, fun g hg hb => ?_⟩, fun w0 e hb => hb.grown h3 h.le (own_lt h.a)⟩
  · cases hv : vb.ownBlock with
    | none => exact .inl rfl
    | some g => exact .inr (fun e => h.dis g e.symm hv)
  · rcases h4 with h4 | h4
    · rw [h4] at hg; exact h.dis g hg hb
    · rw [hg] at h4
      have := (h.b.lt g hb).2
      have := Option.some.inj h4
      omega

theorem take_snoc (xs : List Int) (k : Nat) (hk : k < xs.length) : xs.take k ++ [xs.getD k 0] = xs.take (k + 1) := by
  rw [List.take_add_one]
  simp [List.getD, List.getElem?_eq_getElem hk]
theorem take_snoc_map (f : Int → Int) (xs : List Int) (k : Nat) (hk : k < xs.length) : (xs.take k).map f ++ [f (xs.getD k 0)] = (xs.take (k + 1)).map f := by
  rw [← take_snoc xs k hk, List.map_append]; rfl

end Go.Proofs.YthblniakghfchaaDoor
