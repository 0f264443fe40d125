/-
  Contracts of the document's Part and Turn: the table of the cells, in new memory.
-/
import Derived.Test.YtkiedganojaniaaMine
import Derived.Test.YtkiedganojaniaaLine
import Derived.Deep.RegionLaw
namespace Go.Proofs.Ytkiedganojaniaa
open Go.RowKit
set_option linter.unusedVariables false

/-- a grid by value of r rows and c columns with the numbers xs -/
def GridV (w : World) (r c : Nat) (xs : List Int) (v : Value) : Prop := ∃ a cap, v = .agg #[.int .i64 r, .int .i64 c, .slice a xs.length cap] ∧ Elems .i32 w a xs.length xs ∧ xs.length ≤ cap ∧ cap ≤ 9223372036854775807

/-- what a loop that builds a grid cell by cell keeps: the grid that came in, the result's cells, the grid that is built, its numbers so far -/
structure OutInv (w : World) (R C : Int) (sl : Value) (m n : Int) (u : Value) (cs : List Int) (wr : World) : Prop where
  b1 : Box3 wr w.heap.size (.int .i64 R) (.int .i64 C) sl
  b2 : Box3 wr (w.heap.size + 1) (.int .i64 0) (.int .i64 0) (.slice none 0 0)
  b3 : Box3 wr (w.heap.size + 1 + 1) (.int .i64 m) (.int .i64 n) u
  own : wr.ownsRow (w.heap.size + 1 + 1 + 1) 21 1 u cs.length (cs.map (.int .i32))
  bel : Below w.heap.size w wr
  sz : w.heap.size + 1 + 1 + 1 ≤ wr.heap.size

theorem outInv_start (w : World) (R C : Int) (sl : Value) (m n : Int) (T T2 T3 : TypeId) :
    OutInv w R C sl m n (.slice none 0 0) [] (((w.alloc (.cells #[.int .i64 R, .int .i64 C, sl] T)).alloc (.cells #[.int .i64 0, .int .i64 0, .slice none 0 0] T2)).alloc (.cells #[.int .i64 m, .int .i64 n, .slice none 0 0] T3)) :=
  ⟨((box3_at rfl _ _ _ _).alloc _).alloc _, (box3_at (by simp) _ _ _ _).alloc _, box3_at (by simp) _ _ _ _, own_nil _ _ _, (((Below.refl _ _).alloc (Nat.le_refl _) _).alloc (by simp) _).alloc (by simp; omega) _, by simp⟩

/-- one number more -/
theorem OutInv.next {w : World} {R C : Int} {sl : Value} {m n : Int} {u : Value} {cs : List Int} {wr wc : World} (h : OutInv w R C sl m n u cs wr) (hb : Below wr.heap.size wr wc) (x : Int) (hl : cs.length ≤ 16777216) :
    ∃ g cap w', Sem.run Try.prog (Builtin.append_ #[27, 27] 27 #[u, .slice (some ⟨wc.heap.size, 0, none⟩) 1 1]) (wc.alloc (.cells #[.int .i32 x] 21)) = .ok (.slice (some ⟨g, 0, none⟩) (cs.length + 1) cap) w' ∧
      Box3 wc w.heap.size (.int .i64 R) (.int .i64 C) sl ∧ Box3 wc (w.heap.size + 1 + 1) (.int .i64 m) (.int .i64 n) u ∧ Box3 w' w.heap.size (.int .i64 R) (.int .i64 C) sl ∧ Box3 w' (w.heap.size + 1 + 1) (.int .i64 m) (.int .i64 n) u ∧
      OutInv w R C sl m n (.slice (some ⟨g, 0, none⟩) (cs.length + 1) cap) (cs ++ [x]) (w'.setCell ⟨w.heap.size + 1 + 1, 2, none⟩ (.slice (some ⟨g, 0, none⟩) (cs.length + 1) cap)) := by
  have own2 := own_below h.own hb
  have hsz := hb.size
  have hs := h.sz
  obtain ⟨g, cap, w', hr, hown, hg, hlt⟩ := run_append_one wc _ u cs.length cs x own2 hl (by omega)
  have hne : ∀ b, b < w.heap.size + 1 + 1 + 1 → some b ≠ u.ownBlock := fun b hb' e => by
    have := (own2.lt b e.symm).1
    omega
  have c1 := h.b1.below hb
  have c2 := h.b2.below hb
  have c3 := h.b3.below hb
  have d1 := c1.kept hg (hne _ (by omega))
  have d2 := c2.kept hg (hne _ (by omega))
  have d3 := c3.kept hg (hne _ (by omega))
  have hset := grownBy_setCell w' (w.heap.size + 1 + 1) 2 (.slice (some ⟨g, 0, none⟩) (cs.length + 1) cap)
  refine ⟨g, cap, w', hr, c1, c3, d1, d3, d1.kept hset (by simp; omega), d2.kept hset (by simp), ?_, ?_, ?_, ?_⟩
  · exact d3.set2 _
  · rw [List.length_append, List.length_singleton]
    exact own_grown hown hset (by omega)
  · have hB : Below w.heap.size w w' := (below_two h.bel hb).grown hg (by omega) (fun k hk => by have := (own2.lt k hk).1; omega)
    exact hB.setCell (p := ⟨w.heap.size + 1 + 1, 2, none⟩) (by simp; omega) _
  · simp; omega

theorem gridV_own {w : World} {base m n : Nat} {u : Value} {cs : List Int} (h : w.ownsRow base 21 1 u cs.length (cs.map (.int .i32))) (hl : cs.length ≤ 16777216) (hw : ∀ x ∈ cs, (Lit.int .i32 x).wf = true) :
    GridV w m n cs (.agg #[.int .i64 m, .int .i64 n, u]) := by
  obtain ⟨a, cap, rfl, hE⟩ := own_form h (by omega) hw
  refine ⟨a, cap, rfl, hE, ?_, ?_⟩
  · rcases h.2 with ⟨he, h0⟩ | ⟨g, cap', cur, he, _, _, hnc, hcm, _⟩
    · simp only [Value.slice.injEq] at he; omega
    · simp only [Value.slice.injEq] at he; omega
  · rcases h.2 with ⟨he, h0⟩ | ⟨g, cap', cur, he, _, _, hnc, hcm, _⟩
    · simp only [Value.slice.injEq] at he; omega
    · simp only [Value.slice.injEq] at he; unfold maxLen at hcm; omega

/-- the same behind a result that is stored in a block ahead of it -/
theorem own_elems_set {w : World} {base : Nat} {a : Option Addr} {cap : Nat} {cs : List Int} (h : w.ownsRow base 21 1 (.slice a cs.length cap) cs.length (cs.map (.int .i32))) (hl : cs.length ≤ 16777216) (hw : ∀ x ∈ cs, (Lit.int .i32 x).wf = true) {b : Nat} (hb : b < base) (p q r : Value) :
    Elems .i32 (((w.setCell ⟨b, 0, none⟩ p).setCell ⟨b, 1, none⟩ q).setCell ⟨b, 2, none⟩ r) a cs.length cs := by
  obtain ⟨a', cap', he, hE⟩ := own_form (own_grown h (grownBy_res w b p q r) hb) (by omega) hw
  simp only [Value.slice.injEq] at he
  rw [he.1]; exact hE


end Go.Proofs.Ytkiedganojaniaa
