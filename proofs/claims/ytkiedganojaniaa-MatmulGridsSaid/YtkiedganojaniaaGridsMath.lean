/-
  A matrix' product as the product of its grid with the row as a column.
-/
import Derived.Test.YtkiedganojaniaaMatOps
import Derived.Test.YtkiedganojaniaaRefTimes
import Derived.Test.YtkiedganojaniaaQuants
namespace Go.Proofs.Ytkiedganojaniaa
open Go.RowKit
set_option linter.unusedVariables false

theorem zip_range (xs ys : List Int) (n : Nat) (hx : xs.length = n) (hy : ys.length = n) : List.zipWith (· * ·) xs ys = (List.range n).map fun t => xs.getD t 0 * ys.getD t 0 := by
  refine List.ext_getElem? fun i => ?_
  by_cases hi : i < n
  · rw [List.getElem?_zipWith, List.getElem?_eq_getElem (show i < xs.length by omega), List.getElem?_eq_getElem (show i < ys.length by omega), List.getElem?_map, List.getElem?_range hi]
    simp [List.getD, List.getElem?_eq_getElem (show i < xs.length by omega), List.getElem?_eq_getElem (show i < ys.length by omega)]
  · rw [List.getElem?_eq_none (by simp; omega), List.getElem?_eq_none (by simp; omega)]
/-- the product with a row, as a product of grids -/
theorem mv_grid (v xs : List Int) (R C : Nat) (hv : v.length = R * C) (hx : xs.length = C) : (tab R 1 fun i j => prod v xs C 1 i j) = mv v xs R C := by
  have e : (tab R 1 fun i j => prod v xs C 1 i j) = (List.range R).map fun i => prod v xs C 1 i 0 := by
    unfold tab
    rw [show (List.range 1) = [0] from rfl]
    simp only [List.map_cons, List.map_nil]
    exact (List.map_eq_flatMap).symm
  rw [e]
  unfold mv
  refine List.map_congr_left fun i hi => ?_
  have hi := List.mem_range.1 hi
  unfold prod psum wsum prods
  rw [zip_range (rowOf v C i) xs C (rowOf_length hv hi) hx]
  congr 2
  refine List.map_congr_left fun t ht => ?_
  have ht := List.mem_range.1 ht
  rw [rowOf_at _ _ _ _ ht, Nat.mul_one, Nat.add_zero]
/-- brought down by nothing a number stays -/
theorem qua_same (v : List Int) (hw : ∀ x ∈ v, (Lit.int .i8 x).wf = true) : v.map (qua · 1 0) = v := by
  conv => rhs; rw [← List.map_id v]
  refine List.map_congr_left fun x hx => ?_
  have := wf8 (hw x hx)
  unfold qua shr near
  simp
  omega

/-- what a loop keeps that lays a column number by number: a box ahead of it, the column's box, its numbers so far -/
structure ColInv (wd : World) (p q r : Value) (m n : Int) (u : Value) (k : Nat) (cs : List Int) (wr : World) : Prop where
  b0 : Box3 wr wd.heap.size p q r
  b1 : Box3 wr (wd.heap.size + 1) (.int .i64 m) (.int .i64 n) u
  own : wr.ownsRow (wd.heap.size + 2) 21 1 u k (cs.map (.int .i32))
  bel : Below wd.heap.size wd wr
  sz : wd.heap.size + 2 ≤ wr.heap.size

theorem ColInv.next {wd : World} {p q r : Value} {m n : Int} {u : Value} {k : Nat} {cs : List Int} {wr : World} (h : ColInv wd p q r m n u k cs wr) (x : Int) (hl : k ≤ 16777216) :
    ∃ g cap w', Sem.run Try.prog (Builtin.append_ #[27, 27] 27 #[u, .slice (some ⟨wr.heap.size, 0, none⟩) 1 1]) (wr.alloc (.cells #[.int .i32 x] 21)).drew = .ok (.slice (some ⟨g, 0, none⟩) (k + 1) cap) w' ∧
      Box3 w' (wd.heap.size + 1) (.int .i64 m) (.int .i64 n) u ∧ (∀ b o v, b < wd.heap.size → wr.cell? ⟨b, o, none⟩ = some v → w'.cell? ⟨b, o, none⟩ = some v) ∧
      ColInv wd p q r m n (.slice (some ⟨g, 0, none⟩) (k + 1) cap) (k + 1) (cs ++ [x]) (w'.setCell ⟨wd.heap.size + 1, 2, none⟩ (.slice (some ⟨g, 0, none⟩) (k + 1) cap)) := by
  have hown0 : wr.drew.ownsRow (wd.heap.size + 2) 21 1 u k (cs.map (.int .i32)) := h.own
  obtain ⟨g, cap, w', hr, hown, hg, hlt⟩ := run_append_one wr.drew (wd.heap.size + 2) u k cs x hown0 hl h.sz
  have hne : ∀ b, b < wd.heap.size + 2 → some b ≠ u.ownBlock := fun b hb' e => by
    have := (h.own.lt b e.symm).1
    omega
  have hg2 : wr.grownBy w' u.ownBlock := (grownBy_drew wr _).trans hg
  have d0 := h.b0.kept hg2 (hne _ (by omega))
  have d1 := h.b1.kept hg2 (hne _ (by omega))
  have hset := grownBy_setCell w' (wd.heap.size + 1) 2 (.slice (some ⟨g, 0, none⟩) (k + 1) cap)
  have hsz := hg2.size
  have hs := h.sz
  refine ⟨g, cap, w', hr, d1, fun b o v hb hc => hg2.cell hc (hne b (by omega)), d0.kept hset (by simp), d1.set2 _, own_grown hown hset (by omega), ?_, by simp; omega⟩
  have hB : Below wd.heap.size wd w' := h.bel.grown hg2 (by omega) (fun i hi => by have := (h.own.lt i hi).1; omega)
  exact hB.setCell (p := ⟨wd.heap.size + 1, 2, none⟩) (by simp) _

end Go.Proofs.Ytkiedganojaniaa
