/-
  A grid, and a slice of grids, that come in as a row's arguments: what the walk is told of them.
-/
import Derived.Test.YtkiedganojaniaaGrids
import Derived.Lib.SmallJoins
import Derived.Deep.Slices
import Derived.Deep.Strs
import Derived.ChangeSlices
import Derived.ChangeArms
import Derived.WideShapes
import Derived.OpenShut
namespace Go.Proofs.Ytkiedganojaniaa
open Go.RowKit Go.ChangeShapes Go.WideShapes Go.Deep Go.Joins
set_option linter.unusedVariables false

theorem cells_grid : Try.prog.cellsOf 43 = 3 := by kernel_rfl

section
variable {H : Type} {enc : TypeId × Value → H} {w : World}

/-- the three cells of a grid, read -/
theorem grid_of_reads {n0 n1 n2 : Nat} {v0 v1 v2 : Value} {y0 y1 y2 : DataW H × List MemPlace}
    (h0 : DataW.trod enc Try.prog w 0 (fun _ => true) true n0 3 [v0] = some y0) (h1 : DataW.trod enc Try.prog w 0 (fun _ => true) true n1 3 [v1] = some y1) (h2 : DataW.trod enc Try.prog w 0 (fun _ => true) true n2 27 [v2] = some y2) :
    ∃ g : Gr, v0 = .int .i64 g.r ∧ v1 = .int .i64 g.c ∧ v2 = .slice g.a g.n g.cap ∧ g.In w := by
  obtain ⟨r, e0, _, wr⟩ := DataW.trod_int Try.underlying3 h0
  obtain ⟨c, e1, _, wc⟩ := DataW.trod_int Try.underlying3 h1
  simp only [List.cons.injEq, and_true] at e0 e1
  have br := wf64 wr
  have bc := wf64 wc
  rcases open_ints Try.underlying27 Try.underlying21 (by kernel_rfl) h2 with ⟨hcs, _⟩ | ⟨x, l, cap, zs, hcs, _, hl, hm, hz, _, hcell, hwz⟩
  · simp only [List.cons.injEq, and_true] at hcs
    exact ⟨⟨r, c, none, 0, 0, []⟩, e0, e1, hcs, Elems.nil_ _ _ _, Nat.le_refl _, by show (0 : Nat) ≤ _; omega, ⟨fun _ => rfl, fun x e => (by cases e)⟩, br.1, br.2, bc.1, bc.2⟩
  · simp only [List.cons.injEq, and_true] at hcs
    have hzc : zs.length = cap := by simpa using hz
    obtain ⟨⟨xs, hE⟩, _, hmax⟩ := elems_of_row (k := .i32) (w := w) (a := some x) (len := l) (cap := cap) (zs := zs) (.inr ⟨x, rfl, hl, hm, hzc, hcell, hwz⟩)
    refine ⟨⟨r, c, some x, l, cap, xs⟩, e0, e1, hcs, hE, hl, hmax, ⟨fun e => (by cases e), fun y e hc => ?_⟩, br.1, br.2, bc.1, bc.2⟩
    cases e
    have h00 := hcell 0 (by show 0 < zs.length; rw [hzc]; exact hc)
    simpa [Addr.add] using World.cell?_spot h00

theorem open_grid {r : Reach} {b0 : Nat} {v : Value} {d : DataW H} {p : List MemPlace} (hv : Value.okWide Try.prog w r b0 43 v) (h : DataW.Trod enc Try.prog w 0 (fun _ => true) true 43 v d p) :
    ∃ g : Gr, v = .agg #[.int .i64 g.r, .int .i64 g.c, .slice g.a g.n g.cap] ∧ g.In w := by
  obtain ⟨v0, v1, v2, y0, y1, y2, m, rfl, _, _, h0, h1, h2⟩ := open_agg3 Try.underlying43 (by kernel_rfl) cells_grid hv h
  obtain ⟨g, rfl, rfl, rfl, hg⟩ := grid_of_reads h0 h1 h2
  exact ⟨g, rfl, hg⟩

theorem add_plain' (b off i : Nat) : (⟨b, off, none⟩ : Addr).add i = ⟨b, off + i, none⟩ := by
  unfold Addr.add
  split
  · rename_i e; subst e; rfl
  · rfl

theorem open_grids {r : Reach} {b0 : Nat} {v : Value} {d : DataW H} {p : List MemPlace} (hv : Value.okWide Try.prog w r b0 80 v) (h : DataW.Trod enc Try.prog w 0 (fun _ => true) true 80 v d p) :
    ∃ (a : Option Addr) (n cap : Nat) (gs : List Gr), v = .slice a n cap ∧ Grids w a n gs := by
  obtain ⟨a, n, cap, rfl⟩ := okWide_slice Try.underlying80 hv
  refine ⟨a, n, cap, ?_⟩
  obtain ⟨fuel, hf⟩ := h
  rcases open_slice Try.underlying80 hf with ⟨hcs, _⟩ | ⟨x, l, cp, m, k, D, Pl, hcs, _, hl, hm, hmm, _, hi⟩
  · simp [Value.cells] at hcs
    obtain ⟨rfl, rfl, rfl⟩ := hcs
    exact ⟨[], rfl, Grids.nil_ _ _⟩
  · simp [Value.cells] at hcs
    obtain ⟨rfl, rfl, rfl⟩ := hcs
    unfold maxLen at hm
    have hml : m = cap := by simpa using hmm
    have hone : ∀ i, i < n → ∃ g : Gr, w.cell? (x.add (i * 3)) = some (.int .i64 g.r) ∧ w.cell? ((x.add (i * 3)).add 1) = some (.int .i64 g.c) ∧ w.cell? ((x.add (i * 3)).add 2) = some (.slice g.a g.n g.cap) ∧ g.In w := by
      intro i hin
      obtain ⟨cs', hc, ht⟩ := hi i (by omega)
      rw [cells_grid] at hc
      obtain ⟨_, hcl, hat⟩ := World.cells?_some hc
      obtain ⟨c0, c1, c2, rfl⟩ : ∃ c0 c1 c2, cs' = [c0, c1, c2] := by
        match cs', hcl with
        | [c0, c1, c2], _ => exact ⟨_, _, _, rfl⟩
      obtain ⟨y0, y1, y2, q, _, _, h0, h1, h2⟩ := trod_struct3 Try.underlying43 ht
      have e0 := hat 0 (by omega)
      have e1 := hat 1 (by omega)
      have e2 := hat 2 (by omega)
      have k0 : Try.prog.cellsOf 3 = 1 := by kernel_rfl
      have k1 : Try.prog.cellsOf 27 = 1 := by kernel_rfl
      simp only [k0, k1] at h0 h1 h2
      obtain ⟨g, rfl, rfl, rfl, hg⟩ := grid_of_reads (v0 := c0) (v1 := c1) (v2 := c2) h0 h1 h2
      refine ⟨g, ?_, e1, e2, hg⟩
      simpa [Addr.add] using e0
    have hgs : ∃ f : Nat → Gr, ∀ i, i < n → w.cell? (x.add (i * 3)) = some (.int .i64 (f i).r) ∧ w.cell? ((x.add (i * 3)).add 1) = some (.int .i64 (f i).c) ∧ w.cell? ((x.add (i * 3)).add 2) = some (.slice (f i).a (f i).n (f i).cap) ∧ (f i).In w := by
      classical
      exact ⟨fun i => if h : i < n then Classical.choose (hone i h) else default, fun i hin => by simp only [dif_pos hin]; exact Classical.choose_spec (hone i hin)⟩
    obtain ⟨f, hf2⟩ := hgs
    refine ⟨(List.range n).map f, rfl, by simp, by omega, ?_, fun hn => ?_⟩
    · intro g hg
      obtain ⟨i, hin, rfl⟩ := List.mem_map.1 hg
      exact (hf2 i (List.mem_range.1 hin)).2.2.2
    · obtain ⟨b, off, spot⟩ := x
      have h00 := (hf2 0 hn).1
      have hs : spot = none := by simpa [Addr.add] using World.cell?_spot h00
      subst hs
      refine ⟨b, off, rfl, fun i hin => ?_⟩
      obtain ⟨e0, e1, e2, _⟩ := hf2 i hin
      have hd : ((List.range n).map f).getD i default = f i := by simp [List.getD, hin]
      rw [hd]
      simp only [add_plain'] at e0 e1 e2
      exact ⟨e0, e1, e2⟩
end

end Go.Proofs.Ytkiedganojaniaa
