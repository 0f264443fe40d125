/-
  A matrix, and a row of numbers of whatever kind, that come in as a row's arguments: what the walk is told of them.
-/
import Derived.Test.YtkiedganojaniaaMatOps
import Derived.Test.YtkiedganojaniaaGridRow
namespace Go.Proofs.Ytkiedganojaniaa
open Go.RowKit Go.ChangeShapes Go.WideShapes Go.Deep Go.Joins
set_option linter.unusedVariables false

section
variable {H : Type} {enc : TypeId × Value → H} {w : World}

/-- the cells of a row of numbers, read -/
theorem rw_of_reads {k : IntKind} {t e : TypeId} (ht : Try.prog.underlying t = some (.slice e)) (he : Try.prog.underlying e = some (.int k)) (hc : Try.prog.cellsOf e = 1) {n2 : Nat} {v2 : Value} {y2 : DataW H × List MemPlace} (h2 : DataW.trod enc Try.prog w 0 (fun _ => true) true n2 t [v2] = some y2) :
    ∃ q : Rw, v2 = .slice q.a q.n q.cap ∧ q.In k w := by
  rcases open_ints ht he hc h2 with ⟨hcs, _⟩ | ⟨x, l, cap, zs, hcs, _, hl, hm, hz, _, hcell, hwz⟩
  · simp only [List.cons.injEq, and_true] at hcs
    exact ⟨⟨none, 0, 0, []⟩, hcs, Elems.nil_ _ _ _, Nat.le_refl _, by show (0 : Nat) ≤ _; omega, ⟨fun _ => rfl, fun x e => (by cases e)⟩⟩
  · simp only [List.cons.injEq, and_true] at hcs
    have hzc : zs.length = cap := by simpa using hz
    obtain ⟨⟨xs, hE⟩, _, hmax⟩ := elems_of_row (k := k) (w := w) (a := some x) (len := l) (cap := cap) (zs := zs) (.inr ⟨x, rfl, hl, hm, hzc, hcell, hwz⟩)
    refine ⟨⟨some x, l, cap, xs⟩, hcs, hE, hl, hmax, ⟨fun e => (by cases e), fun y e hc => ?_⟩⟩
    cases e
    have h00 := hcell 0 (by show 0 < zs.length; rw [hzc]; exact hc)
    simpa [Addr.add] using World.cell?_spot h00

theorem open_rw {k : IntKind} {t e : TypeId} (ht : Try.prog.underlying t = some (.slice e)) (he : Try.prog.underlying e = some (.int k)) (hc : Try.prog.cellsOf e = 1) {r : Reach} {b0 : Nat} {v : Value} {d : DataW H} {p : List MemPlace} (hv : Value.okWide Try.prog w r b0 t v) (h : DataW.Trod enc Try.prog w 0 (fun _ => true) true t v d p) :
    ∃ q : Rw, v = .slice q.a q.n q.cap ∧ q.In k w := by
  obtain ⟨a, n, cap, rfl⟩ := okWide_slice ht hv
  obtain ⟨fuel, hf⟩ := h
  have hf2 : DataW.trod enc Try.prog w 0 (fun _ => true) true fuel t [.slice a n cap] = some (d, p) := by simpa [Value.cells] using hf
  exact rw_of_reads ht he hc hf2

theorem cells_mat : Try.prog.cellsOf 24 = 3 := by kernel_rfl

theorem open_mat {r : Reach} {b0 : Nat} {v : Value} {d : DataW H} {p : List MemPlace} (hv : Value.okWide Try.prog w r b0 24 v) (h : DataW.Trod enc Try.prog w 0 (fun _ => true) true 24 v d p) :
    ∃ g : Gr, v = .agg #[.int .i64 g.r, .int .i64 g.c, .slice g.a g.n g.cap] ∧ g.In8 w := by
  obtain ⟨v0, v1, v2, y0, y1, y2, m, rfl, _, _, h0, h1, h2⟩ := open_agg3 Try.underlying24 (by kernel_rfl) cells_mat hv h
  obtain ⟨r, e0, _, wr⟩ := DataW.trod_int Try.underlying3 h0
  obtain ⟨c, e1, _, wc⟩ := DataW.trod_int Try.underlying3 h1
  simp only [List.cons.injEq, and_true] at e0 e1
  subst e0 e1
  have br := wf64 wr
  have bc := wf64 wc
  obtain ⟨q, rfl, hq⟩ := rw_of_reads Try.underlying22 Try.underlying46 (by kernel_rfl) h2
  exact ⟨⟨r, c, q.a, q.n, q.cap, q.v⟩, rfl, hq.1, hq.2.1, hq.2.2.1, hq.2.2.2, br.1, br.2, bc.1, bc.2⟩
end

end Go.Proofs.Ytkiedganojaniaa
