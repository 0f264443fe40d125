/-
  A row of numbers of whatever kind, and a slice of such rows, that come in as a row's arguments: what the walk is told of them.
-/
import Derived.Test.YtkinbngikmcpeaaRw
import Derived.Lib.SmallJoins
import Derived.Deep.Slices
import Derived.Deep.Strs
import Derived.ChangeSlices
import Derived.ChangeArms
import Derived.WideShapes
import Derived.OpenShut
namespace Go.Proofs.Ytkinbngikmcpeaa
open Go.RowKit Go.ChangeShapes Go.WideShapes Go.Deep Go.Joins
set_option linter.unusedVariables false

/-- what the kit's shell says of a slice of numbers that came in, as a row -/
theorem rw_of_row {k : IntKind} {w : World} {a : Option Addr} {len cap : Nat} {zs : List Int}
    (h : (a = none ∧ len = 0 ∧ cap = 0 ∧ zs = []) ∨ ∃ x, a = some x ∧ len ≤ cap ∧ cap ≤ maxLen ∧ zs.length = cap ∧ (∀ i, i < zs.length → w.cell? (x.add i) = some (.int k (zs.getD i 0))) ∧ ∀ n ∈ zs, (Lit.int k n).wf = true) :
    ∃ xs, Rw.In k w ⟨a, len, cap, xs⟩ := by
  obtain ⟨⟨xs, hE⟩, h1, h2⟩ := elems_of_row h
  refine ⟨xs, hE, h1, h2, ?_⟩
  rcases h with ⟨rfl, _, rfl, _⟩ | ⟨x, rfl, _, _, hz, hc, _⟩
  · exact ⟨fun _ => rfl, fun x e => by cases e⟩
  · refine ⟨fun e => (by cases e), fun y e h0 => ?_⟩
    cases e
    have h00 := hc 0 (by rw [hz]; exact h0)
    simpa [Addr.add] using World.cell?_spot h00

section
variable {H : Type} {enc : TypeId × Value → H} {w : World}

/-- the cells of a row of numbers, read -/
theorem rw_of_reads {k : IntKind} {t e : TypeId} (ht : Try.prog.underlying t = some (.slice e)) (he : Try.prog.underlying e = some (.int k)) (hc : Try.prog.cellsOf e = 1) {n2 : Nat} {v2 : Value} {y2 : DataW H × List MemPlace} (h2 : DataW.trod enc Try.prog w 0 (fun _ => true) true n2 t [v2] = some y2) :
    ∃ q : Rw, v2 = .slice q.a q.n q.cap ∧ q.In k w := by
  rcases open_ints ht he hc h2 with ⟨hcs, _⟩ | ⟨x, l, cap, zs, hcs, _, hl, hm, hz, _, hcell, hwz⟩
  · simp only [List.cons.injEq, and_true] at hcs
    exact ⟨⟨none, 0, 0, []⟩, hcs, Elems.nil_ _ _ _, Nat.le_refl _, by show (0 : Nat) ≤ _; omega, ⟨fun _ => rfl, fun x e => (by cases e)⟩⟩
  · simp only [List.cons.injEq, and_true] at hcs
    have hzc : zs.length = cap := by simpa using hz
    obtain ⟨⟨xs, hE⟩, _, hmax⟩ := elems_of_row (k := k) (w := w) (a := some x) (len := l) (cap := cap) (zs := zs) (.inr ⟨x, rfl, hl, hm, hzc, hcell, hwz⟩)
    refine ⟨⟨some x, l, cap, xs⟩, hcs, hE, hl, hmax, ⟨fun e => (by cases e), fun y e hc => ?_⟩⟩
    cases e
    have h00 := hcell 0 (by show 0 < zs.length; rw [hzc]; exact hc)
    simpa [Addr.add] using World.cell?_spot h00

set_option maxRecDepth 100000 in
theorem open_rw {k : IntKind} {t e : TypeId} (ht : Try.prog.underlying t = some (.slice e)) (he : Try.prog.underlying e = some (.int k)) (hc : Try.prog.cellsOf e = 1) {r : Reach} {b0 : Nat} {v : Value} {d : DataW H} {p : List MemPlace} (hv : Value.okWide Try.prog w r b0 t v) (h : DataW.Trod enc Try.prog w 0 (fun _ => true) true t v d p) :
    ∃ q : Rw, v = .slice q.a q.n q.cap ∧ q.In k w := by
  obtain ⟨a, n, cap, rfl⟩ := okWide_slice ht hv
  obtain ⟨fuel, hf⟩ := h
  have hf2 : DataW.trod enc Try.prog w 0 (fun _ => true) true fuel t [.slice a n cap] = some (d, p) := by simpa [Value.cells] using hf
  exact rw_of_reads ht he hc hf2

set_option maxRecDepth 100000 in
theorem open_rws {kd : IntKind} {tt t e : TypeId} (htt : Try.prog.underlying tt = some (.slice t)) (hct : Try.prog.cellsOf t = 1) (ht : Try.prog.underlying t = some (.slice e)) (he : Try.prog.underlying e = some (.int kd)) (hc : Try.prog.cellsOf e = 1) {r : Reach} {b0 : Nat} {v : Value} {d : DataW H} {p : List MemPlace}
    (hv : Value.okWide Try.prog w r b0 tt v) (h : DataW.Trod enc Try.prog w 0 (fun _ => true) true tt v d p) :
    ∃ (a : Option Addr) (n cap : Nat) (qs : List Rw), v = .slice a n cap ∧ Rws kd w a n qs ∧ n ≤ cap ∧ cap ≤ 9223372036854775807 ∧ Sl a cap := by
  obtain ⟨a, n, cap, rfl⟩ := okWide_slice htt hv
  refine ⟨a, n, cap, ?_⟩
  obtain ⟨fuel, hf⟩ := h
  rcases open_slice htt hf with ⟨hcs, _⟩ | ⟨x, l, cp, m, k, D, Pl, hcs, _, hl, hm, hmm, _, hi⟩
  · simp [Value.cells] at hcs
    obtain ⟨rfl, rfl, rfl⟩ := hcs
    exact ⟨[], rfl, Rws.nil_ _ _ _, Nat.le_refl _, by omega, fun _ => rfl, fun x e => (by cases e)⟩
  · simp [Value.cells] at hcs
    obtain ⟨rfl, rfl, rfl⟩ := hcs
    unfold maxLen at hm
    have hml : m = cap := by simpa using hmm
    have hone : ∀ i, i < m → ∃ q : Rw, w.cell? (x.add (i * 1)) = some (.slice q.a q.n q.cap) ∧ q.In kd w := by
      intro i hin
      obtain ⟨cs', hc', ht'⟩ := hi i (by omega)
      rw [hct] at hc'
      obtain ⟨_, hcl, hat⟩ := World.cells?_some hc'
      obtain ⟨c0, rfl⟩ : ∃ c0, cs' = [c0] := by
        match cs', hcl with
        | [c0], _ => exact ⟨_, rfl⟩
      have e0 := hat 0 (by omega)
      obtain ⟨q, rfl, hq⟩ := rw_of_reads ht he hc ht'
      refine ⟨q, ?_, hq⟩
      simpa [Addr.add] using e0
    have hgs : ∃ f : Nat → Rw, ∀ i, i < m → w.cell? (x.add (i * 1)) = some (.slice (f i).a (f i).n (f i).cap) ∧ (f i).In kd w := by
      classical
      exact ⟨fun i => if h : i < m then Classical.choose (hone i h) else default, fun i hin => by simp only [dif_pos hin]; exact Classical.choose_spec (hone i hin)⟩
    obtain ⟨f, hf2⟩ := hgs
    refine ⟨(List.range n).map f, rfl, ⟨by simp, by omega, ?_, fun hn => ?_⟩, hl, by omega, fun e => (by cases e), fun y e h0 => ?_⟩
    · intro g hg
      obtain ⟨i, hin, rfl⟩ := List.mem_map.1 hg
      have := List.mem_range.1 hin
      exact (hf2 i (by omega)).2
    · obtain ⟨b, off, spot⟩ := x
      have h00 := (hf2 0 (by omega)).1
      have hs : spot = none := by simpa [Addr.add] using World.cell?_spot h00
      subst hs
      refine ⟨b, off, rfl, fun i hin => ?_⟩
      obtain ⟨e0, _⟩ := hf2 i (by omega)
      have hd : ((List.range n).map f).getD i default = f i := by simp [List.getD, hin]
      rw [hd]
      simp only [add_plain', Nat.mul_one] at e0
      exact e0
    · cases e
      have h00 := (hf2 0 (by omega)).1
      simpa [Addr.add] using World.cell?_spot h00
end

end Go.Proofs.Ytkinbngikmcpeaa
