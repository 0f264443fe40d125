/-
  Slices of whatever elements that come in as a row's arguments: what the walk is told of them.
-/
import Derived.Test.YtkinbngikmcpeaaRwRow
import Derived.Test.YtkinbngikmcpeaaNew7
import Derived.Lib.SmallJoins
import Derived.Deep.Slices
import Derived.Deep.Strs
import Derived.ChangeSlices
import Derived.ChangeArms
import Derived.WideShapes
import Derived.OpenShut
namespace Go.Proofs.Ytkinbngikmcpeaa
open Go.RowKit Go.ChangeShapes Go.WideShapes Go.Deep Go.Joins
set_option linter.unusedVariables false

/-- a slice, and what its elements are -/
structure RowOf (α : Type) where
  a : Option Addr
  n : Nat
  cap : Nat
  xs : List α
deriving Inhabited
/-- the slice stands in w: each element's cells, one behind the other -/
def RowOf.In {α : Type} [Inhabited α] (cells : α → List Value) (In : World → α → Prop) (sz : Nat) (w : World) (s : RowOf α) : Prop :=
  s.xs.length = s.n ∧ s.n ≤ s.cap ∧ s.cap ≤ 9223372036854775807 ∧ (∀ x ∈ s.xs, In w x) ∧ Sl s.a s.cap ∧ (0 < s.n → ∃ b off, s.a = some ⟨b, off, none⟩ ∧ ∀ i, i < s.n → ∀ j, j < sz → w.cell? ⟨b, off + i * sz + j, none⟩ = (cells (s.xs.getD i default))[j]?)
section
variable {α : Type} [Inhabited α] {cells : α → List Value} {In : World → α → Prop} {sz : Nat} {w w' : World} {s : RowOf α}
theorem RowOf.In.below (h : s.In cells In sz w) (hc : ∀ x, (cells x).length = sz) (hb : Below w.heap.size w w') (hi : ∀ x, In w x → In w' x) : s.In cells In sz w' := by
  refine ⟨h.1, h.2.1, h.2.2.1, fun x hx => hi x (h.2.2.2.1 x hx), h.2.2.2.2.1, fun hn => ?_⟩
  obtain ⟨b, off, ha, hcell⟩ := h.2.2.2.2.2 hn
  refine ⟨b, off, ha, fun i hi j hj => ?_⟩
  have h0 := hcell i hi j hj
  rw [List.getElem?_eq_getElem (by rw [hc]; exact hj)] at h0 ⊢
  rw [World.cell?_of_block (w := w) (a := ⟨b, off + i * sz + j, none⟩) (hb.block b (World.block_lt_of_cell? _ _ h0))]
  exact h0
theorem RowOf.In.at_ (h : s.In cells In sz w) {i : Nat} (hi : i < s.n) : ∃ b off x, s.a = some ⟨b, off, none⟩ ∧ s.xs.getD i default = x ∧ x ∈ s.xs ∧ In w x ∧ ∀ j, j < sz → w.cell? ⟨b, off + i * sz + j, none⟩ = (cells x)[j]? := by
  obtain ⟨b, off, ha, hcell⟩ := h.2.2.2.2.2 (by omega)
  have hm : s.xs.getD i default ∈ s.xs := by
    have hl : i < s.xs.length := by rw [h.1]; exact hi
    rw [List.getD_eq_getElem?_getD, List.getElem?_eq_getElem hl]
    exact List.getElem_mem hl
  exact ⟨b, off, _, ha, rfl, hm, h.2.2.2.1 _ hm, fun j hj => hcell i hi j hj⟩
end

section
variable {H : Type} {enc : TypeId × Value → H} {w : World}
theorem rowOf_reads {α : Type} [Inhabited α] (cells : α → List Value) (In : World → α → Prop) (sz : Nat) {t e : TypeId} (ht : Try.prog.underlying t = some (.slice e)) (hsz : Try.prog.cellsOf e = sz) (h0 : 0 < sz) (hc : ∀ x, (cells x).length = sz)
    (hr : ∀ n cs y, DataW.trod enc Try.prog w 0 (fun _ => true) true n e cs = some y → ∃ x, cs = cells x ∧ In w x) {n2 : Nat} {v2 : Value} {y2 : DataW H × List MemPlace} (h2 : DataW.trod enc Try.prog w 0 (fun _ => true) true n2 t [v2] = some y2) :
    ∃ s : RowOf α, v2 = .slice s.a s.n s.cap ∧ s.In cells In sz w := by
  rcases open_slice ht h2 with ⟨hcs, _⟩ | ⟨x, n, cp, m, k, D, Pl, hcs, _, hl, hm, hmm, _, hi⟩
  · simp only [List.cons.injEq, and_true] at hcs
    exact ⟨⟨none, 0, 0, []⟩, hcs, rfl, Nat.le_refl _, by simp, by simp, ⟨fun _ => rfl, fun x e => (by cases e)⟩, fun h => absurd h (by simp)⟩
  · simp only [List.cons.injEq, and_true] at hcs
    unfold maxLen at hm
    have hml : m = cp := by simpa using hmm
    have hone : ∀ i, i < cp → ∃ y : α, In w y ∧ ∀ j, j < sz → w.cell? ((x.add (i * sz)).add j) = (cells y)[j]? := by
      intro i hin
      obtain ⟨cs', hcc, hcell⟩ := hi i (by omega)
      rw [hsz] at hcc
      obtain ⟨_, hcl, hat⟩ := World.cells?_some hcc
      obtain ⟨y, rfl, hy⟩ := hr _ _ _ hcell
      exact ⟨y, hy, fun j hj => hat j hj⟩
    have hex : ∃ f : Nat → α, ∀ i, i < cp → In w (f i) ∧ ∀ j, j < sz → w.cell? ((x.add (i * sz)).add j) = (cells (f i))[j]? := by
      classical
      exact ⟨fun i => if h : i < cp then Classical.choose (hone i h) else default, fun i hin => by simp only [dif_pos hin]; exact Classical.choose_spec (hone i hin)⟩
    obtain ⟨f, hf⟩ := hex
    have hspot : 0 < cp → x.spot = none := fun hc0 => by
      have h1 := (hf 0 hc0).2 0 h0
      rw [List.getElem?_eq_getElem (by rw [hc]; exact h0)] at h1
      simpa [Addr.add] using World.cell?_spot h1
    refine ⟨⟨some x, n, cp, (List.range n).map f⟩, hcs, by simp, hl, by show cp ≤ _; omega, fun y hy => ?_, ⟨fun e => (by cases e), fun y e hcc => (by cases e; exact hspot hcc)⟩, fun hn => ?_⟩
    · obtain ⟨i, hin, rfl⟩ := List.mem_map.1 hy
      exact (hf i (by have := List.mem_range.1 hin; omega)).1
    · obtain ⟨b, off, spot⟩ := x
      have hs : spot = none := hspot (by simp only at hn; omega)
      subst hs
      refine ⟨b, off, rfl, fun i hin j hj => ?_⟩
      simp only at hin
      have e1 := (hf i (by omega)).2 j hj
      have hd : ((List.range n).map f).getD i default = f i := by simp [List.getD, hin]
      rw [hd]
      simpa only [add_plain'] using e1
theorem open_rowOf {α : Type} [Inhabited α] (cells : α → List Value) (In : World → α → Prop) (sz : Nat) {t e : TypeId} (ht : Try.prog.underlying t = some (.slice e)) (hsz : Try.prog.cellsOf e = sz) (h0 : 0 < sz) (hc : ∀ x, (cells x).length = sz)
    (hr : ∀ n cs y, DataW.trod enc Try.prog w 0 (fun _ => true) true n e cs = some y → ∃ x, cs = cells x ∧ In w x) {r : Reach} {b0 : Nat} {v : Value} {d : DataW H} {p : List MemPlace} (hv : Value.okWide Try.prog w r b0 t v) (h : DataW.Trod enc Try.prog w 0 (fun _ => true) true t v d p) :
    ∃ s : RowOf α, v = .slice s.a s.n s.cap ∧ s.In cells In sz w := by
  obtain ⟨a, n, cap, rfl⟩ := okWide_slice ht hv
  obtain ⟨fuel, hf⟩ := h
  have hf2 : DataW.trod enc Try.prog w 0 (fun _ => true) true fuel t [.slice a n cap] = some (d, p) := by simpa [Value.cells] using hf
  exact rowOf_reads cells In sz ht hsz h0 hc hr hf2
end

/-- rows of numbers as elements -/
def rwCells (q : Rw) : List Value := [.slice q.a q.n q.cap]
theorem rwCells_reads {H : Type} {enc : TypeId × Value → H} {w : World} {k : IntKind} {t e : TypeId} (ht : Try.prog.underlying t = some (.slice e)) (he : Try.prog.underlying e = some (.int k)) (hc : Try.prog.cellsOf e = 1) (hct : Try.prog.cellsOf t = 1) (n : Nat) (cs : List Value) (y : DataW H × List MemPlace)
    (h : DataW.trod enc Try.prog w 0 (fun _ => true) true n t cs = some y) : ∃ q : Rw, cs = rwCells q ∧ q.In k w := by
  have hl : ∃ v, cs = [v] := by
    rcases open_ints ht he hc h with ⟨hcs, _⟩ | ⟨x, l, cap, zs, hcs, _⟩
    · exact ⟨_, hcs⟩
    · exact ⟨_, hcs⟩
  obtain ⟨v, rfl⟩ := hl
  obtain ⟨q, rfl, hq⟩ := rw_of_reads ht he hc h
  exact ⟨q, rfl, hq⟩

end Go.Proofs.Ytkinbngikmcpeaa
