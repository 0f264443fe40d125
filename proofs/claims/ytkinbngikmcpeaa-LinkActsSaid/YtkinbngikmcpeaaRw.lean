/-
  Rows of numbers, and slices of rows, as they stand in memory; numbers that a literal lays.
-/
import Derived.Test.YtkinbngikmcpeaaMine
import Derived.Test.YtkinbngikmcpeaaMineK
namespace Go.Proofs.Ytkinbngikmcpeaa
open Go.RowKit
set_option linter.unusedVariables false

/-! ### rows, and slices of rows -/

/-- a row of numbers as it stands: where it lies, and what they are -/
structure Rw where
  a : Option Addr
  n : Nat
  cap : Nat
  v : List Int
deriving Inhabited

/-- the row q may stand so in w -/
def Rw.In (k : IntKind) (w : World) (q : Rw) : Prop := Elems k w q.a q.n q.v ∧ q.n ≤ q.cap ∧ q.cap ≤ 9223372036854775807 ∧ Sl q.a q.cap
theorem Rw.In.below {k : IntKind} {w w' : World} {q : Rw} (h : q.In k w) (hb : Below w.heap.size w w') : q.In k w' := ⟨h.1.below hb, h.2⟩

/-- A slice of rows at a (a matters only where n is above 0). -/
def Rws (k : IntKind) (w : World) (a : Option Addr) (n : Nat) (qs : List Rw) : Prop :=
  qs.length = n ∧ n ≤ 9223372036854775807 ∧ (∀ q ∈ qs, q.In k w) ∧
    (0 < n → ∃ b off, a = some ⟨b, off, none⟩ ∧ ∀ i, i < n → w.cell? ⟨b, off + i, none⟩ = some (.slice (qs.getD i default).a (qs.getD i default).n (qs.getD i default).cap))
theorem Rws.below {k : IntKind} {w w' : World} {a : Option Addr} {n : Nat} {qs : List Rw} (h : Rws k w a n qs) (hb : Below w.heap.size w w') : Rws k w' a n qs := by
  refine ⟨h.1, h.2.1, fun g hg => (h.2.2.1 g hg).below hb, fun hn => ?_⟩
  obtain ⟨b, off, rfl, hc⟩ := h.2.2.2 hn
  refine ⟨b, off, rfl, fun i hi => ?_⟩
  have h0 := hc i hi
  exact (hb.cell (p := ⟨b, _, none⟩) (World.block_lt_of_cell? _ _ h0)).trans h0
/-- one of them, as a round of a loop wants it -/
theorem Rws.at_ {k : IntKind} {w : World} {a : Option Addr} {n : Nat} {qs : List Rw} (h : Rws k w a n qs) {i : Nat} (hi : i < n) :
    ∃ b off q, a = some ⟨b, off, none⟩ ∧ b < w.heap.size ∧ w.cell? ⟨b, off + i, none⟩ = some (.slice q.a q.n q.cap) ∧ Hid (qs.getD i default = q) ∧ q.In k w := by
  obtain ⟨b, off, rfl, hc⟩ := h.2.2.2 (by omega)
  have h0 := hc i hi
  refine ⟨b, off, _, rfl, World.block_lt_of_cell? _ _ h0, h0, Lib.hid rfl, h.2.2.1 _ ?_⟩
  rw [List.getD_eq_getElem?_getD, List.getElem?_eq_getElem (by rw [h.1]; exact hi)]
  exact List.getElem_mem _
theorem Rws.nil_ (k : IntKind) (w : World) (a : Option Addr) : Rws k w a 0 [] := ⟨rfl, by omega, by simp, fun h => absurd h (by omega)⟩
/-- one row, laid in a block of its own -/
theorem rws_one {k : IntKind} {w : World} {T : TypeId} {b : Nat} (q : Rw) (h : q.In k w) (hb : b = w.heap.size) : Rws k (w.alloc (.cells #[.slice q.a q.n q.cap] T)) (some ⟨b, 0, none⟩) 1 [q] := by
  subst hb
  refine ⟨rfl, by omega, ?_, fun _ => ⟨w.heap.size, 0, rfl, fun i hi => ?_⟩⟩
  · intro x hx
    simp only [List.mem_singleton] at hx
    subst hx
    exact h.below ((Below.refl _ _).alloc (Nat.le_refl _) _)
  · obtain rfl : i = 0 := by omega
    simp only [World.cell?_alloc_new]; rfl
/-- two rows -/
theorem rws_two {k : IntKind} {w : World} {T : TypeId} {b : Nat} (p q : Rw) (h : p.In k w) (h2 : q.In k w) (hb : b = w.heap.size) : Rws k (w.alloc (.cells #[.slice p.a p.n p.cap, .slice q.a q.n q.cap] T)) (some ⟨b, 0, none⟩) 2 [p, q] := by
  subst hb
  refine ⟨rfl, by omega, ?_, fun _ => ⟨w.heap.size, 0, rfl, fun i hi => ?_⟩⟩
  · intro x hx
    simp only [List.mem_cons, List.not_mem_nil, or_false] at hx
    rcases hx with rfl | rfl
    · exact h.below ((Below.refl _ _).alloc (Nat.le_refl _) _)
    · exact h2.below ((Below.refl _ _).alloc (Nat.le_refl _) _)
  · match i, hi with
    | 0, _ => simp only [World.cell?_alloc_new]; rfl
    | 1, _ => simp only [World.cell?_alloc_new]; rfl

theorem elems_litK {kd : IntKind} {w : World} {T : TypeId} (xs : List Int) {cs : Array Value} (hcs : cs = (xs.map (Value.int kd)).toArray) {b : Nat} (hb : b = w.heap.size) (hw : ∀ x ∈ xs, (Lit.int kd x).wf = true) (hl : xs.length ≤ 100) {n : Nat} (hn : xs.length = n) : Elems kd (w.alloc (.cells cs T)) (some ⟨b, 0, none⟩) n xs := by
  subst hcs hb hn
  refine ⟨rfl, by omega, hw, fun _ => ⟨w.heap.size, 0, rfl, fun i hi => ?_⟩⟩
  rw [Nat.zero_add, World.cell?_alloc_new]
  simp [List.getD, hi]

theorem rw_in {kd : IntKind} {w : World} {b n : Nat} {xs : List Int} (h : Elems kd w (some ⟨b, 0, none⟩) n xs) (hn : n ≤ 16777216) : Rw.In kd w ⟨some ⟨b, 0, none⟩, n, n, xs⟩ :=
  ⟨h, Nat.le_refl _, by show n ≤ _; omega, ⟨fun e => (by cases e), fun x e _ => (by cases e; rfl)⟩⟩


end Go.Proofs.Ytkinbngikmcpeaa
