/-
  What the laws on messages want of the contracts.
-/
import Derived.Test.YtobogkilkmnpmaaBack15
import Derived.Test.YtobogkilkmnpmaaAwake15
import Derived.Test.YtobogkilkmnpmaaLaw14
namespace Go.Proofs.Ytobogkilkmnpmaa
open Go.RowKit Go.Maps
set_option linter.unusedVariables false

/-- a copy of a message -/
structure Copy15 (x y : Ms15) (B : Nat) (w : World) : Prop where
  ok : y.In w
  kind : y.kind = x.kind
  num : ∀ i, y.num i = x.num i
  v : y.li.v = x.li.v
  n : y.li.n = x.li.n
  new : ∀ a, y.li.a = some a → B ≤ a.block
  thaw : ThT 21 w y.li.a
theorem clone_copy {x : Ms15} {B : Nat} {e : Ending} {w w' : World} (hx : x.In w) (h : CloneE x B e w') : ∃ y : Ms15, e = .returned (.agg #[.int .i64 y.kind, .int .i64 y.n0, .int .i64 y.n1, .int .i64 y.n2, .int .i64 y.n3, .int .i64 y.n4, .int .i64 y.n5, .int .i64 y.n6, .slice y.li.a y.li.n y.li.cap]) ∧ Copy15 x y B w' := by
  obtain ⟨g, rfl, h1, h2, h3, h4, h5⟩ := h
  refine ⟨withL x g, rfl, ⟨?_, rfl, fun _ => rfl, h2, h3, h4, h5⟩⟩
  obtain ⟨a0, a1, a2, a3, a4, a5, a6, a7, _⟩ := hx
  exact ⟨a0, a1, a2, a3, a4, a5, a6, a7, h1⟩
theorem Copy15.right {x y : Ms15} {B : Nat} {w : World} (h : Copy15 x y B w) : rightM y = rightM x := by
  unfold rightM
  have e : okTo (fm x.kind) y 7 = okTo (fm x.kind) x 7 := by unfold okTo; simp only [h.num]
  simp only [h.kind, h.n]
  congr 2
  exact decide_eq_decide.2 (by rw [e])
theorem Copy15.same {x y : Ms15} {B : Nat} {w : World} (h : Copy15 x y B w) : sameM y x = true := by
  have hP : sameP y x := ⟨h.kind, fun i _ => h.num i, h.v⟩
  exact decide_eq_true hP
theorem Copy15.body {x y : Ms15} {B : Nat} {w : World} (h : Copy15 x y B w) (F : Nat) : bodyM F y = bodyM F x := by
  unfold bodyM numsL
  simp only [h.num, h.n, h.v]
/-- one message, laid in a block of its own, as a slice -/
theorem row_one15 {w : World} {T : TypeId} {b : Nat} (x : Ms15) (h : x.In w) (hb : b = w.heap.size) : RowOf.In Ms15.cells (fun w x => Ms15.In w x) 9 (w.alloc (.cells #[.int .i64 x.kind, .int .i64 x.n0, .int .i64 x.n1, .int .i64 x.n2, .int .i64 x.n3, .int .i64 x.n4, .int .i64 x.n5, .int .i64 x.n6, .slice x.li.a x.li.n x.li.cap] T)) ⟨some ⟨b, 0, none⟩, 1, 1, [x]⟩ := by
  subst hb
  refine ⟨rfl, Nat.le_refl _, by show 1 ≤ _; omega, ?_, ⟨(fun e => by cases e), (fun a e _ => by cases e; rfl)⟩, fun _ => ⟨w.heap.size, 0, rfl, fun i hi j hj => ?_⟩⟩
  · intro y hy
    simp only [List.mem_singleton] at hy
    subst hy
    exact h.below ((Below.refl _ _).alloc (Nat.le_refl _) _)
  · simp only at hi
    obtain rfl : i = 0 := by omega
    rw [show 0 + 0 * 9 + j = j by omega, World.cell?_alloc_new]
    simp [Ms15.cells]
/-- two messages, likewise -/
theorem row_two15 {w : World} {T : TypeId} {b : Nat} (x y : Ms15) (h : x.In w) (h2 : y.In w) (hb : b = w.heap.size) : RowOf.In Ms15.cells (fun w x => Ms15.In w x) 9 (w.alloc (.cells #[.int .i64 x.kind, .int .i64 x.n0, .int .i64 x.n1, .int .i64 x.n2, .int .i64 x.n3, .int .i64 x.n4, .int .i64 x.n5, .int .i64 x.n6, .slice x.li.a x.li.n x.li.cap, .int .i64 y.kind, .int .i64 y.n0, .int .i64 y.n1, .int .i64 y.n2, .int .i64 y.n3, .int .i64 y.n4, .int .i64 y.n5, .int .i64 y.n6, .slice y.li.a y.li.n y.li.cap] T)) ⟨some ⟨b, 0, none⟩, 2, 2, [x, y]⟩ := by
  subst hb
  refine ⟨rfl, Nat.le_refl _, by show 2 ≤ _; omega, ?_, ⟨(fun e => by cases e), (fun a e _ => by cases e; rfl)⟩, fun _ => ⟨w.heap.size, 0, rfl, fun i hi j hj => ?_⟩⟩
  · intro z hz
    simp only [List.mem_cons, List.not_mem_nil, or_false] at hz
    rcases hz with rfl | rfl
    · exact h.below ((Below.refl _ _).alloc (Nat.le_refl _) _)
    · exact h2.below ((Below.refl _ _).alloc (Nat.le_refl _) _)
  · simp only at hi
    rw [World.cell?_alloc_new, Nat.zero_add]
    have hj9 : j = 0 ∨ j = 1 ∨ j = 2 ∨ j = 3 ∨ j = 4 ∨ j = 5 ∨ j = 6 ∨ j = 7 ∨ j = 8 := by omega
    have hi2 : i = 0 ∨ i = 1 := by omega
    rcases hi2 with rfl | rfl <;> rcases hj9 with rfl | rfl | rfl | rfl | rfl | rfl | rfl | rfl | rfl <;> simp [Ms15.cells]

/-- Bytes of whatever message: an error just if it isn't right -/
theorem bytes15_any (x : Ms15) (w : World) (h : x.In w) :
    Calls Try.prog 9 #[.agg #[.int .i64 x.kind, .int .i64 x.n0, .int .i64 x.n1, .int .i64 x.n2, .int .i64 x.n3, .int .i64 x.n4, .int .i64 x.n5, .int .i64 x.n6, .slice x.li.a x.li.n x.li.cap]] w fun e w' => (∃ (q : Rw) (E : Int), e = .returned (.tuple #[.slice q.a q.n q.cap, .int .i64 E]) ∧ (E == 0) = rightM x) ∧ Below w.heap.size w w' := by
  cases hr : rightM x with
  | true => exact (bytes15_yes x w h hr).mono (fun e w' h => by obtain ⟨⟨q, h1, _⟩, h2⟩ := h; exact ⟨⟨q, 0, h1, rfl⟩, h2⟩)
  | false => exact (bytes15_no x w h hr).mono (fun e w' h => ⟨⟨⟨none, 0, 0, []⟩, 150, h.1, rfl⟩, h.2⟩)
theorem setM15_in {x : Ms15} {w : World} (h : x.In w) (i : Nat) {z : Int} (hz : (Lit.int .i64 z).wf = true) : (setM15 x i z).In w := by
  obtain ⟨a0, a1, a2, a3, a4, a5, a6, a7, a8⟩ := h
  unfold setM15
  split <;> exact ⟨by assumption, by assumption, by assumption, by assumption, by assumption, by assumption, by assumption, by assumption, a8⟩
/-- one number of a right message turned: right just if the number is -/
theorem setM15_right {x : Ms15} (hr : rightM x = true) (i : Nat) (hi : i < 7) (z : Int) : rightM (setM15 x i z) = okn (fm x.kind) z i := by
  obtain ⟨h0, hok, hn⟩ := right_parts hr
  unfold rightM
  rw [setM15_kind, setM15_li, decide_eq_true h0, decide_eq_true hn, Bool.and_true, Bool.true_and]
  have hnum := fun j hj => setM15_num x i j z hi hj
  cases ho : okn (fm x.kind) z i with
  | true =>
    apply decide_eq_true
    intro j hj
    rw [hnum j hj]
    by_cases e : j = i
    · rw [if_pos e, e]; exact ho
    · rw [if_neg e]; exact hok j hj
  | false =>
    apply decide_eq_false
    intro h
    have := h i hi
    rw [hnum i hi, if_pos rfl, ho] at this
    cases this
theorem rw_other15_ms {x : Ms15} {w w' : World} {b : Nat} (h : x.In w) (hb : ∀ a, x.li.a = some a → 0 < x.li.n → a.block ≠ b) (hg : w.grownBy w' (some b)) : x.In w' := by
  obtain ⟨a0, a1, a2, a3, a4, a5, a6, a7, a8⟩ := h
  exact ⟨a0, a1, a2, a3, a4, a5, a6, a7, rw_other15 a8 hb hg⟩
theorem take_has (l : List Nat) (c i : Nat) (hi : i < l.length) : (l.take (i + 1)).contains c = ((l.take i).contains c || l.getD i 0 == c) := by
  rw [List.take_add_one, List.getElem?_eq_getElem hi]
  have h2 : l.getD i 0 = l[i] := by simp [List.getD, List.getElem?_eq_getElem hi]
  rw [h2]
  simp only [Option.toList_some, List.contains_eq_any_beq, List.any_append, List.any_cons, List.any_nil, Bool.or_false]
  simp [BEq.comm]

end Go.Proofs.Ytobogkilkmnpmaa
