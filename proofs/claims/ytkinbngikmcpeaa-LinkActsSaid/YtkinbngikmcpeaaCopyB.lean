/-
  A copy of a row of bytes (bytes.Clone), in new memory.
-/
import Derived.Test.YtkinbngikmcpeaaClone8
namespace Go.Proofs.Ytkinbngikmcpeaa
open Go.RowKit
set_option linter.unusedVariables false

/-- a copy of the bytes xs -/
def CopyB (xs : List Int) (w : World) (e : Ending) (w' : World) : Prop := ∃ g : Rw, e = .returned (.slice g.a g.n g.cap) ∧ g.In .u8 w' ∧ g.v = xs ∧ (∀ x, g.a = some x → w.heap.size ≤ x.block) ∧ Below w.heap.size w w'
set_option maxRecDepth 100000 in
theorem cloneB (q : Rw) (w : World) (h : q.In .u8 w) (hn : q.n ≤ 1048576) :
    Calls Try.prog 31 #[.slice q.a q.n q.cap] w fun e w' => CopyB q.v w e w' := by
  have q22 : ∀ (w : World) (a : Option Addr) (n c n' c' : Nat), (binOp .eql 37 (.slice a n c) (.slice none n' c')).run Try.prog w = .ok (.bool a.isNone) w := fun w a n c n' c' => Lib.run_eql_slice_nil w _ _ a n c n' c' Try.underlying37
  obtain ⟨a, n, cap, v⟩ := q
  obtain ⟨hE, h1, h2, h3⟩ := h
  simp only at hE h1 h2 h3 hn ⊢
  cases a with
  | none =>
    obtain rfl := h3.1 rfl
    obtain rfl : n = 0 := by omega
    obtain rfl : v = [] := List.eq_nil_of_length_eq_zero hE.1
    clear hE
    go_enter Try.func31, Try.ntmps31
    go_wp2
    go_ret
    exact ⟨⟨none, 0, 0, []⟩, rfl, ⟨Elems.nil_ _ _ _, Nat.le_refl _, by show 0 ≤ _; omega, ⟨(fun _ => rfl), (fun x hx => by cases hx)⟩⟩, rfl, (fun x hx => by cases hx), Below.refl _ _⟩
  | some ad =>
    have hown : (w.alloc (.cells #[] 5)).ownsRow w.heap.size 5 1 (.slice (some ⟨w.heap.size, 0, none⟩) 0 0) 0 (([] : List Int).map (.int .u8)) :=
      World.ownsRow_lit (e := 5) (size := 1) w #[] 0 (Nat.le_refl _) (by unfold maxLen; omega) rfl
    have hB : Below w.heap.size w (w.alloc (.cells #[] 5)) := (Below.refl _ _).alloc (Nat.le_refl _) _
    obtain ⟨v', w', hr, ho, hg, _⟩ := run_append_elems (P := Try.prog) .u8 (w.alloc (.cells #[] 5)) w.heap.size 37 5 1 (by omega) Try.underlying37 info_u8 _ 0 [] hown (some ad) n cap v (hE.below hB) h3.1 (by omega) (by omega) hB.size
    have hb2 : Below w.heap.size w w' := hB.grown hg hB.size (fun k hk => (hown.lt k hk).1)
    obtain ⟨g, rfl, hgi, hgv, hgn, hgb⟩ := own_rw ho (by simpa using hE.2.2.1) (by omega)
    have HH : Hid (CopyB v w (.returned (.slice g.a g.n g.cap)) w') := Lib.hid ⟨g, rfl, hgi, by simpa using hgv, hgb, hb2⟩
    clear hE hown hB ho hg hb2 hgi hgv hgn hgb
    go_enter Try.func31, Try.ntmps31
    go_wp2_with (at_builtin; refine wpList_append_run (by rfl) _ _ _ (by rfl) _ _ (by rfl) (by rfl) hr ?_)
    go_ret
    exact HH.out

end Go.Proofs.Ytkinbngikmcpeaa
