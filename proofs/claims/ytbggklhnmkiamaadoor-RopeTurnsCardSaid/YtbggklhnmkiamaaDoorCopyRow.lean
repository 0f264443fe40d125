/-
  append([]int8{}, xs...), append([]int32{}, xs...): their runs: the same numbers in new memory.
-/
import Derived.Test.YtbggklhnmkiamaaDoorRw
import Derived.Maps.AppendAt
import Derived.Laws.OwnMore
namespace Go.Proofs.YtbggklhnmkiamaaDoor
open Go.RowKit
set_option linter.unusedVariables false

/-- append([]int8{}, xs...), where the literal lies in a block that was laid earlier: its run -/
theorem run_copy_own8 (V : World) (base l : Nat) (hown : V.ownsRow base 41 1 (.slice (some ⟨l, 0, none⟩) 0 0) 0 []) (hbase : base ≤ V.heap.size) (a : Option Addr) (n cap : Nat) (xs : List Int) (h : Elems .i8 V a n xs) (hSl : Sl a cap) (hcap : n ≤ cap) (hn : n ≤ 16777216) :
    ∃ ga gcap w', Sem.run Tryd.prog (Builtin.append_ #[26, 26] 26 #[.slice (some ⟨l, 0, none⟩) 0 0, .slice a n cap]) V = .ok (.slice (some ⟨ga, 0, none⟩) n gcap) w' ∧
      Elems .i8 w' (some ⟨ga, 0, none⟩) n xs ∧ n ≤ gcap ∧ gcap ≤ 9223372036854775807 ∧ V.grownBy w' (some l) ∧ (ga = l ∨ ga = V.heap.size) ∧ base ≤ l := by
  obtain ⟨i0, hi, hz0, hz1, hz2⟩ : ∃ i, Tryd.prog.info? 41 = some i ∧ i.zero = some (.int .i8 0) ∧ i.size = 1 ∧ i.bytes = 1 := by
    have h := info8
    cases hh : Tryd.prog.info? 41 with
    | none => rw [hh] at h; cases h
    | some i =>
      rw [hh] at h
      simp only [Option.map_some, Option.some.injEq, Prod.mk.injEq] at h
      exact ⟨i, rfl, h.1, h.2.1, h.2.2⟩
  have hlb : base ≤ l := (hown.lt l rfl).1
  cases a with
  | none =>
    obtain rfl := hSl.1 rfl
    obtain rfl : n = 0 := by omega
    have hx := h.1
    exact ⟨l, 0, _, run_append_owned_none _ base 26 26 41 i0 1 Tryd.underlying26 hi _ 0 [] hown, Elems.empty _ hx rfl, Nat.le_refl _, by omega, grownBy_refl _ _, .inl rfl, hlb⟩
  | some ad =>
    have hnews : ∀ j u, (xs.map (Value.int .i8))[j]? = some u → V.cell? (ad.add j) = some u := by
      intro j u hu
      have hl := h.1
      have hj : j < xs.length := by have := (List.getElem?_eq_some_iff.1 hu).1; simpa using this
      obtain ⟨b, off, he, _⟩ := h.2.2.2 (by omega)
      cases he
      exact h.news j u hu
    obtain ⟨v', w', hr, h2, h3, hiff, h4⟩ := run_append_own_at (P := Tryd.prog) V base 26 26 41 i0 _ 1 1 Tryd.underlying26 hi hz0 hz1 hz2 rfl (by omega) _ 0 [] hown
      ad n cap (xs.map (.int .i8)) (by rw [List.length_map, h.1, Nat.mul_one]) hnews (ints_one xs) (by unfold maxLen; omega) (by omega) hbase
    rw [List.nil_append, Nat.zero_add] at h2
    obtain ⟨a2, cap2, hv, hE⟩ := own_form h2 (by omega) h.2.2.1
    rcases h2.2 with ⟨hnil, _⟩ | ⟨g, cp, cur, hv2, hbs, hg, hnc, hcm, _⟩
    · exfalso
      have := hiff.1 hnil
      cases this.1
    · subst hv2
      simp only [Value.slice.injEq, true_and] at hv
      unfold maxLen at hcm
      refine ⟨g, cp, w', hr, ?_, hnc, hcm, h3, ?_, hlb⟩
      · rw [hv.1]; exact hE
      · simpa [Value.ownBlock] using h4


/-- a literal of no numbers, just laid, and what is copied behind it -/
theorem copy_new8 (W : World) (a : Option Addr) (n cap : Nat) (xs : List Int) (h : Rw.In .i8 W ⟨a, n, cap, xs⟩) (hn : n ≤ 16777216) :
    ∃ ga gcap w', Sem.run Tryd.prog (Builtin.append_ #[26, 26] 26 #[.slice (some ⟨W.heap.size, 0, none⟩) 0 0, .slice a n cap]) (W.alloc (.cells #[] 41)) = .ok (.slice (some ⟨ga, 0, none⟩) n gcap) w' ∧
      Rw.In .i8 w' ⟨some ⟨ga, 0, none⟩, n, gcap, xs⟩ ∧ Below W.heap.size W w' := by
  obtain ⟨hE, h1, h2, h3⟩ := h
  have hb0 : Below W.heap.size W (W.alloc (.cells #[] 41)) := (Below.refl _ _).alloc (Nat.le_refl _) _
  have hown : (W.alloc (.cells #[] 41)).ownsRow W.heap.size 41 1 (.slice (some ⟨W.heap.size, 0, none⟩) 0 0) 0 [] := World.ownsRow_lit (e := 41) (size := 1) W #[] 0 (Nat.le_refl _) (by unfold maxLen; omega) rfl
  obtain ⟨ga, gcap, w', hr, hE2, c1, c2, hg, _, _⟩ := run_copy_own8 (W.alloc (.cells #[] 41)) W.heap.size W.heap.size hown (by simp) a n cap xs (hE.below hb0) h3 h1 hn
  exact ⟨ga, gcap, w', hr, ⟨hE2, c1, c2, fun e => (by cases e), fun x e _ => (by cases e; rfl)⟩, hb0.grown hg hb0.size (fun k hk => by cases hk; exact Nat.le_refl _)⟩

end Go.Proofs.YtbggklhnmkiamaaDoor
