/-
  append([]int8{}, xs...): its run: the same numbers in new memory.
-/
import Derived.Test.YtkiedganojaniaaMatOps
import Derived.Maps.AppendAt
import Derived.Laws.OwnMore
import Derived.Deep.RegionHeld3
namespace Go.Proofs.Ytkiedganojaniaa
open Go.RowKit
set_option linter.unusedVariables false

/-- append([]int8{}, xs...): its run -/
theorem run_copy_v8 (W : World) (a : Option Addr) (n cap : Nat) (xs : List Int) (h : Elems .i8 W a n xs) (hSl : Sl a cap) (hcap : n ≤ cap) (hn : n ≤ 16777216) :
    ∃ ga gcap w', Sem.run Try.prog (Builtin.append_ #[22, 22] 22 #[.slice (some ⟨W.heap.size, 0, none⟩) 0 0, .slice a n cap]) (W.alloc (.cells #[] 46)).drew = .ok (.slice (some ⟨ga, 0, none⟩) n gcap) w' ∧
      Elems .i8 w' (some ⟨ga, 0, none⟩) n xs ∧ n ≤ gcap ∧ gcap ≤ 9223372036854775807 ∧ Below W.heap.size W w' ∧ W.heap.size ≤ ga ∧ ga < w'.heap.size := by
  obtain ⟨i0, hi, hz0, hz1, hz2⟩ : ∃ i, Try.prog.info? 46 = some i ∧ i.zero = some (.int .i8 0) ∧ i.size = 1 ∧ i.bytes = 1 := by
    have h := info8
    cases hh : Try.prog.info? 46 with
    | none => rw [hh] at h; cases h
    | some i =>
      rw [hh] at h
      simp only [Option.map_some, Option.some.injEq, Prod.mk.injEq] at h
      exact ⟨i, rfl, h.1, h.2.1, h.2.2⟩
  have hown0 : (W.alloc (.cells #[] 46)).ownsRow W.heap.size 46 1 (.slice (some ⟨W.heap.size, 0, none⟩) 0 0) 0 [] :=
    World.ownsRow_lit (e := 46) (size := 1) W #[] 0 (Nat.le_refl _) (by unfold maxLen; omega) rfl
  have hown : (W.alloc (.cells #[] 46)).drew.ownsRow W.heap.size 46 1 (.slice (some ⟨W.heap.size, 0, none⟩) 0 0) 0 [] := hown0
  have hB : Below W.heap.size W (W.alloc (.cells #[] 46)).drew := ((Below.refl _ _).alloc (Nat.le_refl _) _).drew
  cases a with
  | none =>
    obtain rfl := hSl.1 rfl
    obtain rfl : n = 0 := by omega
    have hx := h.1
    refine ⟨W.heap.size, 0, _, run_append_owned_none _ W.heap.size 22 22 46 i0 1 Try.underlying22 hi _ 0 [] hown, ?_, Nat.le_refl _, by omega, hB, Nat.le_refl _, by simp [World.drew]⟩
    exact Elems.empty _ hx rfl
  | some ad =>
    have hnews : ∀ j u, (xs.map (Value.int .i8))[j]? = some u → (W.alloc (.cells #[] 46)).drew.cell? (ad.add j) = some u := by
      intro j u hu
      have hl := h.1
      have hj : j < xs.length := by have := (List.getElem?_eq_some_iff.1 hu).1; simpa using this
      obtain ⟨b, off, he, _⟩ := h.2.2.2 (by omega)
      cases he
      exact ((h.below hB).news) j u hu
    obtain ⟨v', w', hr, h2, h3, hiff, h4⟩ := run_append_own_at (P := Try.prog) (W.alloc (.cells #[] 46)).drew W.heap.size 22 22 46 i0 _ 1 1 Try.underlying22 hi hz0 hz1 hz2 rfl (by omega) _ 0 [] hown
      ad n cap (xs.map (.int .i8)) (by rw [List.length_map, h.1, Nat.mul_one]) hnews (ints_one xs) (by unfold maxLen; omega) (by omega) (by simp [World.drew])
    rw [List.nil_append, Nat.zero_add] at h2
    have hb2 : Below W.heap.size W w' := hB.grown h3 (by simp [World.drew]) (fun k hk => by simp [Value.ownBlock] at hk; omega)
    obtain ⟨a2, cap2, hv, hE⟩ := own_form h2 (by omega) h.2.2.1
    rcases h2.2 with ⟨hnil, _⟩ | ⟨g, cp, cur, hv2, hbs, hg, hnc, hcm, _⟩
    · exfalso
      have := hiff.1 hnil
      cases this.1
    · subst hv2
      simp only [Value.slice.injEq, true_and] at hv
      unfold maxLen at hcm
      refine ⟨g, cp, w', hr, ?_, hnc, hcm, hb2, hbs, (Array.getElem?_eq_some_iff.1 hg).1⟩
      rw [hv.1]; exact hE

/-- the same where the literal lies in a block that was laid earlier -/
theorem run_copy_own8 (V : World) (base l : Nat) (hown : V.ownsRow base 46 1 (.slice (some ⟨l, 0, none⟩) 0 0) 0 []) (hbase : base ≤ V.heap.size) (a : Option Addr) (n cap : Nat) (xs : List Int) (h : Elems .i8 V a n xs) (hSl : Sl a cap) (hcap : n ≤ cap) (hn : n ≤ 16777216) :
    ∃ ga gcap w', Sem.run Try.prog (Builtin.append_ #[22, 22] 22 #[.slice (some ⟨l, 0, none⟩) 0 0, .slice a n cap]) V = .ok (.slice (some ⟨ga, 0, none⟩) n gcap) w' ∧
      Elems .i8 w' (some ⟨ga, 0, none⟩) n xs ∧ n ≤ gcap ∧ gcap ≤ 9223372036854775807 ∧ V.grownBy w' (some l) ∧ (ga = l ∨ ga = V.heap.size) ∧ base ≤ l := by
  obtain ⟨i0, hi, hz0, hz1, hz2⟩ : ∃ i, Try.prog.info? 46 = some i ∧ i.zero = some (.int .i8 0) ∧ i.size = 1 ∧ i.bytes = 1 := by
    have h := info8
    cases hh : Try.prog.info? 46 with
    | none => rw [hh] at h; cases h
    | some i =>
      rw [hh] at h
      simp only [Option.map_some, Option.some.injEq, Prod.mk.injEq] at h
      exact ⟨i, rfl, h.1, h.2.1, h.2.2⟩
  have hlb : base ≤ l := (hown.lt l rfl).1
  cases a with
  | none =>
    obtain rfl := hSl.1 rfl
    obtain rfl : n = 0 := by omega
    have hx := h.1
    exact ⟨l, 0, _, run_append_owned_none _ base 22 22 46 i0 1 Try.underlying22 hi _ 0 [] hown, Elems.empty _ hx rfl, Nat.le_refl _, by omega, grownBy_refl _ _, .inl rfl, hlb⟩
  | some ad =>
    have hnews : ∀ j u, (xs.map (Value.int .i8))[j]? = some u → V.cell? (ad.add j) = some u := by
      intro j u hu
      have hl := h.1
      have hj : j < xs.length := by have := (List.getElem?_eq_some_iff.1 hu).1; simpa using this
      obtain ⟨b, off, he, _⟩ := h.2.2.2 (by omega)
      cases he
      exact h.news j u hu
    obtain ⟨v', w', hr, h2, h3, hiff, h4⟩ := run_append_own_at (P := Try.prog) V base 22 22 46 i0 _ 1 1 Try.underlying22 hi hz0 hz1 hz2 rfl (by omega) _ 0 [] hown
      ad n cap (xs.map (.int .i8)) (by rw [List.length_map, h.1, Nat.mul_one]) hnews (ints_one xs) (by unfold maxLen; omega) (by omega) hbase
    rw [List.nil_append, Nat.zero_add] at h2
    obtain ⟨a2, cap2, hv, hE⟩ := own_form h2 (by omega) h.2.2.1
    rcases h2.2 with ⟨hnil, _⟩ | ⟨g, cp, cur, hv2, hbs, hg, hnc, hcm, _⟩
    · exfalso
      have := hiff.1 hnil
      cases this.1
    · subst hv2
      simp only [Value.slice.injEq, true_and] at hv
      unfold maxLen at hcm
      refine ⟨g, cp, w', hr, ?_, hnc, hcm, h3, ?_, hlb⟩
      · rw [hv.1]; exact hE
      · simpa [Value.ownBlock] using h4

/-- three cells of a block, stored anew -/
theorem Box3.res {w : World} {b : Nat} {p q r : Value} (h : Box3 w b p q r) (p' q' r' : Value) : Box3 (((w.setCell ⟨b, 0, none⟩ p').setCell ⟨b, 1, none⟩ q').setCell ⟨b, 2, none⟩ r') b p' q' r' := by
  obtain ⟨h1, c0, c1, c2, f0, f1, f2⟩ := h
  have e0 : (((w.setCell ⟨b, 0, none⟩ p').setCell ⟨b, 1, none⟩ q').setCell ⟨b, 2, none⟩ r').cell? ⟨b, 0, none⟩ = some p' := by
    rw [World.cell?_setCell_other _ _ _ _ (by simp), World.cell?_setCell_other _ _ _ _ (by simp)]
    exact World.cell?_setCell_same _ _ _ c0
  have e1 : (((w.setCell ⟨b, 0, none⟩ p').setCell ⟨b, 1, none⟩ q').setCell ⟨b, 2, none⟩ r').cell? ⟨b, 1, none⟩ = some q' := by
    rw [World.cell?_setCell_other _ _ _ _ (by simp)]
    exact World.cell?_setCell_same _ _ _ (by rw [World.cell?_setCell_other _ _ _ _ (by simp)]; exact c1)
  have e2 : (((w.setCell ⟨b, 0, none⟩ p').setCell ⟨b, 1, none⟩ q').setCell ⟨b, 2, none⟩ r').cell? ⟨b, 2, none⟩ = some r' :=
    World.cell?_setCell_same _ _ _ (by rw [World.cell?_setCell_other _ _ _ _ (by simp), World.cell?_setCell_other _ _ _ _ (by simp)]; exact c2)
  refine ⟨by simpa using h1, e0, e1, e2, ?_, ?_, ?_⟩
  · rw [World.frozen?_setCell, World.frozen?_setCell, World.frozen?_setCell]; exact f0
  · rw [World.frozen?_setCell, World.frozen?_setCell, World.frozen?_setCell]; exact f1
  · rw [World.frozen?_setCell, World.frozen?_setCell, World.frozen?_setCell]; exact f2

/-- block b holds a matrix with g's sides and numbers, which lie elsewhere -/
def CopyOf (wx : World) (b : Nat) (g : Gr) : Prop := ∃ k : Gr, MBox wx b k ∧ k.r = g.r ∧ k.c = g.c ∧ k.n = g.n ∧ k.v = g.v
theorem copy_mk {wx : World} {b ga gcap : Nat} {g : Gr} (hb : Box3 wx b (.int .i64 g.r) (.int .i64 g.c) (.slice (some ⟨ga, 0, none⟩) g.n gcap)) (hE : Elems .i8 wx (some ⟨ga, 0, none⟩) g.n g.v) (h1 : g.n ≤ gcap) (h2 : gcap ≤ 9223372036854775807)
    (hr : -9223372036854775808 ≤ g.r ∧ g.r ≤ 9223372036854775807 ∧ -9223372036854775808 ≤ g.c ∧ g.c ≤ 9223372036854775807) : CopyOf wx b g :=
  ⟨⟨g.r, g.c, some ⟨ga, 0, none⟩, g.n, gcap, g.v⟩, ⟨hb, hE, h1, h2, ⟨fun e => (by cases e), fun x e _ => (by cases e; rfl)⟩, hr⟩, rfl, rfl, rfl, rfl⟩

end Go.Proofs.Ytkiedganojaniaa
