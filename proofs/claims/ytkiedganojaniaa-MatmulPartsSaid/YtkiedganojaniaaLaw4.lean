/-
  What the laws of layer 4 have in common: small, and the document's examples ('awake' returns true in every world).
-/
import Derived.Test.YtkiedganojaniaaApply
import Derived.Test.YtkiedganojaniaaSpans
import Derived.Test.YtkiedganojaniaaDoc4
namespace Go.Proofs.Ytkiedganojaniaa
open Go.RowKit
set_option linter.unusedVariables false

theorem elems_litK {kd : IntKind} {w : World} {T : TypeId} (xs : List Int) {cs : Array Value} (hcs : cs = (xs.map (Value.int kd)).toArray) {b : Nat} (hb : b = w.heap.size) (hw : ∀ x ∈ xs, (Lit.int kd x).wf = true) (hl : xs.length ≤ 100) {n : Nat} (hn : xs.length = n) : Elems kd (w.alloc (.cells cs T)) (some ⟨b, 0, none⟩) n xs := by
  subst hcs hb hn
  refine ⟨rfl, by omega, hw, fun _ => ⟨w.heap.size, 0, rfl, fun i hi => ?_⟩⟩
  rw [Nat.zero_add, World.cell?_alloc_new]
  simp [List.getD, hi]

theorem small4 (r c : Int) (a : Option Addr) (n cap : Nat) (hn : n ≤ 9223372036854775807) (x : Bool) (hx : decide (n ≤ 600) = x) (w : World) :
    Calls Try.prog 11 #[.agg #[.int .i64 r, .int .i64 c, .slice a n cap]] w fun e w' => e = .returned (.bool x) ∧ Below w.heap.size w w' := by
  have B := fun o => (Below.refl w.heap.size w).alloc (Nat.le_refl _) o
  by_cases h : n ≤ 600
  · obtain rfl : x = true := by rw [← hx]; exact decide_eq_true h
    clear hx
    go_enter Try.func11, Try.ntmps11
    go_wp2
    go_ret
    exact ⟨ret_bool (decide_eq_true (by omega)), B _⟩
  · obtain rfl : x = false := by rw [← hx]; exact decide_eq_false h
    clear hx
    go_enter Try.func11, Try.ntmps11
    go_wp2
    go_ret
    exact ⟨ret_bool (decide_eq_false (by omega)), B _⟩

theorem mat_in {w : World} {b n : Nat} {xs : List Int} (h : Elems .i8 w (some ⟨b, 0, none⟩) n xs) (r c : Nat) (hr : r ≤ 4096) (hc : c ≤ 4096) (hn : n ≤ 16777216) : Gr.In8 w ⟨r, c, some ⟨b, 0, none⟩, n, n, xs⟩ :=
  ⟨h, Nat.le_refl _, by show n ≤ _; omega, ⟨fun e => (by cases e), fun x e _ => (by cases e; rfl)⟩, by show _ ≤ (r : Int); omega, by show (r : Int) ≤ _; omega, by show _ ≤ (c : Int); omega, by show (c : Int) ≤ _; omega⟩
theorem rw_in {kd : IntKind} {w : World} {b n : Nat} {xs : List Int} (h : Elems kd w (some ⟨b, 0, none⟩) n xs) (hn : n ≤ 16777216) : Rw.In kd w ⟨some ⟨b, 0, none⟩, n, n, xs⟩ :=
  ⟨h, Nat.le_refl _, by show n ≤ _; omega, ⟨fun e => (by cases e), fun x e _ => (by cases e; rfl)⟩⟩

theorem apply_lit (a b : Nat) (w : World) (h : Elems .i8 w (some ⟨a, 0, none⟩) 4 [1, 2, 3, -4]) (h2 : Elems .i8 w (some ⟨b, 0, none⟩) 2 [5, 6]) :
    Calls Try.prog 12 #[.agg #[.int .i64 2, .int .i64 2, .slice (some ⟨a, 0, none⟩) 4 4], .slice (some ⟨b, 0, none⟩) 2 2] w fun e w' => (∃ g, e = .returned (.tuple #[.slice (some ⟨g, 0, none⟩) 2 2, .int .i64 0]) ∧ Elems .i32 w' (some ⟨g, 0, none⟩) 2 [17, -9]) ∧ Below w.heap.size w w' :=
  (apply_yes ⟨2, 2, some ⟨a, 0, none⟩, 4, 4, [1, 2, 3, -4]⟩ ⟨some ⟨b, 0, none⟩, 2, 2, [5, 6]⟩ 2 2 rfl rfl rfl rfl (by decide) (by decide) (by decide) w (mat_in h 2 2 (by decide) (by decide) (by decide)) (rw_in h2 (by decide))).mono (by
    rintro e w' ⟨⟨g, rfl, _, hE⟩, hb⟩
    refine ⟨⟨g, rfl, ?_⟩, hb⟩
    have e : mv [1, 2, 3, -4] [5, 6] 2 2 = [17, -9] := by decide +kernel
    simp only at hE
    rw [e] at hE
    exact hE)
theorem spans_lit (w : World) : Calls Try.prog 26 #[.int .i64 10, .int .i64 3] w fun e w' => (∃ g, e = .returned (.tuple #[.slice (some ⟨g, 0, none⟩) 4 4, .int .i64 0]) ∧ w'.cell? ⟨g, 0, none⟩ = some (.int .i64 0) ∧ w'.cell? ⟨g, 1, none⟩ = some (.int .i64 3) ∧ w'.cell? ⟨g, 2, none⟩ = some (.int .i64 6) ∧ w'.cell? ⟨g, 3, none⟩ = some (.int .i64 10)) ∧ Below w.heap.size w w' :=
  (spans_yes 10 3 (by decide) (by decide) (by decide) w).mono (by
    rintro e w' ⟨⟨g, rfl, _, hE⟩, hb⟩
    refine ⟨⟨g, rfl, ?_⟩, hb⟩
    have e : spanL 10 3 = [0, 3, 6, 10] := by decide +kernel
    rw [e] at hE
    obtain ⟨b, off, he, hc⟩ := hE.2.2.2 (by decide)
    cases he
    exact ⟨hc 0 (by decide), hc 1 (by decide), hc 2 (by decide), hc 3 (by decide)⟩)

set_option maxHeartbeats 1000000 in
theorem awake4 (w : World) : Calls Try.prog 10 #[] w fun e w' => e = .returned (.bool true) ∧ Below w.heap.size w w' := by
  have E0 : ∀ T o, Elems .i8 ((w.alloc (.cells #[.int .i8 1, .int .i8 2, .int .i8 3, .int .i8 (-4)] T)).alloc o) (some ⟨w.heap.size, 0, none⟩) 4 [1, 2, 3, -4] := fun T o => (elems_litK [1, 2, 3, -4] rfl rfl (by decide) (by decide) rfl).below ((Below.refl _ _).alloc (Nat.le_refl _) o)
  have E1 : ∀ T o, Elems .i8 ((w.alloc o).alloc (.cells #[.int .i8 5, .int .i8 6] T)) (some ⟨w.heap.size + 1, 0, none⟩) 2 [5, 6] := fun T o => elems_litK [5, 6] rfl (by simp) (by decide) (by decide) rfl
  have B0 := fun o o2 => ((Below.refl w.heap.size w).alloc (Nat.le_refl _) o).alloc (by simp) o2
  go_enter Try.func10, Try.ntmps10
  go_wp2_with fail
  refine (apply_lit _ _ _ (E0 _ _) (E1 _ _)).mono ?_
  rintro e wa ⟨⟨g, rfl, hE⟩, hb⟩
  have B1 := below_two (B0 _ _) hb
  clear E0 E1 B0 hb
  go_wp2_with fail
  refine (spans_lit _).mono ?_
  rintro e wb ⟨⟨s, rfl, s0, s1, s2, s3⟩, hb⟩
  have hE2 := fun o => (hE.below hb).below ((Below.refl wb.heap.size wb).alloc (Nat.le_refl _) o)
  have E3 : ∀ T, Elems .i32 (wb.alloc (.cells #[.int .i32 17, .int .i32 (-9)] T)) (some ⟨wb.heap.size, 0, none⟩) 2 [17, -9] := fun T => elems_litK [17, -9] rfl rfl (by decide) (by decide) rfl
  have B2 := fun o => (below_two B1 hb).alloc (below_two B1 hb).size o
  have t0 := fun o => cell_alloc s0 o
  have t1 := fun o => cell_alloc s1 o
  have t2 := fun o => cell_alloc s2 o
  have t3 := fun o => cell_alloc s3 o
  clear hE hb B1 s0 s1 s2 s3
  go_wp2_with fail
  refine (ints_yes _ _ 2 2 2 [17, -9] _ (hE2 _) (E3 _)).mono ?_
  rintro e wc ⟨rfl, d, rfl⟩
  have u0 := t0 (.cells #[.int .i32 17, .int .i32 (-9)] 21)
  have u1 := t1 (.cells #[.int .i32 17, .int .i32 (-9)] 21)
  have u2 := t2 (.cells #[.int .i32 17, .int .i32 (-9)] 21)
  have u3 := t3 (.cells #[.int .i32 17, .int .i32 (-9)] 21)
  have B3 := B2 (.cells #[.int .i32 17, .int .i32 (-9)] 21)
  clear hE2 E3 t0 t1 t2 t3 B2
  go_wp2
  go_ret
  exact ⟨rfl, below_drewN B3 d⟩

/-- the document's Same, of two matrices with the same sides and numbers -/
theorem msame_gr (g k : Gr) (h1 : g.r = k.r) (h2 : g.c = k.c) (h3 : g.n = k.n) (h4 : g.v = k.v) (w : World) (hg : g.In8 w) (hk : k.In8 w) :
    Calls Try.prog 15 #[.agg #[.int .i64 g.r, .int .i64 g.c, .slice g.a g.n g.cap], .agg #[.int .i64 k.r, .int .i64 k.c, .slice k.a k.n k.cap]] w fun e w' => e = .returned (.bool true) ∧ Below w.heap.size w w' := by
  have a1 := hg.1
  rw [h3, h4] at a1
  rw [h1, h2, h3]
  exact msame_yes k.r k.c g.a k.a k.n g.cap k.cap k.v w a1 hk.1
theorem mright_none (w : World) : Calls Try.prog 16 #[.slice none 0 0] w fun e w' => e = .returned (.bool true) ∧ Below w.heap.size w w' := mright_any none 0 0 [] w (Mats.nil_ _ _)

end Go.Proofs.Ytkiedganojaniaa
