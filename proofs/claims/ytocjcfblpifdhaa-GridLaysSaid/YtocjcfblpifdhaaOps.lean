/-
  Contracts of Rows, Cols, Turn and Times: refused by the document's rules, else the table that the document names, in new memory.
-/
import Derived.Test.YtocjcfblpifdhaaCut1
import Derived.Test.YtocjcfblpifdhaaCut2
namespace Go.Proofs.Ytocjcfblpifdhaa
open Go.RowKit
set_option linter.unusedVariables false

/-- refused, with error x, and no grid -/
def NoGrid (x : Int) (e : Ending) : Prop := e = .returned (.tuple #[.agg #[.int .i64 0, .int .i64 0, .slice none 0 0], .int .i64 x])
/-- a grid of R rows and C columns with the numbers xs, in memory of its own -/
def NewGrid (w : World) (R C : Nat) (xs : List Int) (e : Ending) : Prop :=
  ∃ g, e = .returned (.tuple #[.agg #[.int .i64 R, .int .i64 C, .slice (some ⟨g, 0, none⟩) (R * C : Nat) (R * C : Nat)], .int .i64 0]) ∧ Elems .i32 w (some ⟨g, 0, none⟩) (R * C) xs

theorem fits_one (g : Gr) (x : Bool) (hx : fitB g.r g.c g.n = x) (b cap : Nat) (w : World) (h : Grids w (some ⟨b, 0, none⟩) 1 [g]) :
    Calls Try.prog 39 #[.slice (some ⟨b, 0, none⟩) 1 cap] w fun e w' => e = .returned (.bool x) ∧ Below w.heap.size w w' := by
  rw [← hx, show fitB g.r g.c g.n = fitAll [g] by simp [fitAll]]; exact handy_any _ _ _ _ _ h

/-- behind a result that is stored in block b -/
theorem newGrid_res {w : World} {R C g b : Nat} {xs : List Int} {p q r : Value} (hM : Mine w g 21 xs) (hl : xs.length = R * C) (hn : R * C ≤ 1048576) (hw : ∀ x ∈ xs, (Lit.int .i32 x).wf = true) (hne : g ≠ b) :
    NewGrid (((w.setCell ⟨b, 0, none⟩ p).setCell ⟨b, 1, none⟩ q).setCell ⟨b, 2, none⟩ r) R C xs (.returned (.tuple #[.agg #[.int .i64 R, .int .i64 C, .slice (some ⟨g, 0, none⟩) (R * C : Nat) (R * C : Nat)], .int .i64 0])) :=
  ⟨g, rfl, (hM.kept (grownBy_res w b p q r) (by simpa using hne)).elems hl (by omega) hw⟩

section
variable (r c : Int) (a : Option Addr) (n cap : Nat) (v : List Int) (w : World) (h : Gr.In w ⟨r, c, a, n, cap, v⟩)
include h

theorem turn_no (hf : fitB r c n = false) : Calls Try.prog 22 #[.agg #[.int .i64 r, .int .i64 c, .slice a n cap]] w fun e w' => NoGrid 30 e ∧ Below w.heap.size w w' := by
  have hG : ∀ x y T, Grids (((w.alloc x).alloc y).alloc (.cells #[.int .i64 r, .int .i64 c, .slice a n cap] T)) (some ⟨w.heap.size + 1 + 1, 0, none⟩) 1 [⟨r, c, a, n, cap, v⟩] := fun x y T =>
    grids_one ⟨r, c, a, n, cap, v⟩ (h.below (((Below.refl _ _).alloc (Nat.le_refl _) x).alloc (by simp) y)) (by simp)
  have B : ∀ x y z wb, Below (((w.alloc x).alloc y).alloc z).heap.size (((w.alloc x).alloc y).alloc z) wb → Below w.heap.size w wb := fun x y z wb hb =>
    below_two ((((Below.refl _ _).alloc (Nat.le_refl _) x).alloc (by simp) y).alloc (by simp; omega) z) hb
  clear h
  go_enter Try.func22, Try.ntmps22
  go_wp2_with fail
  refine (fits_one _ false hf _ _ _ (hG _ _ _)).mono ?_
  rintro e wb ⟨rfl, hb⟩
  obtain ⟨k1, d0, d1, d2, e0, e1, e2⟩ := ((box3_at (w := w.alloc _) (b := w.heap.size + 1) (by simp) (.int .i64 0) (.int .i64 0) (.slice none 0 0) 24).alloc _).below hb
  have hB := B _ _ _ _ hb
  clear hG B hb
  go_wp2
  exact bodyPost_ret (v := .tuple #[.agg #[.int .i64 0, .int .i64 0, .slice none 0 0], .int .i64 30]) (by simp [results, Try.results22, go_sem, d0, d1, d2]) rfl
    ⟨rfl, below_res hB (by omega) _ _ _⟩

theorem turn_yes (R C : Nat) (hr : r = R) (hc : c = C) (hR : R ≤ 4096) (hC : C ≤ 4096) (hn : n = R * C) (hle : R * C ≤ 1048576) : Calls Try.prog 22 #[.agg #[.int .i64 r, .int .i64 c, .slice a n cap]] w fun e w' => NewGrid w' C R (tab C R fun i j => v.getD (j * C + i) 0) e ∧ Below w.heap.size w w' := by
  subst hr hc hn
  have hG : ∀ x y T, Grids (((w.alloc x).alloc y).alloc (.cells #[.int .i64 R, .int .i64 C, .slice a (R * C) cap] T)) (some ⟨w.heap.size + 1 + 1, 0, none⟩) 1 [⟨R, C, a, R * C, cap, v⟩] := fun x y T =>
    grids_one ⟨R, C, a, R * C, cap, v⟩ (h.below (((Below.refl _ _).alloc (Nat.le_refl _) x).alloc (by simp) y)) (by simp)
  have B : ∀ x y z wb, Below (((w.alloc x).alloc y).alloc z).heap.size (((w.alloc x).alloc y).alloc z) wb → Below w.heap.size w wb := fun x y z wb hb =>
    below_two ((((Below.refl _ _).alloc (Nat.le_refl _) x).alloc (by simp) y).alloc (by simp; omega) z) hb
  obtain ⟨hE, hcap, hcap2, hSl, _, _, _, _⟩ := h
  simp only at hE hcap hcap2 hSl
  have hf := fitB_nat R C hR hC hle
  have hwf := hE.2.2.1
  go_enter Try.func22, Try.ntmps22
  go_wp2_with fail
  refine (fits_one _ true hf _ _ _ (hG _ _ _)).mono ?_
  rintro e wb ⟨rfl, hb⟩
  have b1 := (((box3_at (w := w) (b := w.heap.size) rfl (.int .i64 R) (.int .i64 C) (.slice a (R * C : Nat) cap) 24).alloc _).alloc _).below hb
  have b2 := ((box3_at (w := w.alloc _) (b := w.heap.size + 1) (by simp) (.int .i64 0) (.int .i64 0) (.slice none 0 0) 24).alloc _).below hb
  have hB := B _ _ _ _ hb
  have hF := fills_turn R C hR hC a cap v w.heap.size wb b1 (hE.below hB) hcap hcap2
  obtain ⟨h1, c0, c1, c2, _, _, _⟩ := b1
  clear hG B hb hE
  have hle2 : C * R ≤ 1048576 := by rw [Nat.mul_comm]; exact hle
  go_wp2_with fail
  refine (filled_yes 44 _ (enters_of Try.func44 (by kernel_rfl) rfl) C R hC hR hle2 _ _ hF).mono ?_
  rintro e wc ⟨g, rfl, hg, hM, hbc⟩
  have hgs : w.heap.size + 1 < wb.heap.size := b2.1
  obtain ⟨k1, d0, d1, d2, e0, e1, e2⟩ := b2.below hbc
  have hB2 := below_two hB hbc
  clear hF c0 c1 c2 hbc hB b2
  go_wp2
  exact bodyPost_ret (v := .tuple #[.agg #[.int .i64 C, .int .i64 R, .slice (some ⟨g, 0, none⟩) (C * R : Nat) (C * R : Nat)], .int .i64 0]) (by simp [results, Try.results22, go_sem, d0, d1, d2]) rfl
    ⟨newGrid_res hM (tab_length _ _ _) hle2 (tab_wf fun i j _ _ => getD_wf hwf rfl _) (by omega), below_res hB2 (by omega) _ _ _⟩

/-! ### Rows -/

theorem rows_no (fr to : Int) (hf : fitB r c n = false) : Calls Try.prog 20 #[.agg #[.int .i64 r, .int .i64 c, .slice a n cap], .int .i64 fr, .int .i64 to] w fun e w' => NoGrid 30 e ∧ Below w.heap.size w w' := by
  have hG : ∀ x y z T, Grids ((((w.alloc x).alloc y).alloc z).alloc (.cells #[.int .i64 r, .int .i64 c, .slice a n cap] T)) (some ⟨w.heap.size + 1 + 1 + 1, 0, none⟩) 1 [⟨r, c, a, n, cap, v⟩] := fun x y z T =>
    grids_one ⟨r, c, a, n, cap, v⟩ (h.below ((((Below.refl _ _).alloc (Nat.le_refl _) x).alloc (by simp) y).alloc (by simp; omega) z)) (by simp)
  have B : ∀ x y z u wb, Below ((((w.alloc x).alloc y).alloc z).alloc u).heap.size ((((w.alloc x).alloc y).alloc z).alloc u) wb → Below w.heap.size w wb := fun x y z u wb hb =>
    below_two (((((Below.refl _ _).alloc (Nat.le_refl _) x).alloc (by simp) y).alloc (by simp; omega) z).alloc (by simp; omega) u) hb
  clear h
  go_enter Try.func20, Try.ntmps20
  go_wp2_with fail
  refine (fits_one _ false hf _ _ _ (hG _ _ _ _)).mono ?_
  rintro e wb ⟨rfl, hb⟩
  obtain ⟨k1, d0, d1, d2, e0, e1, e2⟩ := ((box3_at (w := (w.alloc _).alloc _) (b := w.heap.size + 1 + 1) (by simp) (.int .i64 0) (.int .i64 0) (.slice none 0 0) 24).alloc _).below hb
  have hB := B _ _ _ _ _ hb
  clear hG B hb
  go_wp2
  exact bodyPost_ret (v := .tuple #[.agg #[.int .i64 0, .int .i64 0, .slice none 0 0], .int .i64 30]) (by simp [results, Try.results20, go_sem, d0, d1, d2]) rfl
    ⟨rfl, below_res hB (by omega) _ _ _⟩

theorem rows_arg (fr to : Int) (hf : fitB r c n = true) (hi : decide (0 ≤ fr ∧ fr ≤ to ∧ to ≤ r) = false) : Calls Try.prog 20 #[.agg #[.int .i64 r, .int .i64 c, .slice a n cap], .int .i64 fr, .int .i64 to] w fun e w' => NoGrid 2 e ∧ Below w.heap.size w w' := by
  have hG : ∀ x y z T, Grids ((((w.alloc x).alloc y).alloc z).alloc (.cells #[.int .i64 r, .int .i64 c, .slice a n cap] T)) (some ⟨w.heap.size + 1 + 1 + 1, 0, none⟩) 1 [⟨r, c, a, n, cap, v⟩] := fun x y z T =>
    grids_one ⟨r, c, a, n, cap, v⟩ (h.below ((((Below.refl _ _).alloc (Nat.le_refl _) x).alloc (by simp) y).alloc (by simp; omega) z)) (by simp)
  have B : ∀ x y z u wb, Below ((((w.alloc x).alloc y).alloc z).alloc u).heap.size ((((w.alloc x).alloc y).alloc z).alloc u) wb → Below w.heap.size w wb := fun x y z u wb hb =>
    below_two (((((Below.refl _ _).alloc (Nat.le_refl _) x).alloc (by simp) y).alloc (by simp; omega) z).alloc (by simp; omega) u) hb
  clear h
  go_enter Try.func20, Try.ntmps20
  go_wp2_with fail
  refine (fits_one _ true hf _ _ _ (hG _ _ _ _)).mono ?_
  rintro e wb ⟨rfl, hb⟩
  obtain ⟨h1, c0, c1, c2, _, _, _⟩ := ((((box3_at (w := w) (b := w.heap.size) rfl (.int .i64 r) (.int .i64 c) (.slice a n cap) 24).alloc _).alloc _).alloc _).below hb
  obtain ⟨k1, d0, d1, d2, e0, e1, e2⟩ := ((box3_at (w := (w.alloc _).alloc _) (b := w.heap.size + 1 + 1) (by simp) (.int .i64 0) (.int .i64 0) (.slice none 0 0) 24).alloc _).below hb
  have cq := cell_keep (cell_alloc (cell_alloc (cell1_at (w := w.alloc _) (b := w.heap.size + 1) (by simp) (.int .i64 fr) 3) _) _) hb
  have hB := B _ _ _ _ _ hb
  clear hG B hb hf
  go_wp2_with fail
  refine (inside_any _ _ _ false hi _).mono ?_
  rintro e wc ⟨rfl, rfl⟩
  clear hi
  go_wp2
  exact bodyPost_ret (v := .tuple #[.agg #[.int .i64 0, .int .i64 0, .slice none 0 0], .int .i64 2]) (by simp [results, Try.results20, go_sem, d0, d1, d2]) rfl
    ⟨rfl, below_res hB (by omega) _ _ _⟩

theorem rows_yes (R C fr to : Nat) (hr : r = R) (hc : c = C) (hR : R ≤ 4096) (hC : C ≤ 4096) (hn : n = R * C) (hle : R * C ≤ 1048576) (hft : fr ≤ to) (htR : to ≤ R) :
    Calls Try.prog 20 #[.agg #[.int .i64 r, .int .i64 c, .slice a n cap], .int .i64 fr, .int .i64 to] w fun e w' => NewGrid w' (to - fr) C (tab (to - fr) C fun i j => v.getD ((fr + i) * C + j) 0) e ∧ Below w.heap.size w w' := by
  subst hr hc hn
  have hG : ∀ x y z T, Grids ((((w.alloc x).alloc y).alloc z).alloc (.cells #[.int .i64 R, .int .i64 C, .slice a (R * C) cap] T)) (some ⟨w.heap.size + 1 + 1 + 1, 0, none⟩) 1 [⟨R, C, a, R * C, cap, v⟩] := fun x y z T =>
    grids_one ⟨R, C, a, R * C, cap, v⟩ (h.below ((((Below.refl _ _).alloc (Nat.le_refl _) x).alloc (by simp) y).alloc (by simp; omega) z)) (by simp)
  have B : ∀ x y z u wb, Below ((((w.alloc x).alloc y).alloc z).alloc u).heap.size ((((w.alloc x).alloc y).alloc z).alloc u) wb → Below w.heap.size w wb := fun x y z u wb hb =>
    below_two (((((Below.refl _ _).alloc (Nat.le_refl _) x).alloc (by simp) y).alloc (by simp; omega) z).alloc (by simp; omega) u) hb
  obtain ⟨hE, hcap, hcap2, hSl, _, _, _, _⟩ := h
  simp only at hE hcap hcap2 hSl
  have hf := fitB_nat R C hR hC hle
  have hwf := hE.2.2.1
  have hin : decide ((0 : Int) ≤ (fr : Int) ∧ (fr : Int) ≤ (to : Int) ∧ (to : Int) ≤ (R : Int)) = true := decide_eq_true (by omega)
  obtain ⟨m, hm⟩ : ∃ m, to - fr = m := ⟨_, rfl⟩
  have em : (to : Int) - (fr : Int) = (m : Int) := by omega
  have hmR : m ≤ 4096 := by omega
  rw [hm]
  have hm0 := Lib.hid hm
  clear hm
  go_enter Try.func20, Try.ntmps20
  go_wp2_with fail
  refine (fits_one _ true hf _ _ _ (hG _ _ _ _)).mono ?_
  rintro e wb ⟨rfl, hb⟩
  have b1 := ((((box3_at (w := w) (b := w.heap.size) rfl (.int .i64 R) (.int .i64 C) (.slice a (R * C : Nat) cap) 24).alloc _).alloc _).alloc _).below hb
  have b2 := ((box3_at (w := (w.alloc _).alloc _) (b := w.heap.size + 1 + 1) (by simp) (.int .i64 0) (.int .i64 0) (.slice none 0 0) 24).alloc _).below hb
  have cq := cell_keep (cell_alloc (cell_alloc (cell1_at (w := w.alloc _) (b := w.heap.size + 1) (by simp) (.int .i64 fr) 3) _) _) hb
  have hB := B _ _ _ _ _ hb
  have hF := fills_rows R C hR hC a cap v w.heap.size (w.heap.size + 1) fr to wb b1 (by have := b2.1; omega) cq (hE.below hB) hcap hcap2 hSl hft htR
  have hle2 : (to - fr) * C ≤ 1048576 := Nat.le_trans (Nat.mul_le_mul_right C (by omega)) hle
  rw [hm0.out] at hF hle2
  obtain ⟨h1, c0, c1, c2, _, _, _⟩ := b1
  clear hG B hb hE hf
  go_wp2_with fail
  refine (inside_any _ _ _ true hin _).mono ?_
  rintro e wc ⟨rfl, rfl⟩
  clear hin
  go_wp2_with fail
  refine (filled_yes 42 _ (enters_of Try.func42 (by kernel_rfl) rfl) m C hmR hC hle2 _ _ hF).mono ?_
  rintro e wc ⟨g, rfl, hg, hM, hbc⟩
  have hgs : w.heap.size + 1 + 1 < wb.heap.size := b2.1
  obtain ⟨k1, d0, d1, d2, e0, e1, e2⟩ := b2.below hbc
  have hB2 := below_two hB hbc
  clear hF c0 c1 c2 hbc hB b2 cq
  go_wp2
  exact bodyPost_ret (v := .tuple #[.agg #[.int .i64 m, .int .i64 C, .slice (some ⟨g, 0, none⟩) (m * C : Nat) (m * C : Nat)], .int .i64 0]) (by simp [results, Try.results20, go_sem, d0, d1, d2]) rfl
    ⟨newGrid_res hM (tab_length _ _ _) hle2 (tab_wf fun i j _ _ => getD_wf hwf rfl _) (by omega), below_res hB2 (by omega) _ _ _⟩

/-! ### Cols -/

theorem cols_no (fr to : Int) (hf : fitB r c n = false) : Calls Try.prog 21 #[.agg #[.int .i64 r, .int .i64 c, .slice a n cap], .int .i64 fr, .int .i64 to] w fun e w' => NoGrid 30 e ∧ Below w.heap.size w w' := by
  have hG : ∀ x y z u T, Grids (((((w.alloc x).alloc y).alloc z).alloc u).alloc (.cells #[.int .i64 r, .int .i64 c, .slice a n cap] T)) (some ⟨w.heap.size + 1 + 1 + 1 + 1, 0, none⟩) 1 [⟨r, c, a, n, cap, v⟩] := fun x y z u T =>
    grids_one ⟨r, c, a, n, cap, v⟩ (h.below (((((Below.refl _ _).alloc (Nat.le_refl _) x).alloc (by simp) y).alloc (by simp; omega) z).alloc (by simp; omega) u)) (by simp)
  have B : ∀ x y z u t wb, Below (((((w.alloc x).alloc y).alloc z).alloc u).alloc t).heap.size (((((w.alloc x).alloc y).alloc z).alloc u).alloc t) wb → Below w.heap.size w wb := fun x y z u t wb hb =>
    below_two ((((((Below.refl _ _).alloc (Nat.le_refl _) x).alloc (by simp) y).alloc (by simp; omega) z).alloc (by simp; omega) u).alloc (by simp; omega) t) hb
  clear h
  go_enter Try.func21, Try.ntmps21
  go_wp2_with fail
  refine (fits_one _ false hf _ _ _ (hG _ _ _ _ _)).mono ?_
  rintro e wb ⟨rfl, hb⟩
  obtain ⟨k1, d0, d1, d2, e0, e1, e2⟩ := ((box3_at (w := ((w.alloc _).alloc _).alloc _) (b := w.heap.size + 1 + 1 + 1) (by simp) (.int .i64 0) (.int .i64 0) (.slice none 0 0) 24).alloc _).below hb
  have hB := B _ _ _ _ _ _ hb
  clear hG B hb
  go_wp2
  exact bodyPost_ret (v := .tuple #[.agg #[.int .i64 0, .int .i64 0, .slice none 0 0], .int .i64 30]) (by simp [results, Try.results21, go_sem, d0, d1, d2]) rfl
    ⟨rfl, below_res hB (by omega) _ _ _⟩

theorem cols_arg (fr to : Int) (hf : fitB r c n = true) (hi : decide (0 ≤ fr ∧ fr ≤ to ∧ to ≤ c) = false) : Calls Try.prog 21 #[.agg #[.int .i64 r, .int .i64 c, .slice a n cap], .int .i64 fr, .int .i64 to] w fun e w' => NoGrid 2 e ∧ Below w.heap.size w w' := by
  have hG : ∀ x y z u T, Grids (((((w.alloc x).alloc y).alloc z).alloc u).alloc (.cells #[.int .i64 r, .int .i64 c, .slice a n cap] T)) (some ⟨w.heap.size + 1 + 1 + 1 + 1, 0, none⟩) 1 [⟨r, c, a, n, cap, v⟩] := fun x y z u T =>
    grids_one ⟨r, c, a, n, cap, v⟩ (h.below (((((Below.refl _ _).alloc (Nat.le_refl _) x).alloc (by simp) y).alloc (by simp; omega) z).alloc (by simp; omega) u)) (by simp)
  have B : ∀ x y z u t wb, Below (((((w.alloc x).alloc y).alloc z).alloc u).alloc t).heap.size (((((w.alloc x).alloc y).alloc z).alloc u).alloc t) wb → Below w.heap.size w wb := fun x y z u t wb hb =>
    below_two ((((((Below.refl _ _).alloc (Nat.le_refl _) x).alloc (by simp) y).alloc (by simp; omega) z).alloc (by simp; omega) u).alloc (by simp; omega) t) hb
  clear h
  go_enter Try.func21, Try.ntmps21
  go_wp2_with fail
  refine (fits_one _ true hf _ _ _ (hG _ _ _ _ _)).mono ?_
  rintro e wb ⟨rfl, hb⟩
  obtain ⟨h1, c0, c1, c2, _, _, _⟩ := (((((box3_at (w := w) (b := w.heap.size) rfl (.int .i64 r) (.int .i64 c) (.slice a n cap) 24).alloc _).alloc _).alloc _).alloc _).below hb
  obtain ⟨k1, d0, d1, d2, e0, e1, e2⟩ := ((box3_at (w := ((w.alloc _).alloc _).alloc _) (b := w.heap.size + 1 + 1 + 1) (by simp) (.int .i64 0) (.int .i64 0) (.slice none 0 0) 24).alloc _).below hb
  have cq := cell_keep (cell_alloc (cell_alloc (cell_alloc (cell1_at (w := w.alloc _) (b := w.heap.size + 1) (by simp) (.int .i64 fr) 3) _) _) _) hb
  have cs := cell_keep (cell_alloc (cell_alloc (cell1_at (w := (w.alloc _).alloc _) (b := w.heap.size + 1 + 1) (by simp) (.int .i64 to) 3) _) _) hb
  have hB := B _ _ _ _ _ _ hb
  clear hG B hb hf
  go_wp2_with fail
  refine (inside_any _ _ _ false hi _).mono ?_
  rintro e wc ⟨rfl, rfl⟩
  clear hi
  go_wp2
  exact bodyPost_ret (v := .tuple #[.agg #[.int .i64 0, .int .i64 0, .slice none 0 0], .int .i64 2]) (by simp [results, Try.results21, go_sem, d0, d1, d2]) rfl
    ⟨rfl, below_res hB (by omega) _ _ _⟩

theorem cols_yes (R C fr to : Nat) (hr : r = R) (hc : c = C) (hR : R ≤ 4096) (hC : C ≤ 4096) (hn : n = R * C) (hle : R * C ≤ 1048576) (hft : fr ≤ to) (htC : to ≤ C) :
    Calls Try.prog 21 #[.agg #[.int .i64 r, .int .i64 c, .slice a n cap], .int .i64 fr, .int .i64 to] w fun e w' => NewGrid w' R (to - fr) (tab R (to - fr) fun i j => v.getD (i * C + (fr + j)) 0) e ∧ Below w.heap.size w w' := by
  subst hr hc hn
  have hG : ∀ x y z u T, Grids (((((w.alloc x).alloc y).alloc z).alloc u).alloc (.cells #[.int .i64 R, .int .i64 C, .slice a (R * C) cap] T)) (some ⟨w.heap.size + 1 + 1 + 1 + 1, 0, none⟩) 1 [⟨R, C, a, R * C, cap, v⟩] := fun x y z u T =>
    grids_one ⟨R, C, a, R * C, cap, v⟩ (h.below (((((Below.refl _ _).alloc (Nat.le_refl _) x).alloc (by simp) y).alloc (by simp; omega) z).alloc (by simp; omega) u)) (by simp)
  have B : ∀ x y z u t wb, Below (((((w.alloc x).alloc y).alloc z).alloc u).alloc t).heap.size (((((w.alloc x).alloc y).alloc z).alloc u).alloc t) wb → Below w.heap.size w wb := fun x y z u t wb hb =>
    below_two ((((((Below.refl _ _).alloc (Nat.le_refl _) x).alloc (by simp) y).alloc (by simp; omega) z).alloc (by simp; omega) u).alloc (by simp; omega) t) hb
  obtain ⟨hE, hcap, hcap2, hSl, _, _, _, _⟩ := h
  simp only at hE hcap hcap2 hSl
  have hf := fitB_nat R C hR hC hle
  have hwf := hE.2.2.1
  have hin : decide ((0 : Int) ≤ (fr : Int) ∧ (fr : Int) ≤ (to : Int) ∧ (to : Int) ≤ (C : Int)) = true := decide_eq_true (by omega)
  obtain ⟨m, hm⟩ : ∃ m, to - fr = m := ⟨_, rfl⟩
  have em : (to : Int) - (fr : Int) = (m : Int) := by omega
  have hmR : m ≤ 4096 := by omega
  rw [hm]
  have hm0 := Lib.hid hm
  clear hm
  go_enter Try.func21, Try.ntmps21
  go_wp2_with fail
  refine (fits_one _ true hf _ _ _ (hG _ _ _ _ _)).mono ?_
  rintro e wb ⟨rfl, hb⟩
  have b1 := (((((box3_at (w := w) (b := w.heap.size) rfl (.int .i64 R) (.int .i64 C) (.slice a (R * C : Nat) cap) 24).alloc _).alloc _).alloc _).alloc _).below hb
  have b2 := ((box3_at (w := ((w.alloc _).alloc _).alloc _) (b := w.heap.size + 1 + 1 + 1) (by simp) (.int .i64 0) (.int .i64 0) (.slice none 0 0) 24).alloc _).below hb
  have cq := cell_keep (cell_alloc (cell_alloc (cell_alloc (cell1_at (w := w.alloc _) (b := w.heap.size + 1) (by simp) (.int .i64 fr) 3) _) _) _) hb
  have cs := cell_keep (cell_alloc (cell_alloc (cell1_at (w := (w.alloc _).alloc _) (b := w.heap.size + 1 + 1) (by simp) (.int .i64 to) 3) _) _) hb
  have hB := B _ _ _ _ _ _ hb
  have hF := fills_cols R C hR hC a cap v w.heap.size (w.heap.size + 1) (w.heap.size + 1 + 1) fr to wb b1 (by have := b2.1; omega) (by have := b2.1; omega) cq cs (hE.below hB) hcap hcap2 hSl hft htC
  have hle2 : R * (to - fr) ≤ 1048576 := Nat.le_trans (Nat.mul_le_mul_left R (by omega)) hle
  rw [hm0.out] at hF hle2
  obtain ⟨h1, c0, c1, c2, _, _, _⟩ := b1
  clear hG B hb hE hf
  go_wp2_with fail
  refine (inside_any _ _ _ true hin _).mono ?_
  rintro e wc ⟨rfl, rfl⟩
  clear hin
  go_wp2_with fail
  refine (filled_yes 43 _ (enters_of Try.func43 (by kernel_rfl) rfl) R m hR hmR hle2 _ _ hF).mono ?_
  rintro e wc ⟨g, rfl, hg, hM, hbc⟩
  have hgs : w.heap.size + 1 + 1 + 1 < wb.heap.size := b2.1
  obtain ⟨k1, d0, d1, d2, e0, e1, e2⟩ := b2.below hbc
  have hB2 := below_two hB hbc
  clear hF c0 c1 c2 hbc hB b2 cq cs
  go_wp2
  exact bodyPost_ret (v := .tuple #[.agg #[.int .i64 R, .int .i64 m, .slice (some ⟨g, 0, none⟩) (R * m : Nat) (R * m : Nat)], .int .i64 0]) (by simp [results, Try.results21, go_sem, d0, d1, d2]) rfl
    ⟨newGrid_res hM (tab_length _ _ _) hle2 (tab_wf fun i j _ _ => getD_wf hwf rfl _) (by omega), below_res hB2 (by omega) _ _ _⟩

end
end Go.Proofs.Ytocjcfblpifdhaa
