/-
  Contract of layer 4's Rows: some rows of a matrix in new memory, or a refusal.
-/
import Derived.Test.YtkiedganojaniaaApply
import Derived.Deep.RegionHeld3
namespace Go.Proofs.Ytkiedganojaniaa
open Go.RowKit
set_option linter.unusedVariables false

/-- no matrix, and an error -/
def NoMat (c : Int) (e : Ending) : Prop := e = .returned (.tuple #[.agg #[.int .i64 0, .int .i64 0, .slice none 0 0], .int .i64 c])
/-- the matrix that came without an error lies in a new block -/
def NewMat (w0 w : World) (R C : Nat) (xs : List Int) (e : Ending) : Prop :=
  ∃ g, e = .returned (.tuple #[.agg #[.int .i64 R, .int .i64 C, .slice (some ⟨g, 0, none⟩) (R * C : Nat) (R * C : Nat)], .int .i64 0]) ∧ w0.heap.size ≤ g ∧ Elems .i8 w (some ⟨g, 0, none⟩) (R * C) xs

/-- from, to: some rows of a side? -/
def insB (p q s : Int) : Bool := decide (0 ≤ p ∧ p ≤ q ∧ q ≤ s)

theorem splice_all (xs ys : List Int) (h : xs.length = ys.length) : splice xs 0 ys = ys := by
  unfold splice; rw [List.take_zero, List.nil_append, List.drop_eq_nil_of_le (by omega), List.append_nil]
/-- some rows of a table, as a stretch of it -/
theorem rows_stretch (v : List Int) (R C fr to : Nat) (h : v.length = R * C) (h1 : fr ≤ to) (h2 : to ≤ R) : (v.drop (fr * C)).take ((to - fr) * C) = tab (to - fr) C fun i j => v.getD ((fr + i) * C + j) 0 := by
  have hle : fr * C + (to - fr) * C ≤ R * C := by rw [← Nat.add_mul]; exact Nat.mul_le_mul_right C (by omega)
  have hl : ((v.drop (fr * C)).take ((to - fr) * C)).length = (to - fr) * C := by simp; omega
  rw [← tab_of (to - fr) C _ hl]
  refine tab_congr _ _ _ _ fun i j hi hj => ?_
  have := row_lt hi hj
  rw [List.getD_eq_getElem?_getD, List.getElem?_take_of_lt this, List.getElem?_drop, ← List.getD_eq_getElem?_getD, Nat.add_mul, Nat.add_assoc]

set_option maxHeartbeats 800000 in
theorem mrows_shape (g : Gr) (p q : Int) (h : fitB g.r g.c g.n = false) (w : World) (hg : g.In8 w) :
    Calls Try.prog 19 #[.agg #[.int .i64 g.r, .int .i64 g.c, .slice g.a g.n g.cap], .int .i64 p, .int .i64 q] w fun e w' => NoMat 30 e ∧ Below w.heap.size w w' := by
  have a2 := fun o o2 => ((Below.refl w.heap.size w).alloc (Nat.le_refl _) o).alloc (by simp) o2
  have a3 := fun o o2 o3 => (a2 o o2).alloc (by simp; omega) o3
  have hG := fun o o2 T => mats_one (T := T) (b := w.heap.size + 1 + 1) g (hg.below (a2 o o2)) (by simp)
  have X1 := fun o T o3 => (box3_at (w := w.alloc o) (b := w.heap.size + 1) (by simp) (.int .i64 0) (.int .i64 0) (.slice none 0 0) T).alloc o3
  clear hg
  go_enter Try.func19, Try.ntmps19
  go_wp2_with fail
  refine (mright_one g false h _ _ _ (hG _ _ _)).mono ?_
  rintro e wb ⟨rfl, hb⟩
  have B1 := below_two (a3 _ _ _) hb
  obtain ⟨_, d0, d1, d2, _, _, _⟩ := (X1 _ _ _).below hb
  clear h a2 a3 hG X1 hb
  go_wp2
  exact bodyPost_ret (v := .tuple #[.agg #[.int .i64 0, .int .i64 0, .slice none 0 0], .int .i64 30]) (by simp [results, Try.results19, go_sem, d0, d1, d2]) rfl
    ⟨rfl, below_res B1 (by omega) _ _ _⟩

set_option maxHeartbeats 800000 in
theorem mrows_arg (g : Gr) (p q : Int) (h : fitB g.r g.c g.n = true) (h2 : insB p q g.r = false) (w : World) (hg : g.In8 w) :
    Calls Try.prog 19 #[.agg #[.int .i64 g.r, .int .i64 g.c, .slice g.a g.n g.cap], .int .i64 p, .int .i64 q] w fun e w' => NoMat 2 e ∧ Below w.heap.size w w' := by
  have a2 := fun o o2 => ((Below.refl w.heap.size w).alloc (Nat.le_refl _) o).alloc (by simp) o2
  have a3 := fun o o2 o3 => (a2 o o2).alloc (by simp; omega) o3
  have hG := fun o o2 T => mats_one (T := T) (b := w.heap.size + 1 + 1) g (hg.below (a2 o o2)) (by simp)
  have X1 := fun o T o3 => (box3_at (w := w.alloc o) (b := w.heap.size + 1) (by simp) (.int .i64 0) (.int .i64 0) (.slice none 0 0) T).alloc o3
  have X0 := fun o2 o3 => ((box3_at (w := w) rfl (.int .i64 g.r) (.int .i64 g.c) (.slice g.a g.n g.cap) 24).alloc o2).alloc o3
  clear hg
  go_enter Try.func19, Try.ntmps19
  go_wp2_with fail
  refine (mright_one g true h _ _ _ (hG _ _ _)).mono ?_
  rintro e wb ⟨rfl, hb⟩
  have B1 := below_two (a3 _ _ _) hb
  obtain ⟨_, d0, d1, d2, _, _, _⟩ := (X1 _ _ _).below hb
  obtain ⟨_, c0, c1, c2, _, _, _⟩ := (X0 _ _).below hb
  clear h a2 a3 hG X1 X0 hb
  go_wp2_with fail
  refine (minside_any p q g.r false h2 _).mono ?_
  rintro e wc ⟨rfl, rfl⟩
  clear h2
  go_wp2
  exact bodyPost_ret (v := .tuple #[.agg #[.int .i64 0, .int .i64 0, .slice none 0 0], .int .i64 2]) (by simp [results, Try.results19, go_sem, d0, d1, d2]) rfl
    ⟨rfl, below_res B1 (by omega) _ _ _⟩

set_option maxHeartbeats 1600000 in
theorem mrows_walk (R C fr to : Nat) (a : Option Addr) (cap : Nat) (v : List Int) (w : World) (hg : (⟨R, C, a, R * C, cap, v⟩ : Gr).In8 w) (hR : R ≤ 4096) (hC : C ≤ 4096) (hle : R * C ≤ 1048576) (h1 : fr ≤ to) (h2 : to ≤ R)
    (src : Option Addr) (slen scap : Nat) (ys : List Int) (hys : ys = (v.drop (fr * C)).take ((to - fr) * C))
    (form : (a = none ∧ cap = 0 ∧ src = none ∧ slen = 0 ∧ scap = 0) ∨ (∃ x, a = some x ∧ fr * C = cap ∧ src = a ∧ slen = R * C - fr * C ∧ scap = 0) ∨ (∃ b o, a = some ⟨b, o, none⟩ ∧ fr * C < cap ∧ src = some ⟨b, o + fr * C, none⟩ ∧ slen = R * C - fr * C ∧ scap = cap - fr * C)) :
    Calls Try.prog 19 #[.agg #[.int .i64 R, .int .i64 C, .slice a (R * C : Nat) cap], .int .i64 fr, .int .i64 to] w fun e w' => NewMat w w' (to - fr) C ys e ∧ Below w.heap.size w w' := by
  have hf := fitB_nat R C hR hC hle
  have hins : insB fr to R = true := by unfold insB; exact decide_eq_true (by omega)
  have hgg : (⟨R, C, a, R * C, cap, v⟩ : Gr).In8 w := hg
  obtain ⟨hE, hcap, hcap2, _⟩ := hg
  simp only at hE hcap hcap2
  have hvl := hE.1
  have hle2 : fr * C + (to - fr) * C ≤ R * C := by rw [← Nat.add_mul]; exact Nat.mul_le_mul_right C (by omega)
  have hyl : ys.length = (to - fr) * C := by rw [hys]; simp; omega
  have hsrc : ∀ W, Below w.heap.size w W → 0 < ys.length → Elems .i8 W src ys.length ys := fun W hW hpos => by
    rcases form with ⟨_, h0, _⟩ | ⟨x, _, h0, _⟩ | ⟨b, o, rfl, h0, rfl, _, _⟩
    · omega
    · omega
    · rw [hyl, hys]
      exact ((hE.below hW).drop (fr * C) (by omega)).take ((to - fr) * C) (by omega)
  have hmin : ys.length = Nat.min slen ((to - fr) * C) := by
    rcases form with ⟨_, h0, _, rfl, _⟩ | ⟨x, _, h0, _, rfl, _⟩ | ⟨b, o, _, h0, _, rfl, _⟩
    · have h00 : ys.length = 0 := by omega
      rw [h00]; exact (Nat.zero_min _).symm
    · have : R * C - fr * C ≥ (to - fr) * C := by omega
      rw [hyl]; exact (Nat.min_eq_right this).symm
    · have : R * C - fr * C ≥ (to - fr) * C := by omega
      rw [hyl]; exact (Nat.min_eq_right this).symm
  have hmC : (to - fr) * C ≤ 1048576 := by omega
  obtain ⟨m, hm⟩ : ∃ m, m = to - fr := ⟨_, rfl⟩
  have em : (to : Int) - (fr : Int) = (m : Int) := by omega
  have hmR : m ≤ 4096 := by omega
  rw [← hm] at hyl hmin hle2 hmC ⊢
  obtain ⟨p, hp⟩ : ∃ p, p = fr * C := ⟨_, rfl⟩
  have ep : (fr : Int) * (C : Int) = (p : Int) := by rw [hp]; push_cast; rfl
  rw [← hp] at form hle2
  have a2 := fun o o2 => ((Below.refl w.heap.size w).alloc (Nat.le_refl _) o).alloc (by simp) o2
  have a3 := fun o o2 o3 => (a2 o o2).alloc (by simp; omega) o3
  have hG := fun o o2 T => mats_one (T := T) (b := w.heap.size + 1 + 1) (⟨R, C, a, R * C, cap, v⟩ : Gr) (hgg.below (a2 o o2)) (by simp)
  have X1 := fun o T o3 => (box3_at (w := w.alloc o) (b := w.heap.size + 1) (by simp) (.int .i64 0) (.int .i64 0) (.slice none 0 0) T).alloc o3
  have X0 := fun o2 o3 => ((box3_at (w := w) rfl (.int .i64 R) (.int .i64 C) (.slice a (R * C : Nat) cap) 24).alloc o2).alloc o3
  have HSRC := Lib.hid hsrc
  have hwf : ∀ x ∈ ys, (Lit.int .i8 x).wf = true := fun x hx => by rw [hys] at hx; exact hE.2.2.1 x (List.mem_of_mem_drop (List.mem_of_mem_take hx))
  have HWF := Lib.hid hwf
  have HMIN := Lib.hid hmin
  have HYL := Lib.hid hyl
  obtain ⟨len, hlen⟩ : ∃ len, len = R * C := ⟨_, rfl⟩
  rw [← hlen] at form hle2 hcap
  have HLEN := Lib.hid hlen
  clear hgg hE hvl hsrc hmin hyl hm hp hys hlen hwf
  go_enter Try.func19, Try.ntmps19
  go_wp2_with fail
  refine (mright_one _ true hf _ _ _ (hG _ _ _)).mono ?_
  rintro e wb ⟨rfl, hb⟩
  have B1 := below_two (a3 _ _ _) hb
  have Y1 := (X1 _ _ _).below hb
  have Y0 := (X0 _ _).below hb
  have hlow := Y1.1
  clear hf a2 a3 hG X1 X0 hb
  have Y0' := Y0
  obtain ⟨_, c0, c1, c2, _, _, _⟩ := Y0
  go_wp2_with fail
  refine (minside_any fr to R true hins _).mono ?_
  rintro e wc ⟨rfl, rfl⟩
  clear hins
  go_wp2_with fail
  refine (blank_nat m C hmR hC hmC _).mono ?_
  rintro e wc ⟨G, rfl, hGl, hM, hc⟩
  have B2 := below_two B1 hc
  have Z1 := Y1.below hc
  have Z0 := Y0'.below hc
  have hGlt := hM.lt
  clear c0 c1 c2 Y1 Y0' hc B1
  go_wp2_with fail
  obtain ⟨W0, hW0⟩ : ∃ W0, W0 = wc.alloc (.cells #[.int .i64 m, .int .i64 C, .slice (some ⟨G, 0, none⟩) (m * C : Nat) (m * C : Nat)] 24) := ⟨_, rfl⟩
  have V8 : Box3 W0 wc.heap.size (.int .i64 m) (.int .i64 C) (.slice (some ⟨G, 0, none⟩) (m * C : Nat) (m * C : Nat)) := by rw [hW0]; exact box3_new _ _ _ _ _
  have V1 : Box3 W0 (w.heap.size + 1) (.int .i64 0) (.int .i64 0) (.slice none 0 0) := by rw [hW0]; exact Z1.alloc _
  have V0 : Box3 W0 w.heap.size (.int .i64 R) (.int .i64 C) (.slice a len cap) := by rw [hW0, HLEN.out]; exact Z0.alloc _
  have B3 : Below w.heap.size w W0 := by rw [hW0]; exact B2.alloc B2.size _
  have M0 : MineK .i8 W0 G 46 (List.replicate (m * C) 0) := by rw [hW0]; exact hM.alloc _
  rw [← hW0]
  clear hW0 Z1 Z0 B2 hM
  rcases form with ⟨rfl, rfl, rfl, rfl, rfl⟩ | ⟨x, rfl, rfl, rfl, rfl, rfl⟩ | ⟨b, o, rfl, hlt, rfl, rfl, rfl⟩
  · obtain rfl : len = 0 := by omega
    obtain rfl : p = 0 := by omega
    have ew : IntKind.i64.wrap 0 = 0 := rfl
    replace ep : (fr : Int) * (C : Int) = 0 := ep
    obtain ⟨we, hrun, hMe, hge⟩ := run_copy_mineK (P := Try.prog) (w := W0.drew) 22 22 3 46 Try.underlying22 (by kernel_rfl) (some ⟨G, 0, none⟩) none (m * C) (m * C) 0 0 G 0 _ 46 M0 ys HMIN.out (fun hpos => ⟨rfl, HSRC.out _ B3.drew hpos⟩) (by rw [HYL.out]; simp)
    rw [splice_all _ _ (by rw [HYL.out]; simp)] at hMe
    have hge2 : W0.grownBy we (some G) := (grownBy_drew W0 _).trans hge
    obtain ⟨_, c0, c1, c2, _, _, _⟩ := V0
    obtain ⟨_, e0, e1, e2, _, _, _⟩ := V8
    have V8' := (show Box3 W0 wc.heap.size _ _ _ from ⟨‹_›, e0, e1, e2, ‹_›, ‹_›, ‹_›⟩).kept hge2 (by simp; omega)
    have V1' := V1.kept hge2 (by simp; omega)
    have B4 := B3.grown hge2 B3.size (fun k hk => by cases hk; omega)
    have hE2 := hMe.elems HYL.out (by omega) HWF.out
    go_region_held3 (fun w' => w'.cell? ⟨w.heap.size, 0, none⟩ = some (.int .i64 R) ∧ w'.cell? ⟨w.heap.size, 1, none⟩ = some (.int .i64 C) ∧ w'.cell? ⟨w.heap.size, 2, none⟩ = some (.slice none 0 0) ∧ w'.cell? ⟨wc.heap.size, 2, none⟩ = some (.slice (some ⟨G, 0, none⟩) (m * C : Nat) (m * C : Nat)))
      (first | go_keep | (go_split_ands; refine ⟨?_, ?_, ?_, ?_⟩ <;> assumption) | (go_split_ands; refine ⟨?_, ?_, ?_, ?_⟩ <;> (refine hge.cell ?_ (by simp; omega); assumption)))
      (fail)
    obtain ⟨_, d0, d1, d2, _, _, _⟩ := V8'
    obtain ⟨_, r0, r1, r2, _, _, _⟩ := V1'
    have HB := Lib.hid (below_res B4 (b := w.heap.size + 1) (by omega) (.int .i64 m) (.int .i64 C) (.slice (some ⟨G, 0, none⟩) (m * C : Nat) (m * C : Nat)))
    have HE3 := Lib.hid (hE2.other (grownBy_res we (w.heap.size + 1) (.int .i64 m) (.int .i64 C) (.slice (some ⟨G, 0, none⟩) (m * C : Nat) (m * C : Nat))) (by omega))
    clear hE2 hMe hge hge2 hrun B4 B3 M0 V1 c0 c1 c2 e0 e1 e2 HMIN HSRC
    go_wp2
    exact bodyPost_ret (v := .tuple #[.agg #[.int .i64 m, .int .i64 C, .slice (some ⟨G, 0, none⟩) (m * C) (m * C)], .int .i64 0]) (by simp [results, Try.results19, go_sem, r0, r1, r2]) rfl
      ⟨⟨G, rfl, by omega, HE3.out⟩, HB.out⟩
  · have ew : IntKind.i64.wrap (p : Int) = (p : Int) := IntWalk.i64_in _ (by omega)
    obtain rfl : len = p := by omega
    have z0 : (0 : Int) ≤ (len : Int) := by omega
    have z1 : (len : Int) ≤ (len : Int) := by omega
    rw [Nat.sub_self] at HMIN
    obtain ⟨we, hrun, hMe, hge⟩ := run_copy_mineK (P := Try.prog) (w := W0.drew) 22 22 3 46 Try.underlying22 (by kernel_rfl) (some ⟨G, 0, none⟩) (some x) (m * C) (m * C) 0 0 G 0 _ 46 M0 ys HMIN.out (fun hpos => ⟨rfl, HSRC.out _ B3.drew hpos⟩) (by rw [HYL.out]; simp)
    rw [splice_all _ _ (by rw [HYL.out]; simp)] at hMe
    have hge2 : W0.grownBy we (some G) := (grownBy_drew W0 _).trans hge
    obtain ⟨_, c0, c1, c2, _, _, _⟩ := V0
    obtain ⟨_, e0, e1, e2, _, _, _⟩ := V8
    have V8' := (show Box3 W0 wc.heap.size _ _ _ from ⟨‹_›, e0, e1, e2, ‹_›, ‹_›, ‹_›⟩).kept hge2 (by simp; omega)
    have V1' := V1.kept hge2 (by simp; omega)
    have B4 := B3.grown hge2 B3.size (fun k hk => by cases hk; omega)
    have hE2 := hMe.elems HYL.out (by omega) HWF.out
    go_region_held3 (fun w' => w'.cell? ⟨w.heap.size, 0, none⟩ = some (.int .i64 R) ∧ w'.cell? ⟨w.heap.size, 1, none⟩ = some (.int .i64 C) ∧ w'.cell? ⟨w.heap.size, 2, none⟩ = some (.slice (some x) len len) ∧ w'.cell? ⟨wc.heap.size, 2, none⟩ = some (.slice (some ⟨G, 0, none⟩) (m * C : Nat) (m * C : Nat)))
      (first | go_keep | (go_split_ands; refine ⟨?_, ?_, ?_, ?_⟩ <;> assumption) | (go_split_ands; refine ⟨?_, ?_, ?_, ?_⟩ <;> (refine hge.cell ?_ (by simp; omega); assumption)))
      (fail)
    obtain ⟨_, d0, d1, d2, _, _, _⟩ := V8'
    obtain ⟨_, r0, r1, r2, _, _, _⟩ := V1'
    have HB := Lib.hid (below_res B4 (b := w.heap.size + 1) (by omega) (.int .i64 m) (.int .i64 C) (.slice (some ⟨G, 0, none⟩) (m * C : Nat) (m * C : Nat)))
    have HE3 := Lib.hid (hE2.other (grownBy_res we (w.heap.size + 1) (.int .i64 m) (.int .i64 C) (.slice (some ⟨G, 0, none⟩) (m * C : Nat) (m * C : Nat))) (by omega))
    clear hE2 hMe hge hge2 hrun B4 B3 M0 V1 c0 c1 c2 e0 e1 e2 HMIN HSRC
    go_wp2
    exact bodyPost_ret (v := .tuple #[.agg #[.int .i64 m, .int .i64 C, .slice (some ⟨G, 0, none⟩) (m * C) (m * C)], .int .i64 0]) (by simp [results, Try.results19, go_sem, r0, r1, r2]) rfl
      ⟨⟨G, rfl, by omega, HE3.out⟩, HB.out⟩
  · have ew : IntKind.i64.wrap (p : Int) = (p : Int) := IntWalk.i64_in _ (by omega)
    have z0 : (0 : Int) ≤ (p : Int) := by omega
    have z1 : (p : Int) ≤ (len : Int) := by omega
    have z2 : (p : Int) < (cap : Int) := by omega
    have z3 : (len : Int) ≤ (cap : Int) := by omega
    obtain ⟨we, hrun, hMe, hge⟩ := run_copy_mineK (P := Try.prog) (w := W0.drew) 22 22 3 46 Try.underlying22 (by kernel_rfl) (some ⟨G, 0, none⟩) (some ⟨b, o + p, none⟩) (m * C) (m * C) (len - p) (cap - p) G 0 _ 46 M0 ys HMIN.out (fun hpos => ⟨rfl, HSRC.out _ B3.drew hpos⟩) (by rw [HYL.out]; simp)
    rw [splice_all _ _ (by rw [HYL.out]; simp)] at hMe
    have hge2 : W0.grownBy we (some G) := (grownBy_drew W0 _).trans hge
    obtain ⟨_, c0, c1, c2, _, _, _⟩ := V0
    obtain ⟨_, e0, e1, e2, _, _, _⟩ := V8
    have V8' := (show Box3 W0 wc.heap.size _ _ _ from ⟨‹_›, e0, e1, e2, ‹_›, ‹_›, ‹_›⟩).kept hge2 (by simp; omega)
    have V1' := V1.kept hge2 (by simp; omega)
    have B4 := B3.grown hge2 B3.size (fun k hk => by cases hk; omega)
    have hE2 := hMe.elems HYL.out (by omega) HWF.out
    go_region_held3 (fun w' => w'.cell? ⟨w.heap.size, 0, none⟩ = some (.int .i64 R) ∧ w'.cell? ⟨w.heap.size, 1, none⟩ = some (.int .i64 C) ∧ w'.cell? ⟨w.heap.size, 2, none⟩ = some (.slice (some ⟨b, o, none⟩) len cap) ∧ w'.cell? ⟨wc.heap.size, 2, none⟩ = some (.slice (some ⟨G, 0, none⟩) (m * C : Nat) (m * C : Nat)))
      (first | go_keep | (go_split_ands; refine ⟨?_, ?_, ?_, ?_⟩ <;> assumption) | (go_split_ands; refine ⟨?_, ?_, ?_, ?_⟩ <;> (refine hge.cell ?_ (by simp; omega); assumption)))
      (fail)
    obtain ⟨_, d0, d1, d2, _, _, _⟩ := V8'
    obtain ⟨_, r0, r1, r2, _, _, _⟩ := V1'
    have HB := Lib.hid (below_res B4 (b := w.heap.size + 1) (by omega) (.int .i64 m) (.int .i64 C) (.slice (some ⟨G, 0, none⟩) (m * C : Nat) (m * C : Nat)))
    have HE3 := Lib.hid (hE2.other (grownBy_res we (w.heap.size + 1) (.int .i64 m) (.int .i64 C) (.slice (some ⟨G, 0, none⟩) (m * C : Nat) (m * C : Nat))) (by omega))
    clear hE2 hMe hge hge2 hrun B4 B3 M0 V1 c0 c1 c2 e0 e1 e2 HMIN HSRC
    go_wp2
    exact bodyPost_ret (v := .tuple #[.agg #[.int .i64 m, .int .i64 C, .slice (some ⟨G, 0, none⟩) (m * C) (m * C)], .int .i64 0]) (by simp [results, Try.results19, go_sem, r0, r1, r2]) rfl
      ⟨⟨G, rfl, by omega, HE3.out⟩, HB.out⟩

theorem mrows_yes (g : Gr) (R C fr to : Nat) (e1 : g.r = R) (e2 : g.c = C) (e3 : g.n = R * C) (hR : R ≤ 4096) (hC : C ≤ 4096) (hle : R * C ≤ 1048576) (h1 : fr ≤ to) (h2 : to ≤ R) (p q : Int) (hp : p = fr) (hq : q = to) (w : World) (hg : g.In8 w) :
    Calls Try.prog 19 #[.agg #[.int .i64 g.r, .int .i64 g.c, .slice g.a g.n g.cap], .int .i64 p, .int .i64 q] w fun e w' => NewMat w w' (to - fr) C (tab (to - fr) C fun i j => g.v.getD ((fr + i) * C + j) 0) e ∧ Below w.heap.size w w' := by
  obtain ⟨gr, gc, ga, gn, gcap, gv⟩ := g
  simp only at e1 e2 e3 ⊢
  subst e1 e2 e3 hp hq
  have hvl : gv.length = R * C := hg.1.1
  have hcap : R * C ≤ gcap := hg.2.1
  have hsl := hg.2.2.2.1
  simp only at hsl
  rw [← rows_stretch gv R C fr to hvl h1 h2]
  have hfr : fr * C ≤ R * C := Nat.mul_le_mul_right C (by omega)
  cases ga with
  | none =>
    obtain rfl := hsl.1 rfl
    exact mrows_walk R C fr to none 0 gv w hg hR hC hle h1 h2 none 0 0 _ rfl (.inl ⟨rfl, rfl, rfl, rfl, rfl⟩)
  | some x =>
    by_cases hlt : fr * C < gcap
    · obtain ⟨b, o, spot⟩ := x
      have := hsl.2 _ rfl (by omega)
      simp only at this
      subst this
      exact mrows_walk R C fr to _ gcap gv w hg hR hC hle h1 h2 _ _ _ _ rfl (.inr (.inr ⟨b, o, rfl, hlt, rfl, rfl, rfl⟩))
    · exact mrows_walk R C fr to (some x) gcap gv w hg hR hC hle h1 h2 _ _ _ _ rfl (.inr (.inl ⟨x, rfl, by omega, rfl, rfl, rfl⟩))

end Go.Proofs.Ytkiedganojaniaa
