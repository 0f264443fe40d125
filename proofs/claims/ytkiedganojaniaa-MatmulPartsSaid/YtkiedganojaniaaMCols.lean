/-
  Contract of layer 4's Cols: some columns of a matrix in new memory, or a refusal.
-/
import Derived.Test.YtkiedganojaniaaMRows
namespace Go.Proofs.Ytkiedganojaniaa
open Go.RowKit
set_option linter.unusedVariables false

theorem sl_some (b off cap : Nat) : Sl (some ⟨b, off, none⟩) cap := ⟨fun e => (by cases e), fun x e _ => (by cases e; rfl)⟩

/-- a row of a right matrix: where it lies, said once for every world -/
theorem mline_det (R C i : Nat) (a : Option Addr) (cap : Nat) (hcap : R * C ≤ cap) (hcap2 : cap ≤ 9223372036854775807) (hs : Sl a cap) (hR : R ≤ 4096) (hC : C ≤ 4096) (hi : i < R) :
    ∃ a1 cap1, C ≤ cap1 ∧ cap1 ≤ 9223372036854775807 ∧ Sl a1 cap1 ∧ (0 < C → ∃ b off, a = some ⟨b, off, none⟩ ∧ a1 = some ⟨b, off + i * C, none⟩) ∧
      ∀ W, Calls Try.prog 35 #[.agg #[.int .i64 R, .int .i64 C, .slice a (R * C : Nat) cap], .int .i64 i] W fun e w' => e = .returned (.slice a1 C cap1) ∧ Below W.heap.size W w' := by
  by_cases hC0 : 0 < C
  · have hl := row_le (C := C) hi
    cases a with
    | none => have := hs.1 rfl; omega
    | some x =>
      obtain ⟨b, off, spot⟩ := x
      have h := hs.2 _ rfl (by omega)
      simp only at h
      subst h
      exact ⟨some ⟨b, off + i * C, none⟩, cap - i * C, by omega, by omega, (sl_some _ _ _), fun _ => ⟨b, off, rfl, rfl⟩, fun W => mline_any R C i b off cap W hcap hcap2 hR hC hC0 hi⟩
  · obtain rfl : C = 0 := by omega
    exact ⟨a, cap, by omega, hcap2, hs, fun h => absurd h (by omega), fun W => by rw [Nat.mul_zero]; exact mline_zero R i a cap W hcap2 hs.1⟩

set_option maxHeartbeats 800000 in
theorem mcols_shape (g : Gr) (p q : Int) (h : fitB g.r g.c g.n = false) (w : World) (hg : g.In8 w) :
    Calls Try.prog 20 #[.agg #[.int .i64 g.r, .int .i64 g.c, .slice g.a g.n g.cap], .int .i64 p, .int .i64 q] w fun e w' => NoMat 30 e ∧ Below w.heap.size w w' := by
  have a2 := fun o o2 => ((Below.refl w.heap.size w).alloc (Nat.le_refl _) o).alloc (by simp) o2
  have a3 := fun o o2 o3 => (a2 o o2).alloc (by simp; omega) o3
  have hG := fun o o2 T => mats_one (T := T) (b := w.heap.size + 1 + 1) g (hg.below (a2 o o2)) (by simp)
  have X1 := fun o T o3 => (box3_at (w := w.alloc o) (b := w.heap.size + 1) (by simp) (.int .i64 0) (.int .i64 0) (.slice none 0 0) T).alloc o3
  clear hg
  go_enter Try.func20, Try.ntmps20
  go_wp2_with fail
  refine (mright_one g false h _ _ _ (hG _ _ _)).mono ?_
  rintro e wb ⟨rfl, hb⟩
  have B1 := below_two (a3 _ _ _) hb
  obtain ⟨_, d0, d1, d2, _, _, _⟩ := (X1 _ _ _).below hb
  clear h a2 a3 hG X1 hb
  go_wp2
  exact bodyPost_ret (v := .tuple #[.agg #[.int .i64 0, .int .i64 0, .slice none 0 0], .int .i64 30]) (by simp [results, Try.results20, go_sem, d0, d1, d2]) rfl
    ⟨rfl, below_res B1 (by omega) _ _ _⟩

set_option maxHeartbeats 800000 in
theorem mcols_arg (g : Gr) (p q : Int) (h : fitB g.r g.c g.n = true) (h2 : insB p q g.c = false) (w : World) (hg : g.In8 w) :
    Calls Try.prog 20 #[.agg #[.int .i64 g.r, .int .i64 g.c, .slice g.a g.n g.cap], .int .i64 p, .int .i64 q] w fun e w' => NoMat 2 e ∧ Below w.heap.size w w' := by
  have a2 := fun o o2 => ((Below.refl w.heap.size w).alloc (Nat.le_refl _) o).alloc (by simp) o2
  have a3 := fun o o2 o3 => (a2 o o2).alloc (by simp; omega) o3
  have hG := fun o o2 T => mats_one (T := T) (b := w.heap.size + 1 + 1) g (hg.below (a2 o o2)) (by simp)
  have X1 := fun o T o3 => (box3_at (w := w.alloc o) (b := w.heap.size + 1) (by simp) (.int .i64 0) (.int .i64 0) (.slice none 0 0) T).alloc o3
  have X0 := fun o2 o3 => ((box3_at (w := w) rfl (.int .i64 g.r) (.int .i64 g.c) (.slice g.a g.n g.cap) 24).alloc o2).alloc o3
  clear hg
  go_enter Try.func20, Try.ntmps20
  go_wp2_with fail
  refine (mright_one g true h _ _ _ (hG _ _ _)).mono ?_
  rintro e wb ⟨rfl, hb⟩
  have B1 := below_two (a3 _ _ _) hb
  obtain ⟨_, d0, d1, d2, _, _, _⟩ := (X1 _ _ _).below hb
  obtain ⟨_, c0, c1, c2, _, _, _⟩ := (X0 _ _).below hb
  clear h a2 a3 hG X1 X0 hb
  go_wp2_with fail
  refine (minside_any p q g.c false h2 _).mono ?_
  rintro e wc ⟨rfl, rfl⟩
  clear h2
  go_wp2
  exact bodyPost_ret (v := .tuple #[.agg #[.int .i64 0, .int .i64 0, .slice none 0 0], .int .i64 2]) (by simp [results, Try.results20, go_sem, d0, d1, d2]) rfl
    ⟨rfl, below_res B1 (by omega) _ _ _⟩

set_option maxHeartbeats 2400000 in
theorem mcols_walk (R C fr to : Nat) (a : Option Addr) (cap : Nat) (v : List Int) (w : World) (hg : (⟨R, C, a, R * C, cap, v⟩ : Gr).In8 w) (hR : R ≤ 4096) (hC : C ≤ 4096) (hle : R * C ≤ 1048576) (h1 : fr ≤ to) (h2 : to ≤ C) :
    Calls Try.prog 20 #[.agg #[.int .i64 R, .int .i64 C, .slice a (R * C : Nat) cap], .int .i64 fr, .int .i64 to] w fun e w' => NewMat w w' R (to - fr) (tab R (to - fr) fun i j => v.getD (i * C + (fr + j)) 0) e ∧ Below w.heap.size w w' := by
  have hf := fitB_nat R C hR hC hle
  have hins : insB fr to C = true := by unfold insB; exact decide_eq_true (by omega)
  have hgg : (⟨R, C, a, R * C, cap, v⟩ : Gr).In8 w := hg
  obtain ⟨hE, hcap, hcap2, hsl, _⟩ := hg
  simp only at hE hcap hcap2 hsl
  have hnR : R * (to - fr) ≤ 1048576 := by have := Nat.mul_le_mul_left R (show to - fr ≤ C by omega); omega
  obtain ⟨n, hn⟩ : ∃ n, n = to - fr := ⟨_, rfl⟩
  have en : (to : Int) - (fr : Int) = (n : Int) := by omega
  have hnC : n ≤ 4096 := by omega
  rw [← hn] at hnR ⊢
  have a2 := fun o o2 => ((Below.refl w.heap.size w).alloc (Nat.le_refl _) o).alloc (by simp) o2
  have a3 := fun o o2 o3 => (a2 o o2).alloc (by simp; omega) o3
  have hG := fun o o2 T => mats_one (T := T) (b := w.heap.size + 1 + 1) (⟨R, C, a, R * C, cap, v⟩ : Gr) (hgg.below (a2 o o2)) (by simp)
  have X1 := fun o T o3 => (box3_at (w := w.alloc o) (b := w.heap.size + 1) (by simp) (.int .i64 0) (.int .i64 0) (.slice none 0 0) T).alloc o3
  have X0 := fun o2 o3 => ((box3_at (w := w) rfl (.int .i64 R) (.int .i64 C) (.slice a (R * C : Nat) cap) 24).alloc o2).alloc o3
  have HE := Lib.hid hE
  have HN := Lib.hid hn
  have HSL := Lib.hid hsl
  have HCAP := Lib.hid hcap
  clear hgg hE hn hsl hcap
  go_enter Try.func20, Try.ntmps20
  go_wp2_with fail
  refine (mright_one _ true hf _ _ _ (hG _ _ _)).mono ?_
  rintro e wb ⟨rfl, hb⟩
  have B1 := below_two (a3 _ _ _) hb
  have Y1 := (X1 _ _ _).below hb
  have Y0 := (X0 _ _).below hb
  have hlow := Y1.1
  clear hf a2 a3 hG X1 X0 hb
  have Y0' := Y0
  obtain ⟨_, c0, c1, c2, _, _, _⟩ := Y0
  go_wp2_with fail
  refine (minside_any fr to C true hins _).mono ?_
  rintro e wc ⟨rfl, rfl⟩
  clear hins
  go_wp2_with fail
  refine (blank_nat R n hR hnC hnR _).mono ?_
  rintro e wc ⟨G, rfl, hGl, hM, hc⟩
  have B2 := below_two B1 hc
  have Z1 := Y1.below hc
  have Z0 := Y0'.below hc
  have hGlt := hM.lt
  obtain ⟨_, k0, k1, k2, _, _, _⟩ := Z0.alloc (.cells #[.int .i64 R, .int .i64 n, .slice (some ⟨G, 0, none⟩) (R * n : Nat) (R * n : Nat)] 24)
  have V8 := box3_new wc (.int .i64 R) (.int .i64 n) (.slice (some ⟨G, 0, none⟩) (R * n : Nat) (R * n : Nat)) 24
  have V1 := Z1.alloc (.cells #[.int .i64 R, .int .i64 n, .slice (some ⟨G, 0, none⟩) (R * n : Nat) (R * n : Nat)] 24)
  have V0 := Z0.alloc (.cells #[.int .i64 R, .int .i64 n, .slice (some ⟨G, 0, none⟩) (R * n : Nat) (R * n : Nat)] 24)
  have B3 := B2.alloc B2.size (.cells #[.int .i64 R, .int .i64 n, .slice (some ⟨G, 0, none⟩) (R * n : Nat) (R * n : Nat)] 24)
  have M0 := hM.alloc (.cells #[.int .i64 R, .int .i64 n, .slice (some ⟨G, 0, none⟩) (R * n : Nat) (R * n : Nat)] 24)
  clear c0 c1 c2 Y1 Y0' hc B1 Z1 Z0 B2 hM
  go_wp2_with fail
  clear k0 k1 k2
  go_loopw [30] (fun i wr => ∃ (k : Nat) (cs : List Int), k ≤ R ∧ i = .int .i64 k ∧ MineK .i8 wr G 46 cs ∧ Hid (RowsSet (fun i j => v.getD (i * C + (fr + j)) 0) R n k cs) ∧ Below w.heap.size w wr ∧ Box3 wr w.heap.size (.int .i64 R) (.int .i64 C) (.slice a (R * C : Nat) cap) ∧ Box3 wr (w.heap.size + 1) (.int .i64 0) (.int .i64 0) (.slice none 0 0) ∧ Box3 wr wc.heap.size (.int .i64 R) (.int .i64 n) (.slice (some ⟨G, 0, none⟩) (R * n : Nat) (R * n : Nat))) (fun i _ => R - (intOf i).toNat)
  case atStart => exact ⟨0, _, by omega, rfl, M0, Lib.hid (rowsSet_start _ R n), B3, V0, V1, V8⟩
  case round =>
    clear V8 V1 V0 B3 M0
    obtain ⟨k, cs, hk, rfl, hM, hrs, hbel, b0, b1, b8⟩ := hrel
    by_cases hlt : k < R
    · have hcs := hrs.out.1
      have hkn := row_le (C := n) hlt
      have hl0 : (rowOf v C k).length = C := rowOf_length HE.out.1 hlt
      obtain ⟨ys, hys⟩ : ∃ ys, ys = ((rowOf v C k).drop fr).take n := ⟨_, rfl⟩
      have hyl : ys.length = n := by rw [hys]; have := HN.out; simp; omega
      have hrs2 : ∀ cs', cs' = splice cs (k * n) ys → RowsSet (fun i j => v.getD (i * C + (fr + j)) 0) R n (k + 1) cs' := fun cs' e => by
        rw [e]
        refine rowsSet_step hrs.out (rowSet_splice hcs hlt ys hyl fun j hj => ?_)
        rw [hys, List.getD_eq_getElem?_getD, List.getElem?_take_of_lt hj, List.getElem?_drop, ← List.getD_eq_getElem?_getD, rowOf_at _ _ _ _ (by have := HN.out; omega)]
      obtain ⟨d1, dcap, hd1, hd2, _, hd4, hdc⟩ := mline_det R n k (some ⟨G, 0, none⟩) (R * n) (Nat.le_refl _) (by omega) (sl_some _ _ _) hR hnC hlt
      obtain ⟨a1, cap1, ha1, ha2, ha3, ha4, hac⟩ := mline_det R C k a cap HCAP.out hcap2 HSL.out hR hC hlt
      have hrow := line_elems (HE.out.below hbel) hlt ha4
      have hdst : 0 < ys.length → d1 = some ⟨G, k * n, none⟩ := fun h => by
        obtain ⟨b, off, e1, e2⟩ := hd4 (by omega)
        cases e1
        rw [e2, Nat.zero_add]
      have HDST := Lib.hid hdst
      have HRS2 := Lib.hid hrs2
      have HYL := Lib.hid hyl
      have hfit : k * n + ys.length ≤ cs.length := by rw [hyl, hcs]; exact hkn
      have HFIT := Lib.hid hfit
      have hgl := hM.lt
      have hform : (a1 = none ∧ cap1 = 0) ∨ (∃ x, a1 = some x ∧ fr = cap1) ∨ (∃ b o, a1 = some ⟨b, o, none⟩ ∧ fr < cap1 ∧ Elems .i8 wr (some ⟨b, o + fr, none⟩) ys.length ys) := by
        cases a1 with
        | none => exact .inl ⟨rfl, ha3.1 rfl⟩
        | some x =>
          by_cases hfc : fr < cap1
          · obtain ⟨b, o, spot⟩ := x
            have := ha3.2 _ rfl (by omega)
            simp only at this
            subst this
            refine .inr (.inr ⟨b, o, rfl, hfc, ?_⟩)
            rw [hyl, hys]
            exact (hrow.drop fr (by omega)).take n (by have := HN.out; omega)
          · exact .inr (.inl ⟨x, rfl, by have := HN.out; omega⟩)
      have b0' := b0
      have b8' := b8
      obtain ⟨_, c0, c1, c2, _, _, _⟩ := b0
      obtain ⟨_, e0, e1, e2, _, _, _⟩ := b8
      clear hrs hcs hkn hl0 hys hyl hrs2 hd4 ha4 hrow hdst hfit
      have hS0 : Below wr.heap.size wr wr.drew := (Below.refl _ _).drew
      rcases hform with ⟨rfl, rfl⟩ | ⟨x, rfl, rfl⟩ | ⟨b, o, rfl, hfc, hsrc⟩
      · obtain rfl : C = 0 := by omega
        obtain rfl : to = 0 := by omega
        obtain rfl : fr = 0 := by omega
        obtain rfl : n = 0 := HN.out
        replace c1 : wr.cell? ⟨w.heap.size, 1, none⟩ = some (.int .i64 0) := c1
        replace b8' : Box3 wr wc.heap.size (.int .i64 R) (.int .i64 0) (.slice (some ⟨G, 0, none⟩) 0 0) := b8'
        replace e2 : wr.cell? ⟨wc.heap.size, 2, none⟩ = some (.slice (some ⟨G, 0, none⟩) 0 0) := e2
        replace b0' : Box3 wr w.heap.size (.int .i64 R) (.int .i64 0) (.slice a 0 cap) := b0'
        replace c2 : wr.cell? ⟨w.heap.size, 2, none⟩ = some (.slice a 0 cap) := c2
        replace e1 : wr.cell? ⟨wc.heap.size, 1, none⟩ = some (.int .i64 0) := e1
        replace hac : ∀ W, Calls Try.prog 35 #[.agg #[.int .i64 R, .int .i64 0, .slice a 0 cap], .int .i64 k] W fun e w' => e = .returned (.slice none 0 0) ∧ Below W.heap.size W w' := hac
        replace hdc : ∀ W, Calls Try.prog 35 #[.agg #[.int .i64 R, .int .i64 0, .slice (some ⟨G, 0, none⟩) 0 0], .int .i64 k] W fun e w' => e = .returned (.slice d1 0 dcap) ∧ Below W.heap.size W w' := hdc
        go_wp2_with fail
        go_region_held3 (fun w' => w'.cell? ⟨w.heap.size, 0, none⟩ = some (.int .i64 R) ∧ w'.cell? ⟨w.heap.size, 1, none⟩ = some (.int .i64 0) ∧ w'.cell? ⟨w.heap.size, 2, none⟩ = some (.slice a 0 cap) ∧
            w'.cell? ⟨wc.heap.size, 0, none⟩ = some (.int .i64 R) ∧ w'.cell? ⟨wc.heap.size, 1, none⟩ = some (.int .i64 0) ∧ w'.cell? ⟨wc.heap.size, 2, none⟩ = some (.slice (some ⟨G, 0, none⟩) 0 0))
          (first | go_keep | (go_split_ands; refine ⟨?_, ?_, ?_, ?_, ?_, ?_⟩ <;> assumption))
          (first
            | (go_at_call 35; (with_reducible refine (hdc _).mono ?_); rintro e w1 ⟨rfl, hb1⟩; have hS1 := below_two hS0 hb1
               obtain ⟨_, m0, m1, m2, _, _, _⟩ := b0'.below hS1
               obtain ⟨_, m3, m4, m5, _, _, _⟩ := b8'.below hS1)
            | (go_at_call 35; (with_reducible refine (hac _).mono ?_); rintro e w2 ⟨rfl, hb2⟩; have hS2 := below_two hS1 hb2
               obtain ⟨_, n0, n1, n2, _, _, _⟩ := b0'.below hS2
               obtain ⟨_, n3, n4, n5, _, _, _⟩ := b8'.below hS2
               have hM2 := hM.below hS2 hgl
               obtain ⟨we, hrun, hMe, hge⟩ := run_copy_mineK (P := Try.prog) (w := w2) 22 22 3 46 Try.underlying22 (by kernel_rfl) d1 none 0 dcap 0 0 G (k * 0) cs 46 hM2 ys (by rw [HYL.out]; rfl) (fun h => by have := HYL.out; omega) HFIT.out
               obtain ⟨_, p0, p1, p2, _, _, _⟩ := (b0'.below hS2).kept hge (by simp; omega)
               obtain ⟨_, p3, p4, p5, _, _, _⟩ := (b8'.below hS2).kept hge (by simp; omega)))
        have hge2 : wr.grownBy we (some G) := (grownBy_below hS2 _).trans hge
        have B4 := hbel.grown hge2 hbel.size (fun k hk => by cases hk; omega)
        have Q0 := b0'.kept hge2 (by simp; omega)
        have Q1 := b1.kept hge2 (by simp; omega)
        have Q8 := b8'.kept hge2 (by simp; omega)
        have HR := Lib.hid (HRS2.out _ rfl)
        clear hge hge2 hrun hS0 hS1 hS2 hM2 b0' b8' b1 hbel hdc hac
        go_wp2
        go_roundw
        case rel => ((repeat apply Exists.intro); exact ⟨⟨k + 1, _, by omega, by go_num, hMe, HR, B4, Q0, Q1, Q8⟩, rfl⟩)
        case measure => simp [intOf]; omega
      · obtain rfl : C = fr := by omega
        obtain rfl : to = C := by omega
        obtain rfl : n = 0 := by have := HN.out; omega
        replace b8' : Box3 wr wc.heap.size (.int .i64 R) (.int .i64 0) (.slice (some ⟨G, 0, none⟩) 0 0) := b8'
        replace e2 : wr.cell? ⟨wc.heap.size, 2, none⟩ = some (.slice (some ⟨G, 0, none⟩) 0 0) := e2
        replace e1 : wr.cell? ⟨wc.heap.size, 1, none⟩ = some (.int .i64 0) := e1
        replace hdc : ∀ W, Calls Try.prog 35 #[.agg #[.int .i64 R, .int .i64 0, .slice (some ⟨G, 0, none⟩) 0 0], .int .i64 k] W fun e w' => e = .returned (.slice d1 0 dcap) ∧ Below W.heap.size W w' := hdc
        clear en
        go_wp2_with fail
        go_region_held3 (fun w' => w'.cell? ⟨w.heap.size, 0, none⟩ = some (.int .i64 R) ∧ w'.cell? ⟨w.heap.size, 1, none⟩ = some (.int .i64 to) ∧ w'.cell? ⟨w.heap.size, 2, none⟩ = some (.slice a (R * to : Nat) cap) ∧
            w'.cell? ⟨wc.heap.size, 0, none⟩ = some (.int .i64 R) ∧ w'.cell? ⟨wc.heap.size, 1, none⟩ = some (.int .i64 0) ∧ w'.cell? ⟨wc.heap.size, 2, none⟩ = some (.slice (some ⟨G, 0, none⟩) 0 0))
          (first | go_keep | (go_split_ands; refine ⟨?_, ?_, ?_, ?_, ?_, ?_⟩ <;> assumption))
          (first
            | (go_at_call 35; (with_reducible refine (hdc _).mono ?_); rintro e w1 ⟨rfl, hb1⟩; have hS1 := below_two hS0 hb1
               obtain ⟨_, m0, m1, m2, _, _, _⟩ := b0'.below hS1
               obtain ⟨_, m3, m4, m5, _, _, _⟩ := b8'.below hS1)
            | (go_at_call 35; (with_reducible refine (hac _).mono ?_); rintro e w2 ⟨rfl, hb2⟩; have hS2 := below_two hS1 hb2
               obtain ⟨_, n0, n1, n2, _, _, _⟩ := b0'.below hS2
               obtain ⟨_, n3, n4, n5, _, _, _⟩ := b8'.below hS2
               have hM2 := hM.below hS2 hgl
               obtain ⟨we, hrun, hMe, hge⟩ := run_copy_mineK (P := Try.prog) (w := w2) 22 22 3 46 Try.underlying22 (by kernel_rfl) d1 (some x) 0 dcap 0 0 G (k * 0) cs 46 hM2 ys (by rw [HYL.out]; rfl) (fun h => by have := HYL.out; omega) HFIT.out
               obtain ⟨_, p0, p1, p2, _, _, _⟩ := (b0'.below hS2).kept hge (by simp; omega)
               obtain ⟨_, p3, p4, p5, _, _, _⟩ := (b8'.below hS2).kept hge (by simp; omega)))
        have hge2 : wr.grownBy we (some G) := (grownBy_below hS2 _).trans hge
        have B4 := hbel.grown hge2 hbel.size (fun k hk => by cases hk; omega)
        have Q0 := b0'.kept hge2 (by simp; omega)
        have Q1 := b1.kept hge2 (by simp; omega)
        have Q8 := b8'.kept hge2 (by simp; omega)
        have HR := Lib.hid (HRS2.out _ rfl)
        clear hge hge2 hrun hS0 hS1 hS2 hM2 b0' b8' b1 hbel hdc hac
        go_wp2
        go_roundw
        case rel => ((repeat apply Exists.intro); exact ⟨⟨k + 1, _, by omega, by go_num, hMe, HR, B4, Q0, Q1, Q8⟩, rfl⟩)
        case measure => simp [intOf]; omega
      · have z0 : (0 : Int) ≤ (fr : Int) := by omega
        have z1 : (fr : Int) ≤ (to : Int) := by omega
        have z2 : (to : Int) ≤ (C : Int) := by omega
        have z3 : (C : Int) ≤ (cap1 : Int) := by omega
        have z4 : (to : Int) ≤ (cap1 : Int) := by omega
        have z5 : (fr : Int) < (cap1 : Int) := by omega
        have HSRC := Lib.hid hsrc
        clear hsrc
        go_wp2_with fail
        go_region_held3 (fun w' => w'.cell? ⟨w.heap.size, 0, none⟩ = some (.int .i64 R) ∧ w'.cell? ⟨w.heap.size, 1, none⟩ = some (.int .i64 C) ∧ w'.cell? ⟨w.heap.size, 2, none⟩ = some (.slice a (R * C : Nat) cap) ∧
            w'.cell? ⟨wc.heap.size, 0, none⟩ = some (.int .i64 R) ∧ w'.cell? ⟨wc.heap.size, 1, none⟩ = some (.int .i64 n) ∧ w'.cell? ⟨wc.heap.size, 2, none⟩ = some (.slice (some ⟨G, 0, none⟩) (R * n : Nat) (R * n : Nat)))
          (first | go_keep | (go_split_ands; refine ⟨?_, ?_, ?_, ?_, ?_, ?_⟩ <;> assumption))
          (first
            | (go_at_call 35; (with_reducible refine (hdc _).mono ?_); rintro e w1 ⟨rfl, hb1⟩; have hS1 := below_two hS0 hb1
               obtain ⟨_, m0, m1, m2, _, _, _⟩ := b0'.below hS1
               obtain ⟨_, m3, m4, m5, _, _, _⟩ := b8'.below hS1)
            | (go_at_call 35; (with_reducible refine (hac _).mono ?_); rintro e w2 ⟨rfl, hb2⟩; have hS2 := below_two hS1 hb2
               obtain ⟨_, n0, n1, n2, _, _, _⟩ := b0'.below hS2
               obtain ⟨_, n3, n4, n5, _, _, _⟩ := b8'.below hS2
               have hM2 := hM.below hS2 hgl
               obtain ⟨we, hrun, hMe, hge⟩ := run_copy_mineK (P := Try.prog) (w := w2) 22 22 3 46 Try.underlying22 (by kernel_rfl) d1 (some ⟨b, o + fr, none⟩) n dcap (to - fr) (cap1 - fr) G (k * n) cs 46 hM2 ys (by rw [HYL.out, ← HN.out]; exact (Nat.min_self _).symm) (fun h => ⟨HDST.out h, HSRC.out.below hS2⟩) HFIT.out
               obtain ⟨_, p0, p1, p2, _, _, _⟩ := (b0'.below hS2).kept hge (by simp; omega)
               obtain ⟨_, p3, p4, p5, _, _, _⟩ := (b8'.below hS2).kept hge (by simp; omega)))
        have hge2 : wr.grownBy we (some G) := (grownBy_below hS2 _).trans hge
        have B4 := hbel.grown hge2 hbel.size (fun k hk => by cases hk; omega)
        have Q0 := b0'.kept hge2 (by simp; omega)
        have Q1 := b1.kept hge2 (by simp; omega)
        have Q8 := b8'.kept hge2 (by simp; omega)
        have HR := Lib.hid (HRS2.out _ rfl)
        clear hge hge2 hrun hS0 hS1 hS2 hM2 b0' b8' b1 hbel hdc hac
        go_wp2
        go_roundw
        case rel => exact ⟨k + 1, _, by omega, by go_num, hMe, HR, B4, Q0, Q1, Q8⟩
        case measure => simp [intOf]; omega
    · obtain rfl : k = R := by omega
      have hres := rowsSet_end hrs.out
      have hlen := hrs.out.1
      rw [hres] at hM
      have hwf : ∀ x ∈ tab k n (fun i j => v.getD (i * C + (fr + j)) 0), (Lit.int .i8 x).wf = true := by
        intro x hx
        unfold tab at hx
        rw [List.mem_flatMap] at hx
        obtain ⟨i, hi, hx⟩ := hx
        obtain ⟨j, hj, rfl⟩ := List.mem_map.1 hx
        exact getD_wf HE.out.2.2.1 rfl _
      have hE2 := hM.elems (n := k * n) (tab_length _ _ _) (by omega) hwf
      obtain ⟨_, d0, d1, d2, _, _, _⟩ := b8
      obtain ⟨_, r0, r1, r2, _, _, _⟩ := b1
      have HB := Lib.hid (below_res hbel (b := w.heap.size + 1) (by omega) (.int .i64 k) (.int .i64 n) (.slice (some ⟨G, 0, none⟩) (k * n : Nat) (k * n : Nat)))
      have HE3 := Lib.hid (hE2.other (grownBy_res wr (w.heap.size + 1) (.int .i64 k) (.int .i64 n) (.slice (some ⟨G, 0, none⟩) (k * n : Nat) (k * n : Nat))) (by omega))
      obtain ⟨_, c0, c1, c2, _, _, _⟩ := b0
      clear hE2 hM hbel hres hlen hwf hrs
      go_wp2
      exact bodyPost_ret (v := .tuple #[.agg #[.int .i64 k, .int .i64 n, .slice (some ⟨G, 0, none⟩) (k * n) (k * n)], .int .i64 0]) (by simp [results, Try.results20, go_sem, r0, r1, r2]) rfl
        ⟨⟨G, rfl, by omega, HE3.out⟩, HB.out⟩

theorem mcols_yes (g : Gr) (R C fr to : Nat) (e1 : g.r = R) (e2 : g.c = C) (e3 : g.n = R * C) (hR : R ≤ 4096) (hC : C ≤ 4096) (hle : R * C ≤ 1048576) (h1 : fr ≤ to) (h2 : to ≤ C) (p q : Int) (hp : p = fr) (hq : q = to) (w : World) (hg : g.In8 w) :
    Calls Try.prog 20 #[.agg #[.int .i64 g.r, .int .i64 g.c, .slice g.a g.n g.cap], .int .i64 p, .int .i64 q] w fun e w' => NewMat w w' R (to - fr) (tab R (to - fr) fun i j => g.v.getD (i * C + (fr + j)) 0) e ∧ Below w.heap.size w w' := by
  obtain ⟨gr, gc, ga, gn, gcap, gv⟩ := g
  simp only at e1 e2 e3 ⊢
  subst e1 e2 e3 hp hq
  exact mcols_walk R C fr to ga gcap gv w hg hR hC hle h1 h2

end Go.Proofs.Ytkiedganojaniaa
