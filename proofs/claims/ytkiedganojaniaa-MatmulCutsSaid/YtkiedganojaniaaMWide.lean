/-
  Contracts of layer 4's Wide, Narrow and Spans: answers in new memory, or refusals.
-/
import Derived.Test.YtkiedganojaniaaMCols
import Derived.Test.YtkiedganojaniaaQuants
namespace Go.Proofs.Ytkiedganojaniaa
open Go.RowKit
set_option linter.unusedVariables false

/-- the grid that came without an error lies in a new block -/
def NewWide (w0 w : World) (R C : Nat) (xs : List Int) (e : Ending) : Prop :=
  ∃ g, e = .returned (.tuple #[.agg #[.int .i64 R, .int .i64 C, .slice (some ⟨g, 0, none⟩) (R * C : Nat) (R * C : Nat)], .int .i64 0]) ∧ w0.heap.size ≤ g ∧ Elems .i32 w (some ⟨g, 0, none⟩) (R * C) xs

set_option maxHeartbeats 800000 in
theorem wide_no (g : Gr) (h : fitB g.r g.c g.n = false) (w : World) (hg : g.In8 w) :
    Calls Try.prog 21 #[.agg #[.int .i64 g.r, .int .i64 g.c, .slice g.a g.n g.cap]] w fun e w' => NoMat 30 e ∧ Below w.heap.size w w' := by
  have a2 := fun o o2 => ((Below.refl w.heap.size w).alloc (Nat.le_refl _) o).alloc (by simp) o2
  have a3 := fun o o2 o3 => (a2 o o2).alloc (by simp; omega) o3
  have hG := fun o o2 T => mats_one (T := T) (b := w.heap.size + 1 + 1) g (hg.below (a2 o o2)) (by simp)
  have X1 := fun o T o3 => (box3_at (w := w.alloc o) (b := w.heap.size + 1) (by simp) (.int .i64 0) (.int .i64 0) (.slice none 0 0) T).alloc o3
  clear hg
  go_enter Try.func21, Try.ntmps21
  go_wp2_with fail
  refine (mright_one g false h _ _ _ (hG _ _ _)).mono ?_
  rintro e wb ⟨rfl, hb⟩
  have B1 := below_two (a3 _ _ _) hb
  obtain ⟨_, d0, d1, d2, _, _, _⟩ := (X1 _ _ _).below hb
  clear h a2 a3 hG X1 hb
  go_wp2
  exact bodyPost_ret (v := .tuple #[.agg #[.int .i64 0, .int .i64 0, .slice none 0 0], .int .i64 30]) (by simp [results, Try.results21, go_sem, d0, d1, d2]) rfl
    ⟨rfl, below_res B1 (by omega) _ _ _⟩

set_option maxHeartbeats 1600000 in
theorem wide_walk (R C : Nat) (a : Option Addr) (cap : Nat) (v : List Int) (w : World) (hg : (⟨R, C, a, R * C, cap, v⟩ : Gr).In8 w) (hR : R ≤ 4096) (hC : C ≤ 4096) (hle : R * C ≤ 1048576) :
    Calls Try.prog 21 #[.agg #[.int .i64 R, .int .i64 C, .slice a (R * C : Nat) cap]] w fun e w' => NewWide w w' R C v e ∧ Below w.heap.size w w' := by
  have hf := fitB_nat R C hR hC hle
  unfold NewWide
  obtain ⟨n, hn⟩ : ∃ n, n = R * C := ⟨_, rfl⟩
  rw [← hn] at hf hg hle ⊢
  have hE := hg.1
  simp only at hE
  have hmk := run_make_row' (P := Try.prog) 27 21 (.int .i32 0) 4 Try.underlying27 info_int32 rfl .i64 .i64 n (by omega) (by omega)
  have a2 := fun o o2 => ((Below.refl w.heap.size w).alloc (Nat.le_refl _) o).alloc (by simp) o2
  have a3 := fun o o2 o3 => (a2 o o2).alloc (by simp; omega) o3
  have hG := fun o o2 T => mats_one (T := T) (b := w.heap.size + 1 + 1) (⟨R, C, a, n, cap, v⟩ : Gr) (hg.below (a2 o o2)) (by simp)
  have X1 := fun o T o3 => (box3_at (w := w.alloc o) (b := w.heap.size + 1) (by simp) (.int .i64 0) (.int .i64 0) (.slice none 0 0) T).alloc o3
  have X0 := fun o2 o3 => ((box3_at (w := w) rfl (.int .i64 R) (.int .i64 C) (.slice a n cap) 24).alloc o2).alloc o3
  have HE := Lib.hid hE
  clear hg hE hn
  go_enter Try.func21, Try.ntmps21
  go_wp2_with fail
  refine (mright_one _ true hf _ _ _ (hG _ _ _)).mono ?_
  rintro e wb ⟨rfl, hb⟩
  have B1 := below_two (a3 _ _ _) hb
  have Y1 := (X1 _ _ _).below hb
  have Y0 := (X0 _ _).below hb
  have hlow := Y1.1
  clear hf a2 a3 hG X1 X0 hb
  have Y0' := Y0
  obtain ⟨_, c0, c1, c2, _, _, _⟩ := Y0
  go_wp2_with fail
  go_region
  · obtain ⟨W1, hW1⟩ : ∃ W1, W1 = ((wb.alloc (.cells (madeCells #[Value.int .i32 0] n) 21)).alloc (.cells #[.int .i64 R, .int .i64 C, .slice (some ⟨wb.heap.size, 0, none⟩) n n] 43)).drew := ⟨_, rfl⟩
    have M0 : MineK .i32 W1 (wb.heap.size) 21 (List.replicate n 0) := by rw [hW1]; exact ((mine_made .i32 wb 21 n rfl).alloc _).drewN 1
    have V4 : Box3 W1 (wb.heap.size + 1) (.int .i64 R) (.int .i64 C) (.slice (some ⟨wb.heap.size, 0, none⟩) n n) := by rw [hW1]; exact (box3_at (by simp) _ _ _ _)
    have hb2 : Below wb.heap.size wb W1 := by rw [hW1]; exact ((((Below.refl _ _).alloc (Nat.le_refl _) _).alloc (by simp) _).drew)
    have V0 := Y0'.below hb2
    have V1 := Y1.below hb2
    have B2 := below_two B1 hb2
    rw [← hW1]
    clear hW1 Y0' Y1 B1 hb2 c0 c1 c2 hmk
    have V0' := V0
    obtain ⟨_, c0, c1, c2, _, _, _⟩ := V0
    go_wp2_with fail
    clear c0 c1 c2
    go_loopw [24] (fun i wr => ∃ (k : Nat) (cs : List Int), k ≤ n ∧ i = .int .i64 k ∧ MineK .i32 wr (wb.heap.size) 21 cs ∧ Hid (FilledBy (fun i => v.getD i 0) n k cs) ∧ Below w.heap.size w wr ∧ Box3 wr (w.heap.size + 1) (.int .i64 0) (.int .i64 0) (.slice none 0 0) ∧ Box3 wr (wb.heap.size + 1) (.int .i64 R) (.int .i64 C) (.slice (some ⟨wb.heap.size, 0, none⟩) n n)) (fun i _ => n - (intOf i).toNat)
    case atStart => exact ⟨0, _, by omega, rfl, M0, Lib.hid (filledBy_start _ n), B2, V1, V4⟩
    case round =>
      clear M0 B2 V1 V4 V0'
      obtain ⟨k, cs, hk, rfl, hM, hfil, hbel, b1, b4⟩ := hrel
      by_cases hlt : k < n
      · obtain ⟨b, off, x, rfl, hc, hx, wx⟩ := (HE.out.below hbel).at_ hlt
        have bx := wf8 wx
        have hcell := hM.cell (k := k) (by rw [hfil.out.1]; exact hlt)
        have hfrz := hM.frozen k
        have hM2 := hM.set k x
        have hf2 : Hid (FilledBy (fun i => v.getD i 0) n (k + 1) (cs.set k x)) := Lib.hid (by rw [← hx.out]; exact filledBy_step hfil.out hlt)
        have hg2 := grownBy_setCell wr (wb.heap.size) k (.int .i32 x)
        have B3 := hbel.grown hg2 hbel.size (fun k hk => by cases hk; omega)
        have b1' := b1.kept hg2 (by simp; omega)
        have b4' := b4.kept hg2 (by simp)
        obtain ⟨c, hcc⟩ : ∃ c, cs.getD k 0 = c := ⟨_, rfl⟩
        rw [hcc] at hcell
        obtain ⟨_, d0, d1, d2, _, _, _⟩ := b4
        have e1 : IntKind.i32.wrap x = x := IntWalk.i32_in _ (by omega)
        clear hM hfil hbel b1 hx wx hcc hg2
        go_wp2
        go_roundw
        case rel => exact ⟨k + 1, _, by omega, by go_num, hM2, hf2, B3, b1', b4'⟩
        case measure => simp [intOf]; omega
      · obtain rfl : k = n := by omega
        have hcs : cs = v := by
          have := filledBy_end (g := id) hfil.out HE.out.1 (fun i _ => rfl)
          simpa using this
        rw [hcs] at hM
        have hE2 := hM.elems HE.out.1 (by omega) (fun x hx => by have := wf8 (HE.out.2.2.1 x hx); exact WalkArith.wf_i32 (by omega))
        obtain ⟨_, d0, d1, d2, _, _, _⟩ := b4
        obtain ⟨_, r0, r1, r2, _, _, _⟩ := b1
        have HB := Lib.hid (below_res hbel (b := w.heap.size + 1) (by omega) (.int .i64 R) (.int .i64 C) (.slice (some ⟨wb.heap.size, 0, none⟩) k k))
        have HE3 := Lib.hid (hE2.other (grownBy_res wr (w.heap.size + 1) (.int .i64 R) (.int .i64 C) (.slice (some ⟨wb.heap.size, 0, none⟩) k k)) (by omega))
        clear hE2 hM hbel hcs hfil
        go_wp2
        exact bodyPost_ret (v := .tuple #[.agg #[.int .i64 R, .int .i64 C, .slice (some ⟨wb.heap.size, 0, none⟩) k k], .int .i64 0]) (by simp [results, Try.results21, go_sem, r0, r1, r2]) rfl
          ⟨⟨_, rfl, by omega, HE3.out⟩, HB.out⟩
  · obtain ⟨W1, hW1⟩ : ∃ W1, W1 = ((wb.alloc (.cells #[.int .i64 R, .int .i64 C, .slice (some ⟨wb.heap.size + 1, 0, none⟩) n n] 43)).alloc (.cells (madeCells #[Value.int .i32 0] n) 21)).drew := ⟨_, rfl⟩
    have M0 : MineK .i32 W1 (wb.heap.size + 1) 21 (List.replicate n 0) := by rw [hW1]; exact (mine_made .i32 _ 21 n (by simp)).drewN 1
    have V4 : Box3 W1 (wb.heap.size) (.int .i64 R) (.int .i64 C) (.slice (some ⟨wb.heap.size + 1, 0, none⟩) n n) := by rw [hW1]; exact ((box3_new wb _ _ _ _).alloc _)
    have hb2 : Below wb.heap.size wb W1 := by rw [hW1]; exact ((((Below.refl _ _).alloc (Nat.le_refl _) _).alloc (by simp) _).drew)
    have V0 := Y0'.below hb2
    have V1 := Y1.below hb2
    have B2 := below_two B1 hb2
    rw [← hW1]
    clear hW1 Y0' Y1 B1 hb2 c0 c1 c2 hmk
    have V0' := V0
    obtain ⟨_, c0, c1, c2, _, _, _⟩ := V0
    go_wp2_with fail
    clear c0 c1 c2
    go_loopw [24] (fun i wr => ∃ (k : Nat) (cs : List Int), k ≤ n ∧ i = .int .i64 k ∧ MineK .i32 wr (wb.heap.size + 1) 21 cs ∧ Hid (FilledBy (fun i => v.getD i 0) n k cs) ∧ Below w.heap.size w wr ∧ Box3 wr (w.heap.size + 1) (.int .i64 0) (.int .i64 0) (.slice none 0 0) ∧ Box3 wr (wb.heap.size) (.int .i64 R) (.int .i64 C) (.slice (some ⟨wb.heap.size + 1, 0, none⟩) n n)) (fun i _ => n - (intOf i).toNat)
    case atStart => exact ⟨0, _, by omega, rfl, M0, Lib.hid (filledBy_start _ n), B2, V1, V4⟩
    case round =>
      clear M0 B2 V1 V4 V0'
      obtain ⟨k, cs, hk, rfl, hM, hfil, hbel, b1, b4⟩ := hrel
      by_cases hlt : k < n
      · obtain ⟨b, off, x, rfl, hc, hx, wx⟩ := (HE.out.below hbel).at_ hlt
        have bx := wf8 wx
        have hcell := hM.cell (k := k) (by rw [hfil.out.1]; exact hlt)
        have hfrz := hM.frozen k
        have hM2 := hM.set k x
        have hf2 : Hid (FilledBy (fun i => v.getD i 0) n (k + 1) (cs.set k x)) := Lib.hid (by rw [← hx.out]; exact filledBy_step hfil.out hlt)
        have hg2 := grownBy_setCell wr (wb.heap.size + 1) k (.int .i32 x)
        have B3 := hbel.grown hg2 hbel.size (fun k hk => by cases hk; omega)
        have b1' := b1.kept hg2 (by simp; omega)
        have b4' := b4.kept hg2 (by simp)
        obtain ⟨c, hcc⟩ : ∃ c, cs.getD k 0 = c := ⟨_, rfl⟩
        rw [hcc] at hcell
        obtain ⟨_, d0, d1, d2, _, _, _⟩ := b4
        have e1 : IntKind.i32.wrap x = x := IntWalk.i32_in _ (by omega)
        clear hM hfil hbel b1 hx wx hcc hg2
        go_wp2
        go_roundw
        case rel => exact ⟨k + 1, _, by omega, by go_num, hM2, hf2, B3, b1', b4'⟩
        case measure => simp [intOf]; omega
      · obtain rfl : k = n := by omega
        have hcs : cs = v := by
          have := filledBy_end (g := id) hfil.out HE.out.1 (fun i _ => rfl)
          simpa using this
        rw [hcs] at hM
        have hE2 := hM.elems HE.out.1 (by omega) (fun x hx => by have := wf8 (HE.out.2.2.1 x hx); exact WalkArith.wf_i32 (by omega))
        obtain ⟨_, d0, d1, d2, _, _, _⟩ := b4
        obtain ⟨_, r0, r1, r2, _, _, _⟩ := b1
        have HB := Lib.hid (below_res hbel (b := w.heap.size + 1) (by omega) (.int .i64 R) (.int .i64 C) (.slice (some ⟨wb.heap.size + 1, 0, none⟩) k k))
        have HE3 := Lib.hid (hE2.other (grownBy_res wr (w.heap.size + 1) (.int .i64 R) (.int .i64 C) (.slice (some ⟨wb.heap.size + 1, 0, none⟩) k k)) (by omega))
        clear hE2 hM hbel hcs hfil
        go_wp2
        exact bodyPost_ret (v := .tuple #[.agg #[.int .i64 R, .int .i64 C, .slice (some ⟨wb.heap.size + 1, 0, none⟩) k k], .int .i64 0]) (by simp [results, Try.results21, go_sem, r0, r1, r2]) rfl
          ⟨⟨_, rfl, by omega, HE3.out⟩, HB.out⟩

theorem wide_yes (g : Gr) (R C : Nat) (e1 : g.r = R) (e2 : g.c = C) (e3 : g.n = R * C) (hR : R ≤ 4096) (hC : C ≤ 4096) (hle : R * C ≤ 1048576) (w : World) (hg : g.In8 w) :
    Calls Try.prog 21 #[.agg #[.int .i64 g.r, .int .i64 g.c, .slice g.a g.n g.cap]] w fun e w' => NewWide w w' R C g.v e ∧ Below w.heap.size w w' := by
  obtain ⟨gr, gc, ga, gn, gcap, gv⟩ := g
  simp only at e1 e2 e3 ⊢
  subst e1 e2 e3
  exact wide_walk R C ga gcap gv w hg hR hC hle

end Go.Proofs.Ytkiedganojaniaa
