/-
  Contract of Times.
-/
import Derived.Test.YtocjcfblpifdhaaOps
namespace Go.Proofs.Ytocjcfblpifdhaa
open Go.RowKit
set_option linter.unusedVariables false

theorem fits_two (g k : Gr) (x : Bool) (hx : (fitB g.r g.c g.n && fitB k.r k.c k.n) = x) (b cap : Nat) (w : World) (h : Grids w (some ⟨b, 0, none⟩) 2 [g, k]) :
    Calls Try.prog 39 #[.slice (some ⟨b, 0, none⟩) 2 cap] w fun e w' => e = .returned (.bool x) ∧ Below w.heap.size w w' := by
  rw [← hx, show (fitB g.r g.c g.n && fitB k.r k.c k.n) = fitAll [g, k] by simp [fitAll]]; exact handy_any _ _ _ _ _ h

section
variable (r c r2 c2 : Int) (a a2 : Option Addr) (n n2 cap cap2 : Nat) (v v2 : List Int) (w : World) (h : Gr.In w ⟨r, c, a, n, cap, v⟩) (h2 : Gr.In w ⟨r2, c2, a2, n2, cap2, v2⟩)
include h h2

set_option maxHeartbeats 800000 in
theorem times_no (hf : (fitB r c n && (fitB r2 c2 n2 && (decide (c = r2) && newB r c2))) = false) :
    Calls Try.prog 34 #[.agg #[.int .i64 r, .int .i64 c, .slice a n cap], .agg #[.int .i64 r2, .int .i64 c2, .slice a2 n2 cap2]] w fun e w' => NoGrid 30 e ∧ Below w.heap.size w w' := by
  have hG : ∀ x y z T, Grids ((((w.alloc x).alloc y).alloc z).alloc (.cells #[.int .i64 r, .int .i64 c, .slice a n cap, .int .i64 r2, .int .i64 c2, .slice a2 n2 cap2] T)) (some ⟨w.heap.size + 1 + 1 + 1, 0, none⟩) 2 [⟨r, c, a, n, cap, v⟩, ⟨r2, c2, a2, n2, cap2, v2⟩] := fun x y z T =>
    grids_two ⟨r, c, a, n, cap, v⟩ ⟨r2, c2, a2, n2, cap2, v2⟩ (h.below ((((Below.refl _ _).alloc (Nat.le_refl _) x).alloc (by simp) y).alloc (by simp; omega) z)) (h2.below ((((Below.refl _ _).alloc (Nat.le_refl _) x).alloc (by simp) y).alloc (by simp; omega) z)) (by simp)
  have B : ∀ x y z u wb, Below ((((w.alloc x).alloc y).alloc z).alloc u).heap.size ((((w.alloc x).alloc y).alloc z).alloc u) wb → Below w.heap.size w wb := fun x y z u wb hb =>
    below_two (((((Below.refl _ _).alloc (Nat.le_refl _) x).alloc (by simp) y).alloc (by simp; omega) z).alloc (by simp; omega) u) hb
  obtain ⟨_, _, _, _, r0, r1, _, _⟩ := h
  obtain ⟨_, _, _, _, _, _, q0, q1⟩ := h2
  simp only at r0 r1 q0 q1
  cases hff : (fitB r c n && fitB r2 c2 n2) with
  | false =>
    clear hf
    go_enter Try.func34, Try.ntmps34
    go_wp2_with fail
    refine (fits_two _ _ false hff _ _ _ (hG _ _ _ _)).mono ?_
    rintro e wb ⟨rfl, hb⟩
    obtain ⟨k1, d0, d1, d2, e0, e1, e2⟩ := ((box3_at (w := (w.alloc _).alloc _) (b := w.heap.size + 1 + 1) (by simp) (.int .i64 0) (.int .i64 0) (.slice none 0 0) 24).alloc _).below hb
    have hB := B _ _ _ _ _ hb
    clear hG B hb hff
    go_wp2
    exact bodyPost_ret (v := .tuple #[.agg #[.int .i64 0, .int .i64 0, .slice none 0 0], .int .i64 30]) (by simp [results, Try.results34, go_sem, d0, d1, d2]) rfl
      ⟨rfl, below_res hB (by omega) _ _ _⟩
  | true =>
    rw [← Bool.and_assoc, hff, Bool.true_and] at hf
    by_cases hcr : c = r2
    · subst hcr
      rw [decide_eq_true rfl, Bool.true_and] at hf
      go_enter Try.func34, Try.ntmps34
      go_wp2_with fail
      refine (fits_two _ _ true hff _ _ _ (hG _ _ _ _)).mono ?_
      rintro e wb ⟨rfl, hb⟩
      obtain ⟨h1, c0, c1, c3, _, _, _⟩ := ((((box3_at (w := w) (b := w.heap.size) rfl (.int .i64 r) (.int .i64 c) (.slice a n cap) 24).alloc _).alloc _).alloc _).below hb
      obtain ⟨j1, f0, f1, f2, _, _, _⟩ := (((box3_at (w := w.alloc _) (b := w.heap.size + 1) (by simp) (.int .i64 c) (.int .i64 c2) (.slice a2 n2 cap2) 24).alloc _).alloc _).below hb
      have b2 := ((box3_at (w := (w.alloc _).alloc _) (b := w.heap.size + 1 + 1) (by simp) (.int .i64 0) (.int .i64 0) (.slice none 0 0) 24).alloc _).below hb
      have hB := B _ _ _ _ _ hb
      clear hG B hb hff
      go_wp2_with fail
      refine (filled_no 54 _ r c2 hf ⟨r0, r1⟩ ⟨q0, q1⟩ _).mono ?_
      rintro e wc ⟨rfl, hbc⟩
      obtain ⟨k1, d0, d1, d2, e0, e1, e2⟩ := b2.below hbc
      have hB2 := below_two hB hbc
      clear hf c0 c1 c3 f0 f1 f2 hbc hB b2
      go_wp2
      exact bodyPost_ret (v := .tuple #[.agg #[.int .i64 0, .int .i64 0, .slice none 0 0], .int .i64 30]) (by simp [results, Try.results34, go_sem, d0, d1, d2]) rfl
        ⟨rfl, below_res hB2 (by omega) _ _ _⟩
    · clear hf
      go_enter Try.func34, Try.ntmps34
      go_wp2_with fail
      refine (fits_two _ _ true hff _ _ _ (hG _ _ _ _)).mono ?_
      rintro e wb ⟨rfl, hb⟩
      obtain ⟨h1, c0, c1, c3, _, _, _⟩ := ((((box3_at (w := w) (b := w.heap.size) rfl (.int .i64 r) (.int .i64 c) (.slice a n cap) 24).alloc _).alloc _).alloc _).below hb
      obtain ⟨j1, f0, f1, f2, _, _, _⟩ := (((box3_at (w := w.alloc _) (b := w.heap.size + 1) (by simp) (.int .i64 r2) (.int .i64 c2) (.slice a2 n2 cap2) 24).alloc _).alloc _).below hb
      obtain ⟨k1, d0, d1, d2, e0, e1, e2⟩ := ((box3_at (w := (w.alloc _).alloc _) (b := w.heap.size + 1 + 1) (by simp) (.int .i64 0) (.int .i64 0) (.slice none 0 0) 24).alloc _).below hb
      have hB := B _ _ _ _ _ hb
      clear hG B hb hff
      go_wp2
      exact bodyPost_ret (v := .tuple #[.agg #[.int .i64 0, .int .i64 0, .slice none 0 0], .int .i64 30]) (by simp [results, Try.results34, go_sem, d0, d1, d2]) rfl
        ⟨rfl, below_res hB (by omega) _ _ _⟩

set_option maxHeartbeats 800000 in
theorem times_yes (R K C : Nat) (hr : r = R) (hc : c = K) (hr2 : r2 = K) (hc2 : c2 = C) (hn : n = R * K) (hn2 : n2 = K * C) (hR : R ≤ 4096) (hK : K ≤ 4096) (hC : C ≤ 4096) (hle1 : R * K ≤ 1048576) (hle2 : K * C ≤ 1048576) (hle : R * C ≤ 1048576) :
    Calls Try.prog 34 #[.agg #[.int .i64 r, .int .i64 c, .slice a n cap], .agg #[.int .i64 r2, .int .i64 c2, .slice a2 n2 cap2]] w fun e w' => NewGrid w' R C (tab R C fun i j => prod v v2 K C i j) e ∧ Below w.heap.size w w' := by
  subst hr hc hr2 hc2 hn hn2
  have hG : ∀ x y z T, Grids ((((w.alloc x).alloc y).alloc z).alloc (.cells #[.int .i64 R, .int .i64 K, .slice a (R * K) cap, .int .i64 K, .int .i64 C, .slice a2 (K * C) cap2] T)) (some ⟨w.heap.size + 1 + 1 + 1, 0, none⟩) 2 [⟨R, K, a, R * K, cap, v⟩, ⟨K, C, a2, K * C, cap2, v2⟩] := fun x y z T =>
    grids_two ⟨R, K, a, R * K, cap, v⟩ ⟨K, C, a2, K * C, cap2, v2⟩ (h.below ((((Below.refl _ _).alloc (Nat.le_refl _) x).alloc (by simp) y).alloc (by simp; omega) z)) (h2.below ((((Below.refl _ _).alloc (Nat.le_refl _) x).alloc (by simp) y).alloc (by simp; omega) z)) (by simp)
  have B : ∀ x y z u wb, Below ((((w.alloc x).alloc y).alloc z).alloc u).heap.size ((((w.alloc x).alloc y).alloc z).alloc u) wb → Below w.heap.size w wb := fun x y z u wb hb =>
    below_two (((((Below.refl _ _).alloc (Nat.le_refl _) x).alloc (by simp) y).alloc (by simp; omega) z).alloc (by simp; omega) u) hb
  obtain ⟨hE, hcap, hcapm, hSl, _, _, _, _⟩ := h
  obtain ⟨hE2, hcap', hcapm', hSl', _, _, _, _⟩ := h2
  simp only at hE hcap hcapm hSl hE2 hcap' hcapm' hSl'
  have hff : (fitB R K (R * K) && fitB K C (K * C)) = true := by rw [fitB_nat R K hR hK hle1, fitB_nat K C hK hC hle2]; rfl
  go_enter Try.func34, Try.ntmps34
  go_wp2_with fail
  refine (fits_two _ _ true hff _ _ _ (hG _ _ _ _)).mono ?_
  rintro e wb ⟨rfl, hb⟩
  have b0 := ((((box3_at (w := w) (b := w.heap.size) rfl (.int .i64 R) (.int .i64 K) (.slice a (R * K : Nat) cap) 24).alloc _).alloc _).alloc _).below hb
  have b1 := (((box3_at (w := w.alloc _) (b := w.heap.size + 1) (by simp) (.int .i64 K) (.int .i64 C) (.slice a2 (K * C : Nat) cap2) 24).alloc _).alloc _).below hb
  have b2 := ((box3_at (w := (w.alloc _).alloc _) (b := w.heap.size + 1 + 1) (by simp) (.int .i64 0) (.int .i64 0) (.slice none 0 0) 24).alloc _).below hb
  have hB := B _ _ _ _ _ hb
  have hF := fills_times R K C hR hK hC a a2 cap cap2 v v2 w.heap.size (w.heap.size + 1) wb b0 b1 (hE.below hB) (hE2.below hB) hcap hcapm hcap' hcapm' hSl hSl'
  obtain ⟨h1, c0, c1, c3, _, _, _⟩ := b0
  obtain ⟨j1, f0, f1, f2, _, _, _⟩ := b1
  clear hG B hb hff hE hE2
  go_wp2_with fail
  refine (filled_yes 54 _ (enters_of Try.func54 (by kernel_rfl) rfl) R C hR hC hle _ _ hF).mono ?_
  rintro e wc ⟨g, rfl, hg, hM, hbc⟩
  have hgs : w.heap.size + 1 + 1 < wb.heap.size := b2.1
  obtain ⟨k1, d0, d1, d2, e0, e1, e2⟩ := b2.below hbc
  have hB2 := below_two hB hbc
  clear hF c0 c1 c3 f0 f1 f2 hbc hB b2
  go_wp2
  exact bodyPost_ret (v := .tuple #[.agg #[.int .i64 R, .int .i64 C, .slice (some ⟨g, 0, none⟩) (R * C : Nat) (R * C : Nat)], .int .i64 0]) (by simp [results, Try.results34, go_sem, d0, d1, d2]) rfl
    ⟨newGrid_res hM (tab_length _ _ _) hle (tab_wf fun i j _ _ => wrap32_wf _) (by omega), below_res hB2 (by omega) _ _ _⟩

end
end Go.Proofs.Ytocjcfblpifdhaa
