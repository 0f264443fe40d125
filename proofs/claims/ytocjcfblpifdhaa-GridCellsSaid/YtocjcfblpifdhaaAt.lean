/-
  Contract of At.
-/
import Derived.Test.YtocjcfblpifdhaaOps
namespace Go.Proofs.Ytocjcfblpifdhaa
open Go.RowKit
set_option linter.unusedVariables false

section
variable (r c : Int) (a : Option Addr) (n cap : Nat) (v : List Int) (w : World) (h : Gr.In w ⟨r, c, a, n, cap, v⟩)
include h

theorem at_no (i j : Int) (hf : (rightB r c n && decide (0 ≤ i ∧ i < r ∧ 0 ≤ j ∧ j < c)) = false) :
    Calls Try.prog 14 #[.agg #[.int .i64 r, .int .i64 c, .slice a n cap], .int .i64 i, .int .i64 j] w fun e w' => e = .returned (.tuple #[.int .i32 0, .bool false]) ∧ Below w.heap.size w w' := by
  have hG : ∀ x T, Grids ((w.alloc x).alloc (.cells #[.int .i64 r, .int .i64 c, .slice a n cap] T)) (some ⟨w.heap.size + 1, 0, none⟩) 1 [⟨r, c, a, n, cap, v⟩] := fun x T =>
    grids_one ⟨r, c, a, n, cap, v⟩ (h.below ((Below.refl _ _).alloc (Nat.le_refl _) x)) (by simp)
  have B : ∀ x y wb, Below ((w.alloc x).alloc y).heap.size ((w.alloc x).alloc y) wb → Below w.heap.size w wb := fun x y wb hb =>
    below_two (((Below.refl _ _).alloc (Nat.le_refl _) x).alloc (by simp) y) hb
  clear h
  cases hr : rightB r c n with
  | false =>
    clear hf
    go_enter Try.func14, Try.ntmps14
    go_wp2_with fail
    refine (right_one _ false hr _ _ _ (hG _ _)).mono ?_
    rintro e wb ⟨rfl, hb⟩
    have hB := B _ _ _ hb
    clear hG B hb hr
    go_wp2
    go_ret2
    exact ⟨rfl, hB⟩
  | true =>
    rw [hr, Bool.true_and] at hf
    have hcase := of_decide_eq_false hf
    clear hf
    have main : (i < 0 ∨ (0 ≤ i ∧ r ≤ i) ∨ (0 ≤ i ∧ i < r ∧ j < 0) ∨ (0 ≤ i ∧ i < r ∧ 0 ≤ j ∧ c ≤ j)) := by omega
    clear hcase
    rcases main with h1 | ⟨h1, h2⟩ | ⟨h1, h2, h3⟩ | ⟨h1, h2, h3, h4⟩
    all_goals
      go_enter Try.func14, Try.ntmps14
      go_wp2_with fail
      refine (right_one _ true hr _ _ _ (hG _ _)).mono ?_
      rintro e wb ⟨rfl, hb⟩
      obtain ⟨k1, d0, d1, d2, _, _, _⟩ := ((box3_at (w := w) (b := w.heap.size) rfl (.int .i64 r) (.int .i64 c) (.slice a n cap) 24).alloc _).below hb
      have hB := B _ _ _ hb
      clear hG B hb hr
      go_wp2
      go_ret2
      exact ⟨rfl, hB⟩

theorem at_yes (R C i j : Nat) (hr : r = R) (hc : c = C) (hR : R ≤ 4096) (hC : C ≤ 4096) (hn : n = R * C) (hi : i < R) (hj : j < C) :
    Calls Try.prog 14 #[.agg #[.int .i64 r, .int .i64 c, .slice a n cap], .int .i64 i, .int .i64 j] w fun e w' => e = .returned (.tuple #[.int .i32 (v.getD (i * C + j) 0), .bool true]) ∧ Below w.heap.size w w' := by
  subst hr hc hn
  have hG : ∀ x T, Grids ((w.alloc x).alloc (.cells #[.int .i64 R, .int .i64 C, .slice a (R * C) cap] T)) (some ⟨w.heap.size + 1, 0, none⟩) 1 [⟨R, C, a, R * C, cap, v⟩] := fun x T =>
    grids_one ⟨R, C, a, R * C, cap, v⟩ (h.below ((Below.refl _ _).alloc (Nat.le_refl _) x)) (by simp)
  have B : ∀ x y wb, Below ((w.alloc x).alloc y).heap.size ((w.alloc x).alloc y) wb → Below w.heap.size w wb := fun x y wb hb =>
    below_two (((Below.refl _ _).alloc (Nat.le_refl _) x).alloc (by simp) y) hb
  obtain ⟨hE, hcap, hcapm, hSl, _, _, _, _⟩ := h
  simp only at hE hcap hcapm hSl
  have hr := rightB_nat R C hR hC
  have hij := row_lt hi hj
  obtain ⟨b, off, x, rfl, hx, hxv, wx⟩ := hE.at_ hij
  have hbl := World.block_lt_of_cell? _ _ hx
  have HX := Lib.hid hxv
  clear hxv
  go_enter Try.func14, Try.ntmps14
  go_wp2_with fail
  refine (right_one _ true hr _ _ _ (hG _ _)).mono ?_
  rintro e wb ⟨rfl, hb⟩
  obtain ⟨k1, d0, d1, d2, _, _, _⟩ := ((box3_at (w := w) (b := w.heap.size) rfl (.int .i64 R) (.int .i64 C) (.slice (some ⟨b, off, none⟩) (R * C : Nat) cap) 24).alloc _).below hb
  have hB := B _ _ _ hb
  clear hG B hb hr hE
  go_wp2_with fail
  refine (line_any R C i b off cap _ hcap hcapm hR hC (by omega) hi).mono ?_
  rintro e wc ⟨rfl, hbc⟩
  have hB2 := below_two hB hbc
  have hx2 : wc.cell? ⟨b, off + i * C + j, none⟩ = some (.int .i32 x) := by
    rw [Nat.add_assoc, hB2.cell (p := ⟨b, off + (i * C + j), none⟩) hbl]; exact hx
  clear hx hB hbc d0 d1 d2
  go_wp2
  go_ret2
  exact ⟨by rw [HX.out]; rfl, hB2⟩

end
end Go.Proofs.Ytocjcfblpifdhaa
