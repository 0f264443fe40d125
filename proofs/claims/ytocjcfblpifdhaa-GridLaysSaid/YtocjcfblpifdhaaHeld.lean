/-
  Contracts of the document's Same and of the laws' held, of two grids that are the same; of small.
-/
import Derived.Test.YtocjcfblpifdhaaMine
namespace Go.Proofs.Ytocjcfblpifdhaa
open Go.RowKit
set_option linter.unusedVariables false

set_option maxHeartbeats 800000 in
theorem same_yes (r c : Int) (a a2 : Option Addr) (n cap cap2 : Nat) (xs : List Int) (w : World) (h : Elems .i32 w a n xs) (h2 : Elems .i32 w a2 n xs) :
    Calls Try.prog 23 #[.agg #[.int .i64 r, .int .i64 c, .slice a n cap], .agg #[.int .i64 r, .int .i64 c, .slice a2 n cap2]] w fun e w' => e = .returned (.bool true) ∧ Below w.heap.size w w' := by
  have hn := h.2.1
  have B0 := fun x y => ((Below.refl w.heap.size w).alloc (Nat.le_refl _) x).alloc (by simp) y
  have K0 := fun y => (box3_at (w := w) (b := w.heap.size) rfl (.int .i64 r) (.int .i64 c) (.slice a n cap) 24).alloc y
  have K1 := fun x => box3_at (w := w.alloc x) (b := w.heap.size + 1) (by simp) (.int .i64 r) (.int .i64 c) (.slice a2 n cap2) 24
  go_enter Try.func23, Try.ntmps23
  go_wp2_with fail
  go_loopw [5] (fun i wr => ∃ k : Nat, k ≤ n ∧ i = .int .i64 k ∧ Below w.heap.size w wr ∧ Box3 wr w.heap.size (.int .i64 r) (.int .i64 c) (.slice a n cap) ∧ Box3 wr (w.heap.size + 1) (.int .i64 r) (.int .i64 c) (.slice a2 n cap2)) (fun i _ => n - (intOf i).toNat)
  case atStart => exact ⟨0, by omega, rfl, B0 _ _, K0 _, K1 _⟩
  case round =>
    clear B0 K0 K1
    obtain ⟨k, hk, rfl, hbel, b0, b1⟩ := hrel
    have hd := fun d => (show Below w.heap.size w (wr.drewN d) from below_drewN hbel d)
    obtain ⟨x1, k0, k1, k2, f0, f1, f2⟩ := b0
    obtain ⟨x2, l0, l1, l2, g0, g1, g2⟩ := b1
    by_cases hlt : k < n
    · obtain ⟨b, off, v, rfl, hc, hv, _⟩ := (h.below hbel).at_ hlt
      obtain ⟨b2, off2, v2, rfl, hc2, hv2, _⟩ := (h2.below hbel).at_ hlt
      obtain rfl : v = v2 := by rw [← hv.out, hv2.out]
      clear hv hv2 h h2
      go_wp2_with fail
      go_quiet (fail)
      go_wp2
      go_roundw
      case rel => exact ⟨k + 1, by omega, by go_num, hd _, ⟨x1, k0, k1, k2, f0, f1, f2⟩, ⟨x2, l0, l1, l2, g0, g1, g2⟩⟩
      case measure => simp [intOf]; omega
    · clear h h2
      go_wp2
      go_ret
      exact ⟨rfl, hbel⟩

theorem held_yes (r c : Int) (a a2 : Option Addr) (n cap cap2 : Nat) (xs : List Int) (w : World) (h : Elems .i32 w a n xs) (h2 : Elems .i32 w a2 n xs) :
    Calls Try.prog 25 #[.agg #[.int .i64 r, .int .i64 c, .slice a n cap], .int .i64 0, .agg #[.int .i64 r, .int .i64 c, .slice a2 n cap2], .bool true] w fun e w' => e = .returned (.bool true) ∧ Below w.heap.size w w' := by
  have B : ∀ x y wb, Below ((w.alloc x).alloc y).heap.size ((w.alloc x).alloc y) wb → Below w.heap.size w wb := fun x y wb hb =>
    below_two (((Below.refl _ _).alloc (Nat.le_refl _) x).alloc (by simp) y) hb
  have E1 := fun x y => h.below (((Below.refl w.heap.size w).alloc (Nat.le_refl _) x).alloc (by simp) y)
  have E2 := fun x y => h2.below (((Below.refl w.heap.size w).alloc (Nat.le_refl _) x).alloc (by simp) y)
  clear h h2
  go_enter Try.func25, Try.ntmps25
  go_wp2_with fail
  refine (same_yes r c a a2 n cap cap2 xs _ (E1 _ _) (E2 _ _)).mono ?_
  rintro e wb ⟨rfl, hb⟩
  go_wp2
  go_ret
  exact ⟨rfl, B _ _ _ hb⟩

theorem held_no (r2 c2 : Int) (a2 : Option Addr) (n2 cap2 : Nat) (w : World) :
    Calls Try.prog 25 #[.agg #[.int .i64 0, .int .i64 0, .slice none 0 0], .int .i64 30, .agg #[.int .i64 r2, .int .i64 c2, .slice a2 n2 cap2], .bool false] w fun e w' => e = .returned (.bool true) ∧ Below w.heap.size w w' := by
  have B : ∀ x y wb, Below ((w.alloc x).alloc y).heap.size ((w.alloc x).alloc y) wb → Below w.heap.size w wb := fun x y wb hb =>
    below_two (((Below.refl _ _).alloc (Nat.le_refl _) x).alloc (by simp) y) hb
  go_enter Try.func25, Try.ntmps25
  go_wp2_with fail
  refine (same_yes 0 0 none none 0 0 0 [] _ (Elems.nil_ _ _ _) (Elems.nil_ _ _ _)).mono ?_
  rintro e wb ⟨rfl, hb⟩
  go_wp2
  go_ret
  exact ⟨rfl, B _ _ _ hb⟩

/-- few grids, and not too many cells -/
def smallB (gs : List Gr) : Bool := decide (gs.length ≤ 12) && gs.all fun g => decide (g.n ≤ 400)

theorem small_any (a : Option Addr) (n cap : Nat) (gs : List Gr) (w : World) (h : Grids w a n gs) :
    Calls Try.prog 12 #[.slice a n cap] w fun e w' => e = .returned (.bool (smallB gs)) ∧ w = w' := by
  have hn := h.2.1
  have hl := Lib.hid h.1
  go_enter Try.func12, Try.ntmps12
  go_wp2
  go_loop [3] (fun i => ∃ k : Nat, k ≤ n ∧ k ≤ 12 ∧ i = .int .i64 k ∧ Hid ((gs.take k).all (fun g => decide (g.n ≤ 400)) = true)) (fun i => n - (intOf i).toNat)
  case atStart => exact ⟨0, by omega, by omega, rfl, Lib.hid (by simp)⟩
  case round =>
    obtain ⟨k, hk, hk2, rfl, ht⟩ := hrel
    by_cases hlt : k < n
    · by_cases h12 : k < 12
      · obtain ⟨b, off, g, rfl, hbl, c0, c1, c2, hg, hin⟩ := h.at_ hlt
        have hgn := hin.1.2.1
        have hst : Hid ((gs.take (k + 1)).all (fun g => decide (g.n ≤ 400)) = decide (g.n ≤ 400)) := Lib.hid (by
          rw [List.take_add_one, List.all_append, ht.out, Bool.true_and, ← hg.out]
          simp [List.getD, List.getElem?_eq_getElem (show k < gs.length by rw [hl.out]; exact hlt)])
        obtain ⟨r, c, ga, m, gcap, v⟩ := g
        simp only at c0 c1 c2 hst hgn
        by_cases hm : m ≤ 400
        · have hst2 : Hid ((gs.take (k + 1)).all (fun g => decide (g.n ≤ 400)) = true) := Lib.hid (by rw [hst.out, decide_eq_true hm])
          clear h hg hin ht hst
          go_wp2
          go_round
          case rel => exact ⟨k + 1, by omega, by omega, by go_num, hst2⟩
          case measure => simp [intOf]; omega
        · have R : Hid (smallB gs = false) := Lib.hid (by
            unfold smallB
            rw [Bool.and_eq_false_iff]
            right
            have h2 := hst.out
            rw [decide_eq_false hm] at h2
            rw [← Bool.not_eq_true] at h2 ⊢
            intro h3
            apply h2
            rw [List.all_eq_true] at h3 ⊢
            exact fun x hx => h3 x (List.mem_of_mem_take hx))
          clear h hg hin ht hst
          go_wp2
          go_ret
          exact ⟨ret_bool R.out.symm, rfl⟩
      · have R : Hid (smallB gs = false) := Lib.hid (by
          unfold smallB
          rw [decide_eq_false (by rw [hl.out]; omega), Bool.false_and])
        clear h ht
        go_wp2
        go_ret
        exact ⟨ret_bool R.out.symm, rfl⟩
    · obtain rfl : k = n := by omega
      have R : Hid (smallB gs = true) := Lib.hid (by
        unfold smallB
        have := ht.out
        rw [List.take_of_length_le (by rw [hl.out]; omega)] at this
        rw [this, decide_eq_true (by rw [hl.out]; omega)]; rfl)
      clear h ht
      go_wp2
      go_ret
      exact ⟨ret_bool R.out.symm, rfl⟩

end Go.Proofs.Ytocjcfblpifdhaa
