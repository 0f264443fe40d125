/-
  The code's block of noughts: eight rows, each in new memory of its own.
-/
import Derived.Test.YtgbbfmpofmeadaaMatrix
import Derived.Test.YtgbbfmpofmeadaaRegMade
import Derived.Test.YtgbbfmpofmeadaaSetN
import Derived.Test.YtgbbfmpofmeadaaRowsMath
namespace Go.Proofs.Ytgbbfmpofmeadaa
open Go.RowKit
set_option linter.unusedVariables false

/-- the cells of a block whose rows lie in the blocks g 0 .. g 7 (the file's order), of W columns and I inner ones -/
def bkv (W I : Nat) (g : Nat → Nat) : Array Value := #[.slice (some ⟨(g 0), 0, none⟩) (W : Nat) (W : Nat), .slice (some ⟨(g 5), 0, none⟩) (W : Nat) (W : Nat), .int .i64 (W : Nat), .int .i64 (W : Nat), .slice (some ⟨(g 1), 0, none⟩) (W * W : Nat) (W * W : Nat), .int .i64 (W : Nat), .int .i64 (W : Nat), .slice (some ⟨(g 2), 0, none⟩) (W * W : Nat) (W * W : Nat), .int .i64 (W : Nat), .int .i64 (W : Nat), .slice (some ⟨(g 3), 0, none⟩) (W * W : Nat) (W * W : Nat), .int .i64 (W : Nat), .int .i64 (W : Nat), .slice (some ⟨(g 4), 0, none⟩) (W * W : Nat) (W * W : Nat), .int .i64 (I : Nat), .int .i64 (W : Nat), .slice (some ⟨(g 6), 0, none⟩) (I * W : Nat) (I * W : Nat), .int .i64 (W : Nat), .int .i64 (I : Nat), .slice (some ⟨(g 7), 0, none⟩) (W * I : Nat) (W * I : Nat)]
theorem bkv_size (W I : Nat) (g : Nat → Nat) : (bkv W I g).size = 20 := rfl
theorem bkv_one (W I : Nat) (g : Nat → Nat) : (bkv W I g).all (·.oneCell') = true := by simp [bkv, Value.oneCell']
/-- the numbers of the k-th row -/
def dim7 (W I : Nat) : List Nat := [W, W * W, W * W, W * W, W * W, W, I * W, W * I]

set_option maxHeartbeats 8000000 in
set_option maxRecDepth 100000 in
theorem block_any (L W H I V P : Nat) (w : World) (hW : W ≤ 128) (hI : I ≤ 256) :
    Calls Try.prog 32 #[shv L W H I V P] w fun e w' => (∃ g : Nat → Nat, e = .returned (.agg (bkv W I g)) ∧ (∀ k n, (dim7 W I)[k]? = some n → w.heap.size ≤ g k ∧ w'.heap[g k]? = some (Z8 n)) ∧ (∀ i j, i < 8 → j < 8 → i ≠ j → g i ≠ g j)) ∧ Below w.heap.size w w' := by
  have hmk := run_make_row' (P := Try.prog) 27 56 (.int .i8 0) 1 Try.underlying27 info8 rfl .i64 .i64 W (by omega) (by omega)
  go_enter Try.func32, Try.ntmps32
  go_wp2_with fail
  generalize hwa : (w.alloc _).alloc _ = wa
  have hX : Box wa w.heap.size 54 #[.int .i64 L, .int .i64 W, .int .i64 H, .int .i64 I, .int .i64 V, .int .i64 P] := by rw [← hwa]; exact (box_new _ _ _).alloc _
  have hR : Box wa (w.heap.size + 1) 39 #[.slice none 0 0, .slice none 0 0, .int .i64 0, .int .i64 0, .slice none 0 0, .int .i64 0, .int .i64 0, .slice none 0 0, .int .i64 0, .int .i64 0, .slice none 0 0, .int .i64 0, .int .i64 0, .slice none 0 0, .int .i64 0, .int .i64 0, .slice none 0 0, .int .i64 0, .int .i64 0, .slice none 0 0] := by rw [← hwa]; exact box_at (by simp) _ _
  have hB : Below w.heap.size w wa := by rw [← hwa]; exact ((Below.refl _ _).alloc (Nat.le_refl _) _).alloc (by simp) _
  have hz : w.heap.size + 2 ≤ wa.heap.size := by rw [← hwa]; simp
  clear hwa
  have HR := Lib.hid hR
  have HB := Lib.hid hB
  clear hR hB
  have e1 : w.heap.size + 1 = w.heap.size + 1 := rfl
  generalize hBb : w.heap.size = B at hX ⊢
  refine region_made (tab := [
    Mk.pure 3 (.pointer (some ⟨B, 1, none⟩)),
    Mk.pure 4 (.int .i64 (W : Nat)),
    ⟨5, fun l => .slice (some ⟨(l.getD 0 0), 0, none⟩) (W : Nat) (W : Nat), [2], some (Z8 W)⟩,
    Mk.pure 6 (.pointer (some ⟨B, 1, none⟩)),
    Mk.pure 7 (.int .i64 (W : Nat)),
    Mk.pure 8 (.pointer (some ⟨B, 1, none⟩)),
    Mk.pure 9 (.int .i64 (W : Nat)),
    ⟨10, fun l => .agg #[.int .i64 (W : Nat), .int .i64 (W : Nat), .slice (some ⟨(l.getD 0 0), 0, none⟩) (W * W : Nat) (W * W : Nat)], [7], some (Z8 (W * W))⟩,
    Mk.pure 11 (.pointer (some ⟨B, 1, none⟩)),
    Mk.pure 12 (.int .i64 (W : Nat)),
    Mk.pure 13 (.pointer (some ⟨B, 1, none⟩)),
    Mk.pure 14 (.int .i64 (W : Nat)),
    ⟨15, fun l => .agg #[.int .i64 (W : Nat), .int .i64 (W : Nat), .slice (some ⟨(l.getD 0 0), 0, none⟩) (W * W : Nat) (W * W : Nat)], [12], some (Z8 (W * W))⟩,
    Mk.pure 16 (.pointer (some ⟨B, 1, none⟩)),
    Mk.pure 17 (.int .i64 (W : Nat)),
    Mk.pure 18 (.pointer (some ⟨B, 1, none⟩)),
    Mk.pure 19 (.int .i64 (W : Nat)),
    ⟨20, fun l => .agg #[.int .i64 (W : Nat), .int .i64 (W : Nat), .slice (some ⟨(l.getD 0 0), 0, none⟩) (W * W : Nat) (W * W : Nat)], [17], some (Z8 (W * W))⟩,
    Mk.pure 21 (.pointer (some ⟨B, 1, none⟩)),
    Mk.pure 22 (.int .i64 (W : Nat)),
    Mk.pure 23 (.pointer (some ⟨B, 1, none⟩)),
    Mk.pure 24 (.int .i64 (W : Nat)),
    ⟨25, fun l => .agg #[.int .i64 (W : Nat), .int .i64 (W : Nat), .slice (some ⟨(l.getD 0 0), 0, none⟩) (W * W : Nat) (W * W : Nat)], [22], some (Z8 (W * W))⟩,
    Mk.pure 26 (.pointer (some ⟨B, 1, none⟩)),
    Mk.pure 27 (.int .i64 (W : Nat)),
    ⟨28, fun l => .slice (some ⟨(l.getD 0 0), 0, none⟩) (W : Nat) (W : Nat), [25], some (Z8 W)⟩,
    Mk.pure 29 (.pointer (some ⟨B, 3, none⟩)),
    Mk.pure 30 (.int .i64 (I : Nat)),
    Mk.pure 31 (.pointer (some ⟨B, 1, none⟩)),
    Mk.pure 32 (.int .i64 (W : Nat)),
    ⟨33, fun l => .agg #[.int .i64 (I : Nat), .int .i64 (W : Nat), .slice (some ⟨(l.getD 0 0), 0, none⟩) (I * W : Nat) (I * W : Nat)], [30], some (Z8 (I * W))⟩,
    Mk.pure 34 (.pointer (some ⟨B, 1, none⟩)),
    Mk.pure 35 (.int .i64 (W : Nat)),
    Mk.pure 36 (.pointer (some ⟨B, 3, none⟩)),
    Mk.pure 37 (.int .i64 (I : Nat)),
    ⟨38, fun l => .agg #[.int .i64 (W : Nat), .int .i64 (I : Nat), .slice (some ⟨(l.getD 0 0), 0, none⟩) (W * I : Nat) (W * I : Nat)], [35], some (Z8 (W * I))⟩,
    ⟨39, fun l => .agg #[.slice (some ⟨(l.getD 0 0), 0, none⟩) (W : Nat) (W : Nat), .slice (some ⟨(l.getD 1 0), 0, none⟩) (W : Nat) (W : Nat), .int .i64 (W : Nat), .int .i64 (W : Nat), .slice (some ⟨(l.getD 2 0), 0, none⟩) (W * W : Nat) (W * W : Nat), .int .i64 (W : Nat), .int .i64 (W : Nat), .slice (some ⟨(l.getD 3 0), 0, none⟩) (W * W : Nat) (W * W : Nat), .int .i64 (W : Nat), .int .i64 (W : Nat), .slice (some ⟨(l.getD 4 0), 0, none⟩) (W * W : Nat) (W * W : Nat), .int .i64 (W : Nat), .int .i64 (W : Nat), .slice (some ⟨(l.getD 5 0), 0, none⟩) (W * W : Nat) (W * W : Nat), .int .i64 (I : Nat), .int .i64 (W : Nat), .slice (some ⟨(l.getD 6 0), 0, none⟩) (I * W : Nat) (I * W : Nat), .int .i64 (W : Nat), .int .i64 (I : Nat), .slice (some ⟨(l.getD 7 0), 0, none⟩) (W * I : Nat) (W * I : Nat)], [2, 25, 7, 12, 17, 22, 30, 35], none⟩]) (by kernel_rfl) ?ok rfl ?step ?fin
  case ok => exact ⟨rfl, rfl, rfl, rfl, rfl⟩
  case step =>
    intro j o m listed g a w K ho hm0 h hw next
    have hj : j = 0 ∨ j = 1 ∨ j = 2 ∨ j = 3 ∨ j = 4 ∨ j = 5 ∨ j = 6 ∨ j = 7 ∨ j = 8 ∨ j = 9 ∨ j = 10 ∨ j = 11 ∨ j = 12 ∨ j = 13 ∨ j = 14 ∨ j = 15 ∨ j = 16 ∨ j = 17 ∨ j = 18 ∨ j = 19 ∨ j = 20 ∨ j = 21 ∨ j = 22 ∨ j = 23 ∨ j = 24 ∨ j = 25 ∨ j = 26 ∨ j = 27 ∨ j = 28 ∨ j = 29 ∨ j = 30 ∨ j = 31 ∨ j = 32 ∨ j = 33 ∨ j = 34 ∨ j = 35 ∨ j = 36 := by have := (List.getElem?_eq_some_iff.1 hm0).1; simp only [List.length_cons, List.length_nil] at this; omega
    rcases hj with rfl | rfl | rfl | rfl | rfl | rfl | rfl | rfl | rfl | rfl | rfl | rfl | rfl | rfl | rfl | rfl | rfl | rfl | rfl | rfl | rfl | rfl | rfl | rfl | rfl | rfl | rfl | rfl | rfl | rfl | rfl | rfl | rfl | rfl | rfl | rfl | rfl
    · obtain rfl := Option.some.inj ho
      obtain rfl := Option.some.inj hm0
      have f0 : a.tmps.getD 1 undef = .pointer (some ⟨B, 0, none⟩) := (h.fix 1 (by simp)).trans rfl
      refine wpOp_yields rfl rfl ?_ (next g w (fun _ _ => rfl) (fun ob hob => by cases hob) (Below.refl _ _))
      show (execOp a.eval _).run _ w = .ok (.value (.pointer (some ⟨B, 1, none⟩))) w
      have X := hX.bel h.bel
      obtain ⟨x0, x1, x2, x3, x4, x5⟩ := X.cells6
      clear X
      clear h hw next
      go_simp
      try rfl
    · obtain rfl := Option.some.inj ho
      obtain rfl := Option.some.inj hm0
      have f0 : a.tmps.getD 3 undef = .pointer (some ⟨B, 1, none⟩) := h.val 0 _ rfl (hw 0 (by decide))
      refine wpOp_yields rfl rfl ?_ (next g w (fun _ _ => rfl) (fun ob hob => by cases hob) (Below.refl _ _))
      show (execOp a.eval _).run _ w = .ok (.value (.int .i64 (W : Nat))) w
      have X := hX.bel h.bel
      obtain ⟨x0, x1, x2, x3, x4, x5⟩ := X.cells6
      clear X
      clear h hw next
      go_simp
      try rfl
    · obtain rfl := Option.some.inj ho
      obtain rfl := Option.some.inj hm0
      have f0 : a.tmps.getD 4 undef = .int .i64 (W : Nat) := h.val 1 _ rfl (hw 1 (by decide))
      refine wpOp_run rfl rfl ?_
      unfold Oper.wp
      clear h hw
      have N := Lib.hid next
      clear next
      go_simp
      exact N.out (upd g 2 w.heap.size) _ (fun k hk => if_neg hk) (fun ob hob => by cases hob; exact ⟨Nat.le_refl _, mine_z8 (mine_made .i8 w 56 W rfl)⟩) ((Below.refl _ _).alloc (Nat.le_refl _) _)
    · obtain rfl := Option.some.inj ho
      obtain rfl := Option.some.inj hm0
      have f0 : a.tmps.getD 1 undef = .pointer (some ⟨B, 0, none⟩) := (h.fix 1 (by simp)).trans rfl
      refine wpOp_yields rfl rfl ?_ (next g w (fun _ _ => rfl) (fun ob hob => by cases hob) (Below.refl _ _))
      show (execOp a.eval _).run _ w = .ok (.value (.pointer (some ⟨B, 1, none⟩))) w
      have X := hX.bel h.bel
      obtain ⟨x0, x1, x2, x3, x4, x5⟩ := X.cells6
      clear X
      clear h hw next
      go_simp
      try rfl
    · obtain rfl := Option.some.inj ho
      obtain rfl := Option.some.inj hm0
      have f0 : a.tmps.getD 6 undef = .pointer (some ⟨B, 1, none⟩) := h.val 3 _ rfl (hw 3 (by decide))
      refine wpOp_yields rfl rfl ?_ (next g w (fun _ _ => rfl) (fun ob hob => by cases hob) (Below.refl _ _))
      show (execOp a.eval _).run _ w = .ok (.value (.int .i64 (W : Nat))) w
      have X := hX.bel h.bel
      obtain ⟨x0, x1, x2, x3, x4, x5⟩ := X.cells6
      clear X
      clear h hw next
      go_simp
      try rfl
    · obtain rfl := Option.some.inj ho
      obtain rfl := Option.some.inj hm0
      have f0 : a.tmps.getD 1 undef = .pointer (some ⟨B, 0, none⟩) := (h.fix 1 (by simp)).trans rfl
      refine wpOp_yields rfl rfl ?_ (next g w (fun _ _ => rfl) (fun ob hob => by cases hob) (Below.refl _ _))
      show (execOp a.eval _).run _ w = .ok (.value (.pointer (some ⟨B, 1, none⟩))) w
      have X := hX.bel h.bel
      obtain ⟨x0, x1, x2, x3, x4, x5⟩ := X.cells6
      clear X
      clear h hw next
      go_simp
      try rfl
    · obtain rfl := Option.some.inj ho
      obtain rfl := Option.some.inj hm0
      have f0 : a.tmps.getD 8 undef = .pointer (some ⟨B, 1, none⟩) := h.val 5 _ rfl (hw 5 (by decide))
      refine wpOp_yields rfl rfl ?_ (next g w (fun _ _ => rfl) (fun ob hob => by cases hob) (Below.refl _ _))
      show (execOp a.eval _).run _ w = .ok (.value (.int .i64 (W : Nat))) w
      have X := hX.bel h.bel
      obtain ⟨x0, x1, x2, x3, x4, x5⟩ := X.cells6
      clear X
      clear h hw next
      go_simp
      try rfl
    · obtain rfl := Option.some.inj ho
      obtain rfl := Option.some.inj hm0
      have f0 : a.tmps.getD 7 undef = .int .i64 (W : Nat) := h.val 4 _ rfl (hw 4 (by decide))
      have f1 : a.tmps.getD 9 undef = .int .i64 (W : Nat) := h.val 6 _ rfl (hw 6 (by decide))
      refine wpOp_run rfl rfl ?_
      unfold Oper.wp
      clear h hw
      have N := Lib.hid next
      clear next
      go_simp
      refine (matrix_any W W w (by omega) (by omega)).mono ?_
      rintro e w' ⟨⟨x, rfl, hx, hz⟩, hb⟩
      exact N.out (upd g 7 x) _ (fun k hk => if_neg hk) (fun ob hob => by cases hob; exact ⟨hx, hz⟩) hb
    · obtain rfl := Option.some.inj ho
      obtain rfl := Option.some.inj hm0
      have f0 : a.tmps.getD 1 undef = .pointer (some ⟨B, 0, none⟩) := (h.fix 1 (by simp)).trans rfl
      refine wpOp_yields rfl rfl ?_ (next g w (fun _ _ => rfl) (fun ob hob => by cases hob) (Below.refl _ _))
      show (execOp a.eval _).run _ w = .ok (.value (.pointer (some ⟨B, 1, none⟩))) w
      have X := hX.bel h.bel
      obtain ⟨x0, x1, x2, x3, x4, x5⟩ := X.cells6
      clear X
      clear h hw next
      go_simp
      try rfl
    · obtain rfl := Option.some.inj ho
      obtain rfl := Option.some.inj hm0
      have f0 : a.tmps.getD 11 undef = .pointer (some ⟨B, 1, none⟩) := h.val 8 _ rfl (hw 8 (by decide))
      refine wpOp_yields rfl rfl ?_ (next g w (fun _ _ => rfl) (fun ob hob => by cases hob) (Below.refl _ _))
      show (execOp a.eval _).run _ w = .ok (.value (.int .i64 (W : Nat))) w
      have X := hX.bel h.bel
      obtain ⟨x0, x1, x2, x3, x4, x5⟩ := X.cells6
      clear X
      clear h hw next
      go_simp
      try rfl
    · obtain rfl := Option.some.inj ho
      obtain rfl := Option.some.inj hm0
      have f0 : a.tmps.getD 1 undef = .pointer (some ⟨B, 0, none⟩) := (h.fix 1 (by simp)).trans rfl
      refine wpOp_yields rfl rfl ?_ (next g w (fun _ _ => rfl) (fun ob hob => by cases hob) (Below.refl _ _))
      show (execOp a.eval _).run _ w = .ok (.value (.pointer (some ⟨B, 1, none⟩))) w
      have X := hX.bel h.bel
      obtain ⟨x0, x1, x2, x3, x4, x5⟩ := X.cells6
      clear X
      clear h hw next
      go_simp
      try rfl
    · obtain rfl := Option.some.inj ho
      obtain rfl := Option.some.inj hm0
      have f0 : a.tmps.getD 13 undef = .pointer (some ⟨B, 1, none⟩) := h.val 10 _ rfl (hw 10 (by decide))
      refine wpOp_yields rfl rfl ?_ (next g w (fun _ _ => rfl) (fun ob hob => by cases hob) (Below.refl _ _))
      show (execOp a.eval _).run _ w = .ok (.value (.int .i64 (W : Nat))) w
      have X := hX.bel h.bel
      obtain ⟨x0, x1, x2, x3, x4, x5⟩ := X.cells6
      clear X
      clear h hw next
      go_simp
      try rfl
    · obtain rfl := Option.some.inj ho
      obtain rfl := Option.some.inj hm0
      have f0 : a.tmps.getD 12 undef = .int .i64 (W : Nat) := h.val 9 _ rfl (hw 9 (by decide))
      have f1 : a.tmps.getD 14 undef = .int .i64 (W : Nat) := h.val 11 _ rfl (hw 11 (by decide))
      refine wpOp_run rfl rfl ?_
      unfold Oper.wp
      clear h hw
      have N := Lib.hid next
      clear next
      go_simp
      refine (matrix_any W W w (by omega) (by omega)).mono ?_
      rintro e w' ⟨⟨x, rfl, hx, hz⟩, hb⟩
      exact N.out (upd g 12 x) _ (fun k hk => if_neg hk) (fun ob hob => by cases hob; exact ⟨hx, hz⟩) hb
    · obtain rfl := Option.some.inj ho
      obtain rfl := Option.some.inj hm0
      have f0 : a.tmps.getD 1 undef = .pointer (some ⟨B, 0, none⟩) := (h.fix 1 (by simp)).trans rfl
      refine wpOp_yields rfl rfl ?_ (next g w (fun _ _ => rfl) (fun ob hob => by cases hob) (Below.refl _ _))
      show (execOp a.eval _).run _ w = .ok (.value (.pointer (some ⟨B, 1, none⟩))) w
      have X := hX.bel h.bel
      obtain ⟨x0, x1, x2, x3, x4, x5⟩ := X.cells6
      clear X
      clear h hw next
      go_simp
      try rfl
    · obtain rfl := Option.some.inj ho
      obtain rfl := Option.some.inj hm0
      have f0 : a.tmps.getD 16 undef = .pointer (some ⟨B, 1, none⟩) := h.val 13 _ rfl (hw 13 (by decide))
      refine wpOp_yields rfl rfl ?_ (next g w (fun _ _ => rfl) (fun ob hob => by cases hob) (Below.refl _ _))
      show (execOp a.eval _).run _ w = .ok (.value (.int .i64 (W : Nat))) w
      have X := hX.bel h.bel
      obtain ⟨x0, x1, x2, x3, x4, x5⟩ := X.cells6
      clear X
      clear h hw next
      go_simp
      try rfl
    · obtain rfl := Option.some.inj ho
      obtain rfl := Option.some.inj hm0
      have f0 : a.tmps.getD 1 undef = .pointer (some ⟨B, 0, none⟩) := (h.fix 1 (by simp)).trans rfl
      refine wpOp_yields rfl rfl ?_ (next g w (fun _ _ => rfl) (fun ob hob => by cases hob) (Below.refl _ _))
      show (execOp a.eval _).run _ w = .ok (.value (.pointer (some ⟨B, 1, none⟩))) w
      have X := hX.bel h.bel
      obtain ⟨x0, x1, x2, x3, x4, x5⟩ := X.cells6
      clear X
      clear h hw next
      go_simp
      try rfl
    · obtain rfl := Option.some.inj ho
      obtain rfl := Option.some.inj hm0
      have f0 : a.tmps.getD 18 undef = .pointer (some ⟨B, 1, none⟩) := h.val 15 _ rfl (hw 15 (by decide))
      refine wpOp_yields rfl rfl ?_ (next g w (fun _ _ => rfl) (fun ob hob => by cases hob) (Below.refl _ _))
      show (execOp a.eval _).run _ w = .ok (.value (.int .i64 (W : Nat))) w
      have X := hX.bel h.bel
      obtain ⟨x0, x1, x2, x3, x4, x5⟩ := X.cells6
      clear X
      clear h hw next
      go_simp
      try rfl
    · obtain rfl := Option.some.inj ho
      obtain rfl := Option.some.inj hm0
      have f0 : a.tmps.getD 17 undef = .int .i64 (W : Nat) := h.val 14 _ rfl (hw 14 (by decide))
      have f1 : a.tmps.getD 19 undef = .int .i64 (W : Nat) := h.val 16 _ rfl (hw 16 (by decide))
      refine wpOp_run rfl rfl ?_
      unfold Oper.wp
      clear h hw
      have N := Lib.hid next
      clear next
      go_simp
      refine (matrix_any W W w (by omega) (by omega)).mono ?_
      rintro e w' ⟨⟨x, rfl, hx, hz⟩, hb⟩
      exact N.out (upd g 17 x) _ (fun k hk => if_neg hk) (fun ob hob => by cases hob; exact ⟨hx, hz⟩) hb
    · obtain rfl := Option.some.inj ho
      obtain rfl := Option.some.inj hm0
      have f0 : a.tmps.getD 1 undef = .pointer (some ⟨B, 0, none⟩) := (h.fix 1 (by simp)).trans rfl
      refine wpOp_yields rfl rfl ?_ (next g w (fun _ _ => rfl) (fun ob hob => by cases hob) (Below.refl _ _))
      show (execOp a.eval _).run _ w = .ok (.value (.pointer (some ⟨B, 1, none⟩))) w
      have X := hX.bel h.bel
      obtain ⟨x0, x1, x2, x3, x4, x5⟩ := X.cells6
      clear X
      clear h hw next
      go_simp
      try rfl
    · obtain rfl := Option.some.inj ho
      obtain rfl := Option.some.inj hm0
      have f0 : a.tmps.getD 21 undef = .pointer (some ⟨B, 1, none⟩) := h.val 18 _ rfl (hw 18 (by decide))
      refine wpOp_yields rfl rfl ?_ (next g w (fun _ _ => rfl) (fun ob hob => by cases hob) (Below.refl _ _))
      show (execOp a.eval _).run _ w = .ok (.value (.int .i64 (W : Nat))) w
      have X := hX.bel h.bel
      obtain ⟨x0, x1, x2, x3, x4, x5⟩ := X.cells6
      clear X
      clear h hw next
      go_simp
      try rfl
    · obtain rfl := Option.some.inj ho
      obtain rfl := Option.some.inj hm0
      have f0 : a.tmps.getD 1 undef = .pointer (some ⟨B, 0, none⟩) := (h.fix 1 (by simp)).trans rfl
      refine wpOp_yields rfl rfl ?_ (next g w (fun _ _ => rfl) (fun ob hob => by cases hob) (Below.refl _ _))
      show (execOp a.eval _).run _ w = .ok (.value (.pointer (some ⟨B, 1, none⟩))) w
      have X := hX.bel h.bel
      obtain ⟨x0, x1, x2, x3, x4, x5⟩ := X.cells6
      clear X
      clear h hw next
      go_simp
      try rfl
    · obtain rfl := Option.some.inj ho
      obtain rfl := Option.some.inj hm0
      have f0 : a.tmps.getD 23 undef = .pointer (some ⟨B, 1, none⟩) := h.val 20 _ rfl (hw 20 (by decide))
      refine wpOp_yields rfl rfl ?_ (next g w (fun _ _ => rfl) (fun ob hob => by cases hob) (Below.refl _ _))
      show (execOp a.eval _).run _ w = .ok (.value (.int .i64 (W : Nat))) w
      have X := hX.bel h.bel
      obtain ⟨x0, x1, x2, x3, x4, x5⟩ := X.cells6
      clear X
      clear h hw next
      go_simp
      try rfl
    · obtain rfl := Option.some.inj ho
      obtain rfl := Option.some.inj hm0
      have f0 : a.tmps.getD 22 undef = .int .i64 (W : Nat) := h.val 19 _ rfl (hw 19 (by decide))
      have f1 : a.tmps.getD 24 undef = .int .i64 (W : Nat) := h.val 21 _ rfl (hw 21 (by decide))
      refine wpOp_run rfl rfl ?_
      unfold Oper.wp
      clear h hw
      have N := Lib.hid next
      clear next
      go_simp
      refine (matrix_any W W w (by omega) (by omega)).mono ?_
      rintro e w' ⟨⟨x, rfl, hx, hz⟩, hb⟩
      exact N.out (upd g 22 x) _ (fun k hk => if_neg hk) (fun ob hob => by cases hob; exact ⟨hx, hz⟩) hb
    · obtain rfl := Option.some.inj ho
      obtain rfl := Option.some.inj hm0
      have f0 : a.tmps.getD 1 undef = .pointer (some ⟨B, 0, none⟩) := (h.fix 1 (by simp)).trans rfl
      refine wpOp_yields rfl rfl ?_ (next g w (fun _ _ => rfl) (fun ob hob => by cases hob) (Below.refl _ _))
      show (execOp a.eval _).run _ w = .ok (.value (.pointer (some ⟨B, 1, none⟩))) w
      have X := hX.bel h.bel
      obtain ⟨x0, x1, x2, x3, x4, x5⟩ := X.cells6
      clear X
      clear h hw next
      go_simp
      try rfl
    · obtain rfl := Option.some.inj ho
      obtain rfl := Option.some.inj hm0
      have f0 : a.tmps.getD 26 undef = .pointer (some ⟨B, 1, none⟩) := h.val 23 _ rfl (hw 23 (by decide))
      refine wpOp_yields rfl rfl ?_ (next g w (fun _ _ => rfl) (fun ob hob => by cases hob) (Below.refl _ _))
      show (execOp a.eval _).run _ w = .ok (.value (.int .i64 (W : Nat))) w
      have X := hX.bel h.bel
      obtain ⟨x0, x1, x2, x3, x4, x5⟩ := X.cells6
      clear X
      clear h hw next
      go_simp
      try rfl
    · obtain rfl := Option.some.inj ho
      obtain rfl := Option.some.inj hm0
      have f0 : a.tmps.getD 27 undef = .int .i64 (W : Nat) := h.val 24 _ rfl (hw 24 (by decide))
      refine wpOp_run rfl rfl ?_
      unfold Oper.wp
      clear h hw
      have N := Lib.hid next
      clear next
      go_simp
      exact N.out (upd g 25 w.heap.size) _ (fun k hk => if_neg hk) (fun ob hob => by cases hob; exact ⟨Nat.le_refl _, mine_z8 (mine_made .i8 w 56 W rfl)⟩) ((Below.refl _ _).alloc (Nat.le_refl _) _)
    · obtain rfl := Option.some.inj ho
      obtain rfl := Option.some.inj hm0
      have f0 : a.tmps.getD 1 undef = .pointer (some ⟨B, 0, none⟩) := (h.fix 1 (by simp)).trans rfl
      refine wpOp_yields rfl rfl ?_ (next g w (fun _ _ => rfl) (fun ob hob => by cases hob) (Below.refl _ _))
      show (execOp a.eval _).run _ w = .ok (.value (.pointer (some ⟨B, 3, none⟩))) w
      have X := hX.bel h.bel
      obtain ⟨x0, x1, x2, x3, x4, x5⟩ := X.cells6
      clear X
      clear h hw next
      go_simp
      try rfl
    · obtain rfl := Option.some.inj ho
      obtain rfl := Option.some.inj hm0
      have f0 : a.tmps.getD 29 undef = .pointer (some ⟨B, 3, none⟩) := h.val 26 _ rfl (hw 26 (by decide))
      refine wpOp_yields rfl rfl ?_ (next g w (fun _ _ => rfl) (fun ob hob => by cases hob) (Below.refl _ _))
      show (execOp a.eval _).run _ w = .ok (.value (.int .i64 (I : Nat))) w
      have X := hX.bel h.bel
      obtain ⟨x0, x1, x2, x3, x4, x5⟩ := X.cells6
      clear X
      clear h hw next
      go_simp
      try rfl
    · obtain rfl := Option.some.inj ho
      obtain rfl := Option.some.inj hm0
      have f0 : a.tmps.getD 1 undef = .pointer (some ⟨B, 0, none⟩) := (h.fix 1 (by simp)).trans rfl
      refine wpOp_yields rfl rfl ?_ (next g w (fun _ _ => rfl) (fun ob hob => by cases hob) (Below.refl _ _))
      show (execOp a.eval _).run _ w = .ok (.value (.pointer (some ⟨B, 1, none⟩))) w
      have X := hX.bel h.bel
      obtain ⟨x0, x1, x2, x3, x4, x5⟩ := X.cells6
      clear X
      clear h hw next
      go_simp
      try rfl
    · obtain rfl := Option.some.inj ho
      obtain rfl := Option.some.inj hm0
      have f0 : a.tmps.getD 31 undef = .pointer (some ⟨B, 1, none⟩) := h.val 28 _ rfl (hw 28 (by decide))
      refine wpOp_yields rfl rfl ?_ (next g w (fun _ _ => rfl) (fun ob hob => by cases hob) (Below.refl _ _))
      show (execOp a.eval _).run _ w = .ok (.value (.int .i64 (W : Nat))) w
      have X := hX.bel h.bel
      obtain ⟨x0, x1, x2, x3, x4, x5⟩ := X.cells6
      clear X
      clear h hw next
      go_simp
      try rfl
    · obtain rfl := Option.some.inj ho
      obtain rfl := Option.some.inj hm0
      have f0 : a.tmps.getD 30 undef = .int .i64 (I : Nat) := h.val 27 _ rfl (hw 27 (by decide))
      have f1 : a.tmps.getD 32 undef = .int .i64 (W : Nat) := h.val 29 _ rfl (hw 29 (by decide))
      refine wpOp_run rfl rfl ?_
      unfold Oper.wp
      clear h hw
      have N := Lib.hid next
      clear next
      go_simp
      refine (matrix_any I W w (by omega) (by omega)).mono ?_
      rintro e w' ⟨⟨x, rfl, hx, hz⟩, hb⟩
      exact N.out (upd g 30 x) _ (fun k hk => if_neg hk) (fun ob hob => by cases hob; exact ⟨hx, hz⟩) hb
    · obtain rfl := Option.some.inj ho
      obtain rfl := Option.some.inj hm0
      have f0 : a.tmps.getD 1 undef = .pointer (some ⟨B, 0, none⟩) := (h.fix 1 (by simp)).trans rfl
      refine wpOp_yields rfl rfl ?_ (next g w (fun _ _ => rfl) (fun ob hob => by cases hob) (Below.refl _ _))
      show (execOp a.eval _).run _ w = .ok (.value (.pointer (some ⟨B, 1, none⟩))) w
      have X := hX.bel h.bel
      obtain ⟨x0, x1, x2, x3, x4, x5⟩ := X.cells6
      clear X
      clear h hw next
      go_simp
      try rfl
    · obtain rfl := Option.some.inj ho
      obtain rfl := Option.some.inj hm0
      have f0 : a.tmps.getD 34 undef = .pointer (some ⟨B, 1, none⟩) := h.val 31 _ rfl (hw 31 (by decide))
      refine wpOp_yields rfl rfl ?_ (next g w (fun _ _ => rfl) (fun ob hob => by cases hob) (Below.refl _ _))
      show (execOp a.eval _).run _ w = .ok (.value (.int .i64 (W : Nat))) w
      have X := hX.bel h.bel
      obtain ⟨x0, x1, x2, x3, x4, x5⟩ := X.cells6
      clear X
      clear h hw next
      go_simp
      try rfl
    · obtain rfl := Option.some.inj ho
      obtain rfl := Option.some.inj hm0
      have f0 : a.tmps.getD 1 undef = .pointer (some ⟨B, 0, none⟩) := (h.fix 1 (by simp)).trans rfl
      refine wpOp_yields rfl rfl ?_ (next g w (fun _ _ => rfl) (fun ob hob => by cases hob) (Below.refl _ _))
      show (execOp a.eval _).run _ w = .ok (.value (.pointer (some ⟨B, 3, none⟩))) w
      have X := hX.bel h.bel
      obtain ⟨x0, x1, x2, x3, x4, x5⟩ := X.cells6
      clear X
      clear h hw next
      go_simp
      try rfl
    · obtain rfl := Option.some.inj ho
      obtain rfl := Option.some.inj hm0
      have f0 : a.tmps.getD 36 undef = .pointer (some ⟨B, 3, none⟩) := h.val 33 _ rfl (hw 33 (by decide))
      refine wpOp_yields rfl rfl ?_ (next g w (fun _ _ => rfl) (fun ob hob => by cases hob) (Below.refl _ _))
      show (execOp a.eval _).run _ w = .ok (.value (.int .i64 (I : Nat))) w
      have X := hX.bel h.bel
      obtain ⟨x0, x1, x2, x3, x4, x5⟩ := X.cells6
      clear X
      clear h hw next
      go_simp
      try rfl
    · obtain rfl := Option.some.inj ho
      obtain rfl := Option.some.inj hm0
      have f0 : a.tmps.getD 35 undef = .int .i64 (W : Nat) := h.val 32 _ rfl (hw 32 (by decide))
      have f1 : a.tmps.getD 37 undef = .int .i64 (I : Nat) := h.val 34 _ rfl (hw 34 (by decide))
      refine wpOp_run rfl rfl ?_
      unfold Oper.wp
      clear h hw
      have N := Lib.hid next
      clear next
      go_simp
      refine (matrix_any W I w (by omega) (by omega)).mono ?_
      rintro e w' ⟨⟨x, rfl, hx, hz⟩, hb⟩
      exact N.out (upd g 35 x) _ (fun k hk => if_neg hk) (fun ob hob => by cases hob; exact ⟨hx, hz⟩) hb
    · obtain rfl := Option.some.inj ho
      obtain rfl := Option.some.inj hm0
      have f0 : a.tmps.getD 5 undef = .slice (some ⟨(g 2), 0, none⟩) (W : Nat) (W : Nat) := h.val 2 _ rfl (hw 2 (by decide))
      have f1 : a.tmps.getD 10 undef = .agg #[.int .i64 (W : Nat), .int .i64 (W : Nat), .slice (some ⟨(g 7), 0, none⟩) (W * W : Nat) (W * W : Nat)] := h.val 7 _ rfl (hw 7 (by decide))
      have f2 : a.tmps.getD 15 undef = .agg #[.int .i64 (W : Nat), .int .i64 (W : Nat), .slice (some ⟨(g 12), 0, none⟩) (W * W : Nat) (W * W : Nat)] := h.val 12 _ rfl (hw 12 (by decide))
      have f3 : a.tmps.getD 20 undef = .agg #[.int .i64 (W : Nat), .int .i64 (W : Nat), .slice (some ⟨(g 17), 0, none⟩) (W * W : Nat) (W * W : Nat)] := h.val 17 _ rfl (hw 17 (by decide))
      have f4 : a.tmps.getD 25 undef = .agg #[.int .i64 (W : Nat), .int .i64 (W : Nat), .slice (some ⟨(g 22), 0, none⟩) (W * W : Nat) (W * W : Nat)] := h.val 22 _ rfl (hw 22 (by decide))
      have f5 : a.tmps.getD 28 undef = .slice (some ⟨(g 25), 0, none⟩) (W : Nat) (W : Nat) := h.val 25 _ rfl (hw 25 (by decide))
      have f6 : a.tmps.getD 33 undef = .agg #[.int .i64 (I : Nat), .int .i64 (W : Nat), .slice (some ⟨(g 30), 0, none⟩) (I * W : Nat) (I * W : Nat)] := h.val 30 _ rfl (hw 30 (by decide))
      have f7 : a.tmps.getD 38 undef = .agg #[.int .i64 (W : Nat), .int .i64 (I : Nat), .slice (some ⟨(g 35), 0, none⟩) (W * I : Nat) (W * I : Nat)] := h.val 35 _ rfl (hw 35 (by decide))
      refine wpOp_yields rfl rfl ?_ (next g w (fun _ _ => rfl) (fun ob hob => by cases hob) (Below.refl _ _))
      show (execOp a.eval _).run _ w = .ok (.value (.agg #[.slice (some ⟨(g 2), 0, none⟩) (W : Nat) (W : Nat), .slice (some ⟨(g 25), 0, none⟩) (W : Nat) (W : Nat), .int .i64 (W : Nat), .int .i64 (W : Nat), .slice (some ⟨(g 7), 0, none⟩) (W * W : Nat) (W * W : Nat), .int .i64 (W : Nat), .int .i64 (W : Nat), .slice (some ⟨(g 12), 0, none⟩) (W * W : Nat) (W * W : Nat), .int .i64 (W : Nat), .int .i64 (W : Nat), .slice (some ⟨(g 17), 0, none⟩) (W * W : Nat) (W * W : Nat), .int .i64 (W : Nat), .int .i64 (W : Nat), .slice (some ⟨(g 22), 0, none⟩) (W * W : Nat) (W * W : Nat), .int .i64 (I : Nat), .int .i64 (W : Nat), .slice (some ⟨(g 30), 0, none⟩) (I * W : Nat) (I * W : Nat), .int .i64 (W : Nat), .int .i64 (I : Nat), .slice (some ⟨(g 35), 0, none⟩) (W * I : Nat) (W * I : Nat)])) w
      simp only [Array.getD_eq_getD_getElem?] at f0 f1 f2 f3 f4 f5 f6 f7
      clear h hw next
      go_simp
      try rfl
  case fin =>
    intro o g w1 listed ho hl h
    obtain rfl := Option.some.inj ho
    have hO := Lib.hid h.obj
    have hD := Lib.hid h.dis
    have HL := Lib.hid hl
    have hb := h.bel
    have XR := HR.out.bel hb
    have HB2 : Below B w w1 := by rw [← hBb]; exact below_two HB.out hb
    rw [hBb] at XR
    have hsz := XR.lt
    clear h hl
    simp only [fillT, Mk.val, List.foldl_cons, List.foldl_nil, List.map_cons, List.map_nil, List.getD_cons_zero, List.getD_cons_succ, List.setIfInBounds_toArray, List.set_cons_zero, List.set_cons_succ]
    refine wpOp_run rfl rfl ?_
    refine wp_store_row 39 _ _ rfl (B + 1) (bkv W I (fun k => g ([2, 7, 12, 17, 22, 25, 30, 35].getD k 0))) rfl rfl 39 _ XR (by kernel_rfl) rfl (bkv_one _ _ _) ?_
    have X2 := Lib.hid (XR.setRow (cs' := bkv W I (fun k => g ([2, 7, 12, 17, 22, 25, 30, 35].getD k 0))))
    have HB3 : Hid (Below B w (w1.setRow (B + 1) (bkv W I (fun k => g ([2, 7, 12, 17, 22, 25, 30, 35].getD k 0))))) := Lib.hid (below_setRow HB2 (by omega) (by omega))
    have HK := Lib.hid (fun k (o : Obj) (hk : w1.heap[k]? = some o) (hne : k ≠ B + 1) => ((setRow_other w1 (B + 1) k (bkv W I (fun k => g ([2, 7, 12, 17, 22, 25, 30, 35].getD k 0))) hne).trans hk : (w1.setRow (B + 1) (bkv W I (fun k => g ([2, 7, 12, 17, 22, 25, 30, 35].getD k 0)))).heap[k]? = some o))
    generalize w1.setRow (B + 1) _ = w2 at X2 HB3 HK ⊢
    clear XR
    go_wp2_with fail
    refine bodyPost_ret (v := .agg (bkv W I (fun k => g ([2, 7, 12, 17, 22, 25, 30, 35].getD k 0)))) (results_row rfl rfl X2.out Try.underlying39 rfl (by kernel_rfl)) rfl ?_
    have HZ : B + 2 ≤ wa.heap.size := by rw [← hBb]; exact hz
    refine ⟨⟨_, rfl, ?_, ?_⟩, HB3.out⟩
    · intro k n hk
      have hk8 : k = 0 ∨ k = 1 ∨ k = 2 ∨ k = 3 ∨ k = 4 ∨ k = 5 ∨ k = 6 ∨ k = 7 := by have := (List.getElem?_eq_some_iff.1 hk).1; simp only [dim7, List.length_cons, List.length_nil] at this; omega
      rcases hk8 with rfl | rfl | rfl | rfl | rfl | rfl | rfl | rfl
      · obtain ⟨h1, h2⟩ := hO.out 2 _ _ rfl rfl (HL.out 2 (show 2 < 37 by decide))
        cases hk
        exact ⟨by show B ≤ g 2; omega, HK.out _ _ h2 (show g 2 ≠ B + 1 by omega)⟩
      · obtain ⟨h1, h2⟩ := hO.out 7 _ _ rfl rfl (HL.out 7 (show 7 < 37 by decide))
        cases hk
        exact ⟨by show B ≤ g 7; omega, HK.out _ _ h2 (show g 7 ≠ B + 1 by omega)⟩
      · obtain ⟨h1, h2⟩ := hO.out 12 _ _ rfl rfl (HL.out 12 (show 12 < 37 by decide))
        cases hk
        exact ⟨by show B ≤ g 12; omega, HK.out _ _ h2 (show g 12 ≠ B + 1 by omega)⟩
      · obtain ⟨h1, h2⟩ := hO.out 17 _ _ rfl rfl (HL.out 17 (show 17 < 37 by decide))
        cases hk
        exact ⟨by show B ≤ g 17; omega, HK.out _ _ h2 (show g 17 ≠ B + 1 by omega)⟩
      · obtain ⟨h1, h2⟩ := hO.out 22 _ _ rfl rfl (HL.out 22 (show 22 < 37 by decide))
        cases hk
        exact ⟨by show B ≤ g 22; omega, HK.out _ _ h2 (show g 22 ≠ B + 1 by omega)⟩
      · obtain ⟨h1, h2⟩ := hO.out 25 _ _ rfl rfl (HL.out 25 (show 25 < 37 by decide))
        cases hk
        exact ⟨by show B ≤ g 25; omega, HK.out _ _ h2 (show g 25 ≠ B + 1 by omega)⟩
      · obtain ⟨h1, h2⟩ := hO.out 30 _ _ rfl rfl (HL.out 30 (show 30 < 37 by decide))
        cases hk
        exact ⟨by show B ≤ g 30; omega, HK.out _ _ h2 (show g 30 ≠ B + 1 by omega)⟩
      · obtain ⟨h1, h2⟩ := hO.out 35 _ _ rfl rfl (HL.out 35 (show 35 < 37 by decide))
        cases hk
        exact ⟨by show B ≤ g 35; omega, HK.out _ _ h2 (show g 35 ≠ B + 1 by omega)⟩
    · intro i j hi hj hne
      have hM : ∀ i, i < 8 → ∃ m, [
    Mk.pure 3 (.pointer (some ⟨B, 1, none⟩)),
    Mk.pure 4 (.int .i64 (W : Nat)),
    ⟨5, fun l => .slice (some ⟨(l.getD 0 0), 0, none⟩) (W : Nat) (W : Nat), [2], some (Z8 W)⟩,
    Mk.pure 6 (.pointer (some ⟨B, 1, none⟩)),
    Mk.pure 7 (.int .i64 (W : Nat)),
    Mk.pure 8 (.pointer (some ⟨B, 1, none⟩)),
    Mk.pure 9 (.int .i64 (W : Nat)),
    ⟨10, fun l => .agg #[.int .i64 (W : Nat), .int .i64 (W : Nat), .slice (some ⟨(l.getD 0 0), 0, none⟩) (W * W : Nat) (W * W : Nat)], [7], some (Z8 (W * W))⟩,
    Mk.pure 11 (.pointer (some ⟨B, 1, none⟩)),
    Mk.pure 12 (.int .i64 (W : Nat)),
    Mk.pure 13 (.pointer (some ⟨B, 1, none⟩)),
    Mk.pure 14 (.int .i64 (W : Nat)),
    ⟨15, fun l => .agg #[.int .i64 (W : Nat), .int .i64 (W : Nat), .slice (some ⟨(l.getD 0 0), 0, none⟩) (W * W : Nat) (W * W : Nat)], [12], some (Z8 (W * W))⟩,
    Mk.pure 16 (.pointer (some ⟨B, 1, none⟩)),
    Mk.pure 17 (.int .i64 (W : Nat)),
    Mk.pure 18 (.pointer (some ⟨B, 1, none⟩)),
    Mk.pure 19 (.int .i64 (W : Nat)),
    ⟨20, fun l => .agg #[.int .i64 (W : Nat), .int .i64 (W : Nat), .slice (some ⟨(l.getD 0 0), 0, none⟩) (W * W : Nat) (W * W : Nat)], [17], some (Z8 (W * W))⟩,
    Mk.pure 21 (.pointer (some ⟨B, 1, none⟩)),
    Mk.pure 22 (.int .i64 (W : Nat)),
    Mk.pure 23 (.pointer (some ⟨B, 1, none⟩)),
    Mk.pure 24 (.int .i64 (W : Nat)),
    ⟨25, fun l => .agg #[.int .i64 (W : Nat), .int .i64 (W : Nat), .slice (some ⟨(l.getD 0 0), 0, none⟩) (W * W : Nat) (W * W : Nat)], [22], some (Z8 (W * W))⟩,
    Mk.pure 26 (.pointer (some ⟨B, 1, none⟩)),
    Mk.pure 27 (.int .i64 (W : Nat)),
    ⟨28, fun l => .slice (some ⟨(l.getD 0 0), 0, none⟩) (W : Nat) (W : Nat), [25], some (Z8 W)⟩,
    Mk.pure 29 (.pointer (some ⟨B, 3, none⟩)),
    Mk.pure 30 (.int .i64 (I : Nat)),
    Mk.pure 31 (.pointer (some ⟨B, 1, none⟩)),
    Mk.pure 32 (.int .i64 (W : Nat)),
    ⟨33, fun l => .agg #[.int .i64 (I : Nat), .int .i64 (W : Nat), .slice (some ⟨(l.getD 0 0), 0, none⟩) (I * W : Nat) (I * W : Nat)], [30], some (Z8 (I * W))⟩,
    Mk.pure 34 (.pointer (some ⟨B, 1, none⟩)),
    Mk.pure 35 (.int .i64 (W : Nat)),
    Mk.pure 36 (.pointer (some ⟨B, 3, none⟩)),
    Mk.pure 37 (.int .i64 (I : Nat)),
    ⟨38, fun l => .agg #[.int .i64 (W : Nat), .int .i64 (I : Nat), .slice (some ⟨(l.getD 0 0), 0, none⟩) (W * I : Nat) (W * I : Nat)], [35], some (Z8 (W * I))⟩,
    ⟨39, fun l => .agg #[.slice (some ⟨(l.getD 0 0), 0, none⟩) (W : Nat) (W : Nat), .slice (some ⟨(l.getD 1 0), 0, none⟩) (W : Nat) (W : Nat), .int .i64 (W : Nat), .int .i64 (W : Nat), .slice (some ⟨(l.getD 2 0), 0, none⟩) (W * W : Nat) (W * W : Nat), .int .i64 (W : Nat), .int .i64 (W : Nat), .slice (some ⟨(l.getD 3 0), 0, none⟩) (W * W : Nat) (W * W : Nat), .int .i64 (W : Nat), .int .i64 (W : Nat), .slice (some ⟨(l.getD 4 0), 0, none⟩) (W * W : Nat) (W * W : Nat), .int .i64 (W : Nat), .int .i64 (W : Nat), .slice (some ⟨(l.getD 5 0), 0, none⟩) (W * W : Nat) (W * W : Nat), .int .i64 (I : Nat), .int .i64 (W : Nat), .slice (some ⟨(l.getD 6 0), 0, none⟩) (I * W : Nat) (I * W : Nat), .int .i64 (W : Nat), .int .i64 (I : Nat), .slice (some ⟨(l.getD 7 0), 0, none⟩) (W * I : Nat) (W * I : Nat)], [2, 25, 7, 12, 17, 22, 30, 35], none⟩][[2, 7, 12, 17, 22, 25, 30, 35].getD i 0]? = some m ∧ m.obj.isSome = true ∧ [2, 7, 12, 17, 22, 25, 30, 35].getD i 0 < 37 := by
        intro i hi
        have : i = 0 ∨ i = 1 ∨ i = 2 ∨ i = 3 ∨ i = 4 ∨ i = 5 ∨ i = 6 ∨ i = 7 := by omega
        rcases this with rfl | rfl | rfl | rfl | rfl | rfl | rfl | rfl <;> exact ⟨_, rfl, rfl, by decide⟩
      have hI2 : ∀ i, i < 8 → ∀ j, j < 8 → i ≠ j → [2, 7, 12, 17, 22, 25, 30, 35].getD i 0 ≠ [2, 7, 12, 17, 22, 25, 30, 35].getD j 0 := by decide
      obtain ⟨m1, t1, o1, l1⟩ := hM i hi
      obtain ⟨m2, t2, o2, l2⟩ := hM j hj
      exact hD.out _ _ _ _ t1 t2 o1 o2 (HL.out _ l1) (HL.out _ l2) (hI2 i hi j hj hne)

end Go.Proofs.Ytgbbfmpofmeadaa
