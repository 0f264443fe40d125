/-
  The code's blank weights, the first stretch: matrices, rows and blocks of noughts.
-/
import Derived.Test.YtgbbfmpofmeadaaBlock7
import Derived.Test.YtgbbfmpofmeadaaStorePart
import Derived.Deep.RegionHeld3
import Derived.Deep.CutRange
import Derived.Defers
namespace Go.Proofs.Ytgbbfmpofmeadaa
open Go.RowKit
set_option linter.unusedVariables false

/-- the cells of weights: six numbers, two matrices, n blocks, a row -/
def wval (L W H I V P : Nat) (e b t h : Nat) : Array Value := #[.int .i64 L, .int .i64 W, .int .i64 H, .int .i64 I, .int .i64 V, .int .i64 P, .int .i64 V, .int .i64 W, .slice (some ⟨e, 0, none⟩) (V * W : Nat) (V * W : Nat), .slice (some ⟨b, 0, none⟩) L L, .slice (some ⟨t, 0, none⟩) W W, .int .i64 V, .int .i64 W, .slice (some ⟨h, 0, none⟩) (V * W : Nat) (V * W : Nat)]
theorem wval_one (L W H I V P e b t h : Nat) : (wval L W H I V P e b t h).all (·.oneCell') = true := by simp [wval, Value.oneCell']
/-- the zero values of a block and of weights -/
def zblk : Array Value := #[.slice none 0 0, .slice none 0 0, .int .i64 0, .int .i64 0, .slice none 0 0, .int .i64 0, .int .i64 0, .slice none 0 0, .int .i64 0, .int .i64 0, .slice none 0 0, .int .i64 0, .int .i64 0, .slice none 0 0, .int .i64 0, .int .i64 0, .slice none 0 0, .int .i64 0, .int .i64 0, .slice none 0 0]
def zwts : Array Value := #[.int .i64 0, .int .i64 0, .int .i64 0, .int .i64 0, .int .i64 0, .int .i64 0, .int .i64 0, .int .i64 0, .slice none 0 0, .slice none 0 0, .slice none 0 0, .int .i64 0, .int .i64 0, .slice none 0 0]
def ZW : Obj := .cells zwts 32 (0, 0)
def ZB (n : Nat) : Obj := .cells (madeCells zblk (n * 20)) 39 (0, 0)
theorem weights_made (w : World) : (w.alloc ZW).heap[w.heap.size]? = some ZW := heap_alloc_new w _
theorem blocks_made (w : World) (n : Nat) : (w.alloc (ZB n)).heap[w.heap.size]? = some (ZB n) := heap_alloc_new w _
theorem infoBlk : ∃ i, Try.prog.info? 39 = some i ∧ i.zero = some (.agg zblk) ∧ i.size = 20 ∧ i.bytes = 288 := by
  have h : (Try.prog.info? 39).map (fun i => (i.zero, i.size, i.bytes)) = some (some (.agg zblk), 20, 288) := by kernel_rfl
  cases hh : Try.prog.info? 39 with
  | none => rw [hh] at h; cases h
  | some i => rw [hh] at h; simp only [Option.map_some, Option.some.injEq, Prod.mk.injEq] at h; exact ⟨i, rfl, h.1, h.2.1, h.2.2⟩
/-- make([]api.Block, n) -/
theorem run_make_blocks (n : Nat) (hn : n ≤ 16) (w : World) : (Instr.makeSlice 30 (.int .i64 (n : Int)) (.int .i64 (n : Int))).run Try.prog w = .ok (.slice (some ⟨w.heap.size, 0, none⟩) n n) (w.alloc (ZB n)) := by
  obtain ⟨i, hi, hz, hs, hby⟩ := infoBlk
  have hr := run_make (P := Try.prog) w 30 39 i _ Try.underlying30 hi hz .i64 .i64 n n (by omega) (by omega) (by rw [hby]; omega) (by omega)
  simp only [Int.toNat_natCast, hs] at hr
  exact hr

/-- what blank answers: every row of noughts in a block of its own, the blocks' cells as they must be -/
def Blank (s : Sz) (w : World) (e : Ending) (w' : World) : Prop := ∃ (G : Nat → Nat) (b : Nat) (cs : Array Value), e = .returned (.agg (wval s.l s.w s.h s.i s.v s.p (G 0) b (G (8 * s.l + 1)) (G (8 * s.l + 2)))) ∧
  (∀ j r, (rowsL s)[j]? = some r → w.heap.size ≤ G j ∧ w'.heap[G j]? = some (Z8 r.2)) ∧ (∀ i j, i < 8 * s.l + 3 → j < 8 * s.l + 3 → i ≠ j → G i ≠ G j) ∧
  w.heap.size ≤ b ∧ Box w' b 39 cs ∧ cs.size = 20 * s.l ∧ (∀ c, c < s.l → ∀ k, k < 20 → cs[c * 20 + k]? = (bkv s.w s.i (fun k => G (1 + 8 * c + k)))[k]?)

theorem rowsL_zero (s : Sz) : (rowsL s)[0]? = some (false, s.v * s.w) := rfl
theorem rowsL_last (s : Sz) : (rowsL s)[8 * s.l + 1]? = some (true, s.w) := by
  unfold rowsL; rw [List.getElem?_append_right (by rw [rowsK_len]; omega), rowsK_len, Nat.sub_self]; rfl
theorem rowsL_head (s : Sz) : (rowsL s)[8 * s.l + 2]? = some (false, s.v * s.w) := by
  unfold rowsL; rw [List.getElem?_append_right (by rw [rowsK_len]; omega), rowsK_len, show 8 * s.l + 2 - (8 * s.l + 1) = 1 by omega]; rfl
theorem blks_at (s : Sz) (n c k : Nat) (hc : c < n) (hk : k < 8) : (blks s n)[8 * c + k]? = (blk7 s)[k]? := by
  induction n with
  | zero => omega
  | succ n ih =>
    rw [blks_succ]
    by_cases h : c < n
    · rw [List.getElem?_append_left (by rw [blks_len]; omega), ih h]
    · obtain rfl : c = n := by omega
      rw [List.getElem?_append_right (by rw [blks_len]; omega), blks_len, Nat.add_sub_cancel_left]
theorem rowsL_blk (s : Sz) (c k : Nat) (hc : c < s.l) (hk : k < 8) : (rowsL s)[1 + 8 * c + k]? = (blk7 s)[k]? := by
  unfold rowsL rowsK
  rw [List.getElem?_append_left (by rw [List.length_cons, blks_len]; omega), show 1 + 8 * c + k = (8 * c + k) + 1 by omega, List.getElem?_cons_succ]
  exact blks_at s s.l c k hc hk
theorem dim_blk (s : Sz) (k : Nat) : (dim7 s.w s.i)[k]? = ((blk7 s)[k]?).map Prod.snd := by
  rw [← List.getElem?_map]; rfl

/-- what blank's loop keeps, k blocks being laid -/
def BInv (s : Sz) (B k : Nat) (G : Nat → Nat) (b : Nat) (w : World) : Prop :=
  (∀ j r, (rowsL s)[j]? = some r → (j < 1 + 8 * k ∨ 8 * s.l + 1 ≤ j) → B ≤ G j ∧ w.heap[G j]? = some (Z8 r.2)) ∧
  (∀ i j, i < 8 * s.l + 3 → j < 8 * s.l + 3 → (i < 1 + 8 * k ∨ 8 * s.l + 1 ≤ i) → (j < 1 + 8 * k ∨ 8 * s.l + 1 ≤ j) → i ≠ j → G i ≠ G j) ∧
  ∃ cs, Box w b 39 cs ∧ cs.size = 20 * s.l ∧ ∀ c, c < k → ∀ q, q < 20 → cs[c * 20 + q]? = (bkv s.w s.i (fun k => G (1 + 8 * c + k)))[q]?

theorem bkv_congr (W I : Nat) (g g' : Nat → Nat) (h : ∀ x, x < 8 → g x = g' x) : bkv W I g = bkv W I g' := by
  unfold bkv
  rw [h 0 (by omega), h 1 (by omega), h 2 (by omega), h 3 (by omega), h 4 (by omega), h 5 (by omega), h 6 (by omega), h 7 (by omega)]
/-- one block more -/
theorem BInv.next {s : Sz} {B k : Nat} {G : Nat → Nat} {b : Nat} {w w' : World} (h : BInv s B k G b w) (hk : k < s.l) (g : Nat → Nat) (hb : Below w.heap.size w w') (hB : B ≤ w.heap.size)
    (hg : ∀ q n, (dim7 s.w s.i)[q]? = some n → w.heap.size ≤ g q ∧ w'.heap[g q]? = some (Z8 n)) (hd : ∀ i j, i < 8 → j < 8 → i ≠ j → g i ≠ g j) (hbb : B ≤ b) :
    ∃ cur G', Box w' b 39 cur ∧ k * 20 + 20 ≤ cur.size ∧ G' 0 = G 0 ∧ G' (8 * s.l + 1) = G (8 * s.l + 1) ∧ G' (8 * s.l + 2) = G (8 * s.l + 2) ∧ BInv s B (k + 1) G' b (w'.setRow b (mid cur (k * 20) (bkv s.w s.i g))) := by
  obtain ⟨h1, h2, cs, hbx, hcs, hat⟩ := h
  have hfit : k * 20 + (bkv s.w s.i g).size ≤ cs.size := by rw [bkv_size, hcs]; omega
  have hbx' := hbx.bel hb
  have hold : ∀ j, (j < 1 + 8 * k ∨ 8 * s.l + 1 ≤ j) → j < 8 * s.l + 3 → G j < w.heap.size := by
    intro j hm hj
    obtain ⟨r, hr⟩ : ∃ r, (rowsL s)[j]? = some r := ⟨_, List.getElem?_eq_getElem (by rw [rowsL_len]; exact hj)⟩
    exact (Array.getElem?_eq_some_iff.1 (h1 j r hr hm).2).1
  have hnew : ∀ q, q < 8 → w.heap.size ≤ g q := by
    intro q hq
    obtain ⟨n, hn⟩ : ∃ n, (dim7 s.w s.i)[q]? = some n := ⟨_, List.getElem?_eq_getElem (by simp [dim7]; omega)⟩
    exact (hg q n hn).1
  refine ⟨cs, fun j => if 1 + 8 * k ≤ j ∧ j < 1 + 8 * k + 8 then g (j - (1 + 8 * k)) else G j, hbx', by rw [hcs]; omega, ?_, ?_, ?_, ?_, ?_, ?_⟩
  · show (if 1 + 8 * k ≤ 0 ∧ _ then _ else _) = _; rw [if_neg (by omega)]
  · show (if 1 + 8 * k ≤ 8 * s.l + 1 ∧ _ then _ else _) = _; rw [if_neg (by omega)]
  · show (if 1 + 8 * k ≤ 8 * s.l + 2 ∧ _ then _ else _) = _; rw [if_neg (by omega)]
  · intro j r hj hm
    have hj3 : j < 8 * s.l + 3 := by have := (List.getElem?_eq_some_iff.1 hj).1; rw [rowsL_len] at this; exact this
    have hz : ∀ (G0 n : Nat), w'.heap[G0]? = some (Z8 n) → (w'.setRow b (mid cs (k * 20) (bkv s.w s.i g))).heap[G0]? = some (Z8 n) := by
      intro G0 n h0
      refine (setRow_other w' b G0 _ (fun e => ?_)).trans h0
      rw [e] at h0
      have := h0.symm.trans hbx'
      simp [Z8] at this
    by_cases hin : 1 + 8 * k ≤ j ∧ j < 1 + 8 * k + 8
    · simp only [if_pos hin]
      have he : j = 1 + 8 * k + (j - (1 + 8 * k)) := by omega
      have hr : (blk7 s)[j - (1 + 8 * k)]? = some r := by rw [← rowsL_blk s k _ hk (by omega), ← he]; exact hj
      obtain ⟨e1, e2⟩ := hg (j - (1 + 8 * k)) r.2 (by rw [dim_blk, hr]; rfl)
      exact ⟨by omega, hz _ _ e2⟩
    · simp only [if_neg hin]
      obtain ⟨e1, e2⟩ := h1 j r hj (by omega)
      exact ⟨e1, hz _ _ ((hb.block _ (hold j (by omega) hj3)).trans e2)⟩
  · intro i j hi hj mi mj hne
    by_cases ii : 1 + 8 * k ≤ i ∧ i < 1 + 8 * k + 8
    · simp only [if_pos ii]
      have a1 := hnew (i - (1 + 8 * k)) (by omega)
      by_cases jj : 1 + 8 * k ≤ j ∧ j < 1 + 8 * k + 8
      · simp only [if_pos jj]
        exact hd _ _ (by omega) (by omega) (by omega)
      · simp only [if_neg jj]
        have a2 := hold j (by omega) hj
        omega
    · simp only [if_neg ii]
      have a1 := hold i (by omega) hi
      by_cases jj : 1 + 8 * k ≤ j ∧ j < 1 + 8 * k + 8
      · simp only [if_pos jj]
        have a2 := hnew (j - (1 + 8 * k)) (by omega)
        omega
      · simp only [if_neg jj]
        exact h2 i j hi hj (by omega) (by omega) hne
  · refine ⟨_, hbx'.setRow, by rw [mid_size _ _ _ hfit]; exact hcs, fun c hc q hq => ?_⟩
    by_cases e : c = k
    · subst e
      rw [mid_at _ _ _ hfit q (by rw [bkv_size]; exact hq)]
      rw [bkv_congr s.w s.i g _ (fun x hx => ?_)]
      show g x = if 1 + 8 * c ≤ 1 + 8 * c + x ∧ 1 + 8 * c + x < 1 + 8 * c + 8 then g (1 + 8 * c + x - (1 + 8 * c)) else G (1 + 8 * c + x)
      rw [if_pos (by omega), Nat.add_sub_cancel_left]
    · rw [mid_far _ _ _ hfit _ (by rw [bkv_size]; omega), hat c (by omega) q hq]
      rw [bkv_congr s.w s.i _ _ (fun x hx => ?_)]
      show G (1 + 8 * c + x) = if 1 + 8 * k ≤ 1 + 8 * c + x ∧ 1 + 8 * c + x < 1 + 8 * k + 8 then g (1 + 8 * c + x - (1 + 8 * k)) else G (1 + 8 * c + x)
      rw [if_neg (by omega)]

set_option maxHeartbeats 8000000 in
set_option maxRecDepth 100000 in
theorem blank_any (s : Sz) (ok : s.Ok) (w : World) :
    Calls Try.prog 25 #[s.val] w fun e w' => Blank s w e w' ∧ Below w.heap.size w w' := by
  obtain ⟨hl, hh, hw0, hi, hv, hp⟩ := ok.bd
  obtain ⟨L, W, H, I, V, P⟩ := s
  simp only at hl hh hw0 hi hv hp
  have hL := hl.2
  have hW := hw0.2
  have hI := hi.2
  have hV := hv.2
  clear ok hl hh hw0 hi hv hp
  have hmk := run_make_row' (P := Try.prog) 27 56 (.int .i8 0) 1 Try.underlying27 info8 rfl .i64 .i64 W (by omega) (by omega)
  have hmb := run_make_blocks L hL
  go_enter Try.func25, Try.ntmps25
  go_wp2_with fail
  generalize hwa : (w.alloc _).alloc _ = wa
  have hX : Box wa w.heap.size 54 #[.int .i64 L, .int .i64 W, .int .i64 H, .int .i64 I, .int .i64 V, .int .i64 P] := by rw [← hwa]; exact (box_new _ _ _).alloc _
  have hR : Box wa (w.heap.size + 1) 32 zwts := by rw [← hwa]; exact box_at (by simp) _ _
  have hB : Below w.heap.size w wa := by rw [← hwa]; exact ((Below.refl _ _).alloc (Nat.le_refl _) _).alloc (by simp) _
  have hz : w.heap.size + 2 ≤ wa.heap.size := by rw [← hwa]; simp
  clear hwa
  have HR := Lib.hid hR
  have HB := Lib.hid hB
  clear hR hB
  generalize hBb : w.heap.size = B at hX ⊢
  refine region_made (tab := [
    Mk.pure 5 (.agg #[.int .i64 L, .int .i64 W, .int .i64 H, .int .i64 I, .int .i64 V, .int .i64 P]),
    Mk.pure 6 (.pointer (some ⟨B, 4, none⟩)),
    Mk.pure 7 (.int .i64 (V : Nat)),
    Mk.pure 8 (.pointer (some ⟨B, 1, none⟩)),
    Mk.pure 9 (.int .i64 (W : Nat)),
    ⟨10, fun l => .agg #[.int .i64 (V : Nat), .int .i64 (W : Nat), .slice (some ⟨(l.getD 0 0), 0, none⟩) (V * W : Nat) (V * W : Nat)], [5], some (Z8 (V * W))⟩,
    Mk.pure 11 (.pointer (some ⟨B, 0, none⟩)),
    Mk.pure 12 (.int .i64 (L : Nat)),
    ⟨13, fun l => .slice (some ⟨(l.getD 0 0), 0, none⟩) (L : Nat) (L : Nat), [8], some (ZB L)⟩,
    Mk.pure 14 (.pointer (some ⟨B, 1, none⟩)),
    Mk.pure 15 (.int .i64 (W : Nat)),
    ⟨16, fun l => .slice (some ⟨(l.getD 0 0), 0, none⟩) (W : Nat) (W : Nat), [11], some (Z8 W)⟩,
    Mk.pure 17 (.pointer (some ⟨B, 4, none⟩)),
    Mk.pure 18 (.int .i64 (V : Nat)),
    Mk.pure 19 (.pointer (some ⟨B, 1, none⟩)),
    Mk.pure 20 (.int .i64 (W : Nat)),
    ⟨21, fun l => .agg #[.int .i64 (V : Nat), .int .i64 (W : Nat), .slice (some ⟨(l.getD 0 0), 0, none⟩) (V * W : Nat) (V * W : Nat)], [16], some (Z8 (V * W))⟩,
    ⟨22, fun l => .agg #[.int .i64 L, .int .i64 W, .int .i64 H, .int .i64 I, .int .i64 V, .int .i64 P, .int .i64 (V : Nat), .int .i64 (W : Nat), .slice (some ⟨(l.getD 0 0), 0, none⟩) (V * W : Nat) (V * W : Nat), .slice (some ⟨(l.getD 1 0), 0, none⟩) (L : Nat) (L : Nat), .slice (some ⟨(l.getD 2 0), 0, none⟩) (W : Nat) (W : Nat), .int .i64 (V : Nat), .int .i64 (W : Nat), .slice (some ⟨(l.getD 3 0), 0, none⟩) (V * W : Nat) (V * W : Nat)], [5, 8, 11, 16], none⟩,
    ⟨3, fun l => .pointer (some ⟨(l.getD 0 0), 0, none⟩), [18], some (ZW)⟩]) (by kernel_rfl) ?ok rfl ?step ?fin
  case ok => exact ⟨rfl, rfl, rfl, rfl, rfl⟩
  case step =>
    intro j o m listed g a w K ho hm0 h hw next
    have hj : j = 0 ∨ j = 1 ∨ j = 2 ∨ j = 3 ∨ j = 4 ∨ j = 5 ∨ j = 6 ∨ j = 7 ∨ j = 8 ∨ j = 9 ∨ j = 10 ∨ j = 11 ∨ j = 12 ∨ j = 13 ∨ j = 14 ∨ j = 15 ∨ j = 16 ∨ j = 17 ∨ j = 18 := by have := (List.getElem?_eq_some_iff.1 hm0).1; simp only [List.length_cons, List.length_nil] at this; omega
    rcases hj with rfl | rfl | rfl | rfl | rfl | rfl | rfl | rfl | rfl | rfl | rfl | rfl | rfl | rfl | rfl | rfl | rfl | rfl | rfl
    · obtain rfl := Option.some.inj ho
      obtain rfl := Option.some.inj hm0
      have f0 : a.tmps.getD 1 undef = .pointer (some ⟨B, 0, none⟩) := (h.fix 1 (by simp)).trans rfl
      refine wpOp_yields rfl rfl ?_ (next g w (fun _ _ => rfl) (fun ob hob => by cases hob) (Below.refl _ _))
      show (execOp a.eval _).run _ w = .ok (.value (.agg #[.int .i64 L, .int .i64 W, .int .i64 H, .int .i64 I, .int .i64 V, .int .i64 P])) w
      have X := hX.bel h.bel
      obtain ⟨x0, x1, x2, x3, x4, x5⟩ := X.cells6
      clear X
      clear h hw next
      go_simp
      try rfl
    · obtain rfl := Option.some.inj ho
      obtain rfl := Option.some.inj hm0
      have f0 : a.tmps.getD 1 undef = .pointer (some ⟨B, 0, none⟩) := (h.fix 1 (by simp)).trans rfl
      refine wpOp_yields rfl rfl ?_ (next g w (fun _ _ => rfl) (fun ob hob => by cases hob) (Below.refl _ _))
      show (execOp a.eval _).run _ w = .ok (.value (.pointer (some ⟨B, 4, none⟩))) w
      have X := hX.bel h.bel
      obtain ⟨x0, x1, x2, x3, x4, x5⟩ := X.cells6
      clear X
      clear h hw next
      go_simp
      try rfl
    · obtain rfl := Option.some.inj ho
      obtain rfl := Option.some.inj hm0
      have f0 : a.tmps.getD 6 undef = .pointer (some ⟨B, 4, none⟩) := h.val 1 _ rfl (hw 1 (by decide))
      refine wpOp_yields rfl rfl ?_ (next g w (fun _ _ => rfl) (fun ob hob => by cases hob) (Below.refl _ _))
      show (execOp a.eval _).run _ w = .ok (.value (.int .i64 (V : Nat))) w
      have X := hX.bel h.bel
      obtain ⟨x0, x1, x2, x3, x4, x5⟩ := X.cells6
      clear X
      clear h hw next
      go_simp
      try rfl
    · obtain rfl := Option.some.inj ho
      obtain rfl := Option.some.inj hm0
      have f0 : a.tmps.getD 1 undef = .pointer (some ⟨B, 0, none⟩) := (h.fix 1 (by simp)).trans rfl
      refine wpOp_yields rfl rfl ?_ (next g w (fun _ _ => rfl) (fun ob hob => by cases hob) (Below.refl _ _))
      show (execOp a.eval _).run _ w = .ok (.value (.pointer (some ⟨B, 1, none⟩))) w
      have X := hX.bel h.bel
      obtain ⟨x0, x1, x2, x3, x4, x5⟩ := X.cells6
      clear X
      clear h hw next
      go_simp
      try rfl
    · obtain rfl := Option.some.inj ho
      obtain rfl := Option.some.inj hm0
      have f0 : a.tmps.getD 8 undef = .pointer (some ⟨B, 1, none⟩) := h.val 3 _ rfl (hw 3 (by decide))
      refine wpOp_yields rfl rfl ?_ (next g w (fun _ _ => rfl) (fun ob hob => by cases hob) (Below.refl _ _))
      show (execOp a.eval _).run _ w = .ok (.value (.int .i64 (W : Nat))) w
      have X := hX.bel h.bel
      obtain ⟨x0, x1, x2, x3, x4, x5⟩ := X.cells6
      clear X
      clear h hw next
      go_simp
      try rfl
    · obtain rfl := Option.some.inj ho
      obtain rfl := Option.some.inj hm0
      have f0 : a.tmps.getD 7 undef = .int .i64 (V : Nat) := h.val 2 _ rfl (hw 2 (by decide))
      have f1 : a.tmps.getD 9 undef = .int .i64 (W : Nat) := h.val 4 _ rfl (hw 4 (by decide))
      refine wpOp_run rfl rfl ?_
      unfold Oper.wp
      clear h hw
      have N := Lib.hid next
      clear next
      go_simp
      refine (matrix_any V W w (by omega) (by omega)).mono ?_
      rintro e w' ⟨⟨x, rfl, hx, hz⟩, hb⟩
      exact N.out (upd g 5 x) _ (fun k hk => if_neg hk) (fun ob hob => by cases hob; exact ⟨hx, hz⟩) hb
    · obtain rfl := Option.some.inj ho
      obtain rfl := Option.some.inj hm0
      have f0 : a.tmps.getD 1 undef = .pointer (some ⟨B, 0, none⟩) := (h.fix 1 (by simp)).trans rfl
      refine wpOp_yields rfl rfl ?_ (next g w (fun _ _ => rfl) (fun ob hob => by cases hob) (Below.refl _ _))
      show (execOp a.eval _).run _ w = .ok (.value (.pointer (some ⟨B, 0, none⟩))) w
      have X := hX.bel h.bel
      obtain ⟨x0, x1, x2, x3, x4, x5⟩ := X.cells6
      clear X
      clear h hw next
      go_simp
      try rfl
    · obtain rfl := Option.some.inj ho
      obtain rfl := Option.some.inj hm0
      have f0 : a.tmps.getD 11 undef = .pointer (some ⟨B, 0, none⟩) := h.val 6 _ rfl (hw 6 (by decide))
      refine wpOp_yields rfl rfl ?_ (next g w (fun _ _ => rfl) (fun ob hob => by cases hob) (Below.refl _ _))
      show (execOp a.eval _).run _ w = .ok (.value (.int .i64 (L : Nat))) w
      have X := hX.bel h.bel
      obtain ⟨x0, x1, x2, x3, x4, x5⟩ := X.cells6
      clear X
      clear h hw next
      go_simp
      try rfl
    · obtain rfl := Option.some.inj ho
      obtain rfl := Option.some.inj hm0
      have f0 : a.tmps.getD 12 undef = .int .i64 (L : Nat) := h.val 7 _ rfl (hw 7 (by decide))
      refine wpOp_run rfl rfl ?_
      unfold Oper.wp
      clear h hw
      have N := Lib.hid next
      clear next
      go_simp
      exact N.out (upd g 8 w.heap.size) _ (fun k hk => if_neg hk) (fun ob hob => by cases hob; exact ⟨Nat.le_refl _, blocks_made w L⟩) ((Below.refl _ _).alloc (Nat.le_refl _) _)
    · obtain rfl := Option.some.inj ho
      obtain rfl := Option.some.inj hm0
      have f0 : a.tmps.getD 1 undef = .pointer (some ⟨B, 0, none⟩) := (h.fix 1 (by simp)).trans rfl
      refine wpOp_yields rfl rfl ?_ (next g w (fun _ _ => rfl) (fun ob hob => by cases hob) (Below.refl _ _))
      show (execOp a.eval _).run _ w = .ok (.value (.pointer (some ⟨B, 1, none⟩))) w
      have X := hX.bel h.bel
      obtain ⟨x0, x1, x2, x3, x4, x5⟩ := X.cells6
      clear X
      clear h hw next
      go_simp
      try rfl
    · obtain rfl := Option.some.inj ho
      obtain rfl := Option.some.inj hm0
      have f0 : a.tmps.getD 14 undef = .pointer (some ⟨B, 1, none⟩) := h.val 9 _ rfl (hw 9 (by decide))
      refine wpOp_yields rfl rfl ?_ (next g w (fun _ _ => rfl) (fun ob hob => by cases hob) (Below.refl _ _))
      show (execOp a.eval _).run _ w = .ok (.value (.int .i64 (W : Nat))) w
      have X := hX.bel h.bel
      obtain ⟨x0, x1, x2, x3, x4, x5⟩ := X.cells6
      clear X
      clear h hw next
      go_simp
      try rfl
    · obtain rfl := Option.some.inj ho
      obtain rfl := Option.some.inj hm0
      have f0 : a.tmps.getD 15 undef = .int .i64 (W : Nat) := h.val 10 _ rfl (hw 10 (by decide))
      refine wpOp_run rfl rfl ?_
      unfold Oper.wp
      clear h hw
      have N := Lib.hid next
      clear next
      go_simp
      exact N.out (upd g 11 w.heap.size) _ (fun k hk => if_neg hk) (fun ob hob => by cases hob; exact ⟨Nat.le_refl _, mine_z8 (mine_made .i8 w 56 W rfl)⟩) ((Below.refl _ _).alloc (Nat.le_refl _) _)
    · obtain rfl := Option.some.inj ho
      obtain rfl := Option.some.inj hm0
      have f0 : a.tmps.getD 1 undef = .pointer (some ⟨B, 0, none⟩) := (h.fix 1 (by simp)).trans rfl
      refine wpOp_yields rfl rfl ?_ (next g w (fun _ _ => rfl) (fun ob hob => by cases hob) (Below.refl _ _))
      show (execOp a.eval _).run _ w = .ok (.value (.pointer (some ⟨B, 4, none⟩))) w
      have X := hX.bel h.bel
      obtain ⟨x0, x1, x2, x3, x4, x5⟩ := X.cells6
      clear X
      clear h hw next
      go_simp
      try rfl
    · obtain rfl := Option.some.inj ho
      obtain rfl := Option.some.inj hm0
      have f0 : a.tmps.getD 17 undef = .pointer (some ⟨B, 4, none⟩) := h.val 12 _ rfl (hw 12 (by decide))
      refine wpOp_yields rfl rfl ?_ (next g w (fun _ _ => rfl) (fun ob hob => by cases hob) (Below.refl _ _))
      show (execOp a.eval _).run _ w = .ok (.value (.int .i64 (V : Nat))) w
      have X := hX.bel h.bel
      obtain ⟨x0, x1, x2, x3, x4, x5⟩ := X.cells6
      clear X
      clear h hw next
      go_simp
      try rfl
    · obtain rfl := Option.some.inj ho
      obtain rfl := Option.some.inj hm0
      have f0 : a.tmps.getD 1 undef = .pointer (some ⟨B, 0, none⟩) := (h.fix 1 (by simp)).trans rfl
      refine wpOp_yields rfl rfl ?_ (next g w (fun _ _ => rfl) (fun ob hob => by cases hob) (Below.refl _ _))
      show (execOp a.eval _).run _ w = .ok (.value (.pointer (some ⟨B, 1, none⟩))) w
      have X := hX.bel h.bel
      obtain ⟨x0, x1, x2, x3, x4, x5⟩ := X.cells6
      clear X
      clear h hw next
      go_simp
      try rfl
    · obtain rfl := Option.some.inj ho
      obtain rfl := Option.some.inj hm0
      have f0 : a.tmps.getD 19 undef = .pointer (some ⟨B, 1, none⟩) := h.val 14 _ rfl (hw 14 (by decide))
      refine wpOp_yields rfl rfl ?_ (next g w (fun _ _ => rfl) (fun ob hob => by cases hob) (Below.refl _ _))
      show (execOp a.eval _).run _ w = .ok (.value (.int .i64 (W : Nat))) w
      have X := hX.bel h.bel
      obtain ⟨x0, x1, x2, x3, x4, x5⟩ := X.cells6
      clear X
      clear h hw next
      go_simp
      try rfl
    · obtain rfl := Option.some.inj ho
      obtain rfl := Option.some.inj hm0
      have f0 : a.tmps.getD 18 undef = .int .i64 (V : Nat) := h.val 13 _ rfl (hw 13 (by decide))
      have f1 : a.tmps.getD 20 undef = .int .i64 (W : Nat) := h.val 15 _ rfl (hw 15 (by decide))
      refine wpOp_run rfl rfl ?_
      unfold Oper.wp
      clear h hw
      have N := Lib.hid next
      clear next
      go_simp
      refine (matrix_any V W w (by omega) (by omega)).mono ?_
      rintro e w' ⟨⟨x, rfl, hx, hz⟩, hb⟩
      exact N.out (upd g 16 x) _ (fun k hk => if_neg hk) (fun ob hob => by cases hob; exact ⟨hx, hz⟩) hb
    · obtain rfl := Option.some.inj ho
      obtain rfl := Option.some.inj hm0
      have f0 : a.tmps.getD 5 undef = .agg #[.int .i64 L, .int .i64 W, .int .i64 H, .int .i64 I, .int .i64 V, .int .i64 P] := h.val 0 _ rfl (hw 0 (by decide))
      have f1 : a.tmps.getD 10 undef = .agg #[.int .i64 (V : Nat), .int .i64 (W : Nat), .slice (some ⟨(g 5), 0, none⟩) (V * W : Nat) (V * W : Nat)] := h.val 5 _ rfl (hw 5 (by decide))
      have f2 : a.tmps.getD 13 undef = .slice (some ⟨(g 8), 0, none⟩) (L : Nat) (L : Nat) := h.val 8 _ rfl (hw 8 (by decide))
      have f3 : a.tmps.getD 16 undef = .slice (some ⟨(g 11), 0, none⟩) (W : Nat) (W : Nat) := h.val 11 _ rfl (hw 11 (by decide))
      have f4 : a.tmps.getD 21 undef = .agg #[.int .i64 (V : Nat), .int .i64 (W : Nat), .slice (some ⟨(g 16), 0, none⟩) (V * W : Nat) (V * W : Nat)] := h.val 16 _ rfl (hw 16 (by decide))
      refine wpOp_yields rfl rfl ?_ (next g w (fun _ _ => rfl) (fun ob hob => by cases hob) (Below.refl _ _))
      show (execOp a.eval _).run _ w = .ok (.value (.agg #[.int .i64 L, .int .i64 W, .int .i64 H, .int .i64 I, .int .i64 V, .int .i64 P, .int .i64 (V : Nat), .int .i64 (W : Nat), .slice (some ⟨(g 5), 0, none⟩) (V * W : Nat) (V * W : Nat), .slice (some ⟨(g 8), 0, none⟩) (L : Nat) (L : Nat), .slice (some ⟨(g 11), 0, none⟩) (W : Nat) (W : Nat), .int .i64 (V : Nat), .int .i64 (W : Nat), .slice (some ⟨(g 16), 0, none⟩) (V * W : Nat) (V * W : Nat)])) w
      simp only [Array.getD_eq_getD_getElem?] at f0 f1 f2 f3 f4
      clear h hw next
      go_simp
      try rfl
    · obtain rfl := Option.some.inj ho
      obtain rfl := Option.some.inj hm0
      refine wpOp_run rfl rfl ?_
      unfold Oper.wp
      clear h hw
      have N := Lib.hid next
      clear next
      go_simp
      exact N.out (upd g 18 w.heap.size) _ (fun k hk => if_neg hk) (fun ob hob => by cases hob; exact ⟨Nat.le_refl _, weights_made w⟩) ((Below.refl _ _).alloc (Nat.le_refl _) _)
  case fin =>
    intro o g w1 listed ho hl h
    obtain rfl := Option.some.inj ho
    have hb := h.bel
    have HX0 := hX.bel hb
    have XR0 := HR.out.bel hb
    have HB2 : Below B w w1 := by rw [← hBb]; exact below_two HB.out hb
    rw [hBb] at XR0 hz
    have hBs : w.heap.size = B := hBb
    obtain ⟨q18, z18⟩ := h.obj 18 _ _ rfl rfl (hl 18 (show 18 < 19 by decide))
    obtain ⟨q5, z5⟩ := h.obj 5 _ _ rfl rfl (hl 5 (show 5 < 19 by decide))
    obtain ⟨q8, z8⟩ := h.obj 8 _ _ rfl rfl (hl 8 (show 8 < 19 by decide))
    obtain ⟨q11, z11⟩ := h.obj 11 _ _ rfl rfl (hl 11 (show 11 < 19 by decide))
    obtain ⟨q16, z16⟩ := h.obj 16 _ _ rfl rfl (hl 16 (show 16 < 19 by decide))
    have D := fun i j m m' hi hj h1 h2 hne (li : i < 19) (lj : j < 19) => h.dis i j m m' hi hj h1 h2 (hl i li) (hl j lj) hne
    have d1 := D 5 11 _ _ rfl rfl rfl rfl (by decide) (by decide) (by decide)
    have d2 := D 5 16 _ _ rfl rfl rfl rfl (by decide) (by decide) (by decide)
    have d3 := D 11 16 _ _ rfl rfl rfl rfl (by decide) (by decide) (by decide)
    have d4 := D 5 18 _ _ rfl rfl rfl rfl (by decide) (by decide) (by decide)
    have d5 := D 8 18 _ _ rfl rfl rfl rfl (by decide) (by decide) (by decide)
    have d6 := D 11 18 _ _ rfl rfl rfl rfl (by decide) (by decide) (by decide)
    have d7 := D 16 18 _ _ rfl rfl rfl rfl (by decide) (by decide) (by decide)
    have XR : Box w1 (g 18) 32 zwts := z18
    have XB : Box w1 (g 8) 39 (madeCells zblk (L * 20)) := z8
    clear D h hl hX z18 z8
    simp only [fillT, Mk.val, List.foldl_cons, List.foldl_nil, List.map_cons, List.map_nil, List.getD_cons_zero, List.getD_cons_succ, List.setIfInBounds_toArray, List.set_cons_zero, List.set_cons_succ]
    refine wpOp_run rfl rfl ?_
    refine wp_store_row 32 _ _ rfl (g 18) (wval L W H I V P (g 5) (g 8) (g 11) (g 16)) rfl rfl 32 _ XR (by kernel_rfl) rfl (wval_one _ _ _ _ _ _ _ _ _ _) ?_
    have gS := grownBy_setRow w1 (g 18) (wval L W H I V P (g 5) (g 8) (g 11) (g 16))
    have X1 := XR.setRow (cs' := wval L W H I V P (g 5) (g 8) (g 11) (g 16))
    have X2 := HX0.kept gS (by simp; omega)
    have X3 := XR0.kept gS (by simp; omega)
    have X4 := XB.kept gS (by simpa using d5)
    have Y5 := (z8_mine z5).kept gS (by simpa using d4)
    have Y11 := (z8_mine z11).kept gS (by simpa using d6)
    have Y16 := (z8_mine z16).kept gS (by simpa using d7)
    have HB3 : Below B w (w1.setRow (g 18) (wval L W H I V P (g 5) (g 8) (g 11) (g 16))) := below_setRow HB2 (by omega) (by have := HB2.size; omega)
    generalize w1.setRow (g 18) _ = w2 at X1 X2 X3 X4 Y5 Y11 Y16 HB3 ⊢
    have l5 := Y5.lt
    have l8 := X4.lt
    have l11 := Y11.lt
    have l16 := Y16.lt
    have l18 := X1.lt
    -- the invariant of the loop, at its start
    have HI : BInv ⟨L, W, H, I, V, P⟩ B 0 (fun j => if j = 0 then g 5 else if j = 8 * L + 1 then g 11 else g 16) (g 8) w2 := by
      refine ⟨?_, ?_, _, X4, by rw [size_madeCells]; show L * 20 = 20 * L; omega, fun c hc => absurd hc (by omega)⟩
      · intro j r hj hmade
        have hj3 : j < 8 * L + 3 := by have := (List.getElem?_eq_some_iff.1 hj).1; rw [rowsL_len] at this; exact this
        have hm2 : j < 1 + 8 * 0 ∨ 8 * L + 1 ≤ j := hmade
        have : j = 0 ∨ j = 8 * L + 1 ∨ j = 8 * L + 2 := by omega
        rcases this with rfl | rfl | rfl
        · rw [rowsL_zero] at hj; cases hj
          exact ⟨by show B ≤ g 5; omega, Y5⟩
        · rw [rowsL_last] at hj; cases hj
          simp only [if_neg (show ¬ (8 * L + 1 = 0) by omega), if_pos]
          exact ⟨by omega, Y11⟩
        · rw [rowsL_head] at hj; cases hj
          simp only [if_neg (show ¬ (8 * L + 2 = 0) by omega), if_neg (show ¬ (8 * L + 2 = 8 * L + 1) by omega)]
          exact ⟨by omega, Y16⟩
      · intro i j hi hj mi mj hne
        have mi2 : i < 1 + 8 * 0 ∨ 8 * L + 1 ≤ i := mi
        have mj2 : j < 1 + 8 * 0 ∨ 8 * L + 1 ≤ j := mj
        have hi2 : i < 8 * L + 3 := hi
        have hj2 : j < 8 * L + 3 := hj
        have h1 : i = 0 ∨ i = 8 * L + 1 ∨ i = 8 * L + 2 := by omega
        have h2 : j = 0 ∨ j = 8 * L + 1 ∨ j = 8 * L + 2 := by omega
        rcases h1 with rfl | rfl | rfl <;> rcases h2 with rfl | rfl | rfl <;> simp <;> first | omega | exact absurd rfl hne
    have q8' : B ≤ g 8 := by omega
    obtain ⟨G0, HI2, HG⟩ : ∃ G0 : Nat → Nat, Hid (BInv ⟨L, W, H, I, V, P⟩ B 0 G0 (g 8) w2) ∧ Hid (G0 0 = g 5 ∧ G0 (8 * L + 1) = g 11 ∧ G0 (8 * L + 2) = g 16) := ⟨_, Lib.hid HI, Lib.hid ⟨rfl, by simp, by simp⟩⟩
    have g818 : g 8 ≠ g 18 := d5
    clear HI X4 Y5 Y11 Y16 d1 d2 d3 d4 d5 d6 d7 gS z5 z11 z16 XB XR XR0 HX0 HB2 q5 q11 q16 hb
    have s9 : w2.cell? ⟨g 18, 9, none⟩ = some (.slice (some ⟨g 8, 0, none⟩) L L) := X1.cell 9
    have H1 := Lib.hid X1
    have H2 := Lib.hid X2
    have H3 := Lib.hid X3
    have H4 := Lib.hid HB3
    clear X1 X2 X3 HB3 HR HB hmk hmb hBs
    go_wp2_with fail
    clear s9
    go_loopw [26] (fun i' wr => ∃ (k : Nat) (G : Nat → Nat), k ≤ L ∧ i' = .int .i64 k ∧ Hid (BInv ⟨L, W, H, I, V, P⟩ B k G (g 8) wr) ∧ Hid (G 0 = g 5 ∧ G (8 * L + 1) = g 11 ∧ G (8 * L + 2) = g 16) ∧ Hid (Box wr (g 18) 32 (wval L W H I V P (g 5) (g 8) (g 11) (g 16))) ∧ Hid (Box wr B 54 #[.int .i64 L, .int .i64 W, .int .i64 H, .int .i64 I, .int .i64 V, .int .i64 P]) ∧ Hid (Box wr (B + 1) 32 zwts) ∧ Hid (Below B w wr) ∧ B + 2 ≤ wr.heap.size) (fun i' _ => L - (intOf i').toNat)
    case atStart => exact ⟨0, G0, by omega, rfl, HI2, HG, H1, H2, H3, H4, by omega⟩
    case round =>
      obtain ⟨k, G, hk, rfl, hI2, hG, b1, b2, b3, b4, hsz2⟩ := hrel
      have s9 : wr.cell? ⟨g 18, 9, none⟩ = some (.slice (some ⟨g 8, 0, none⟩) L L) := b1.out.cell 9
      by_cases hlt : k < L
      · obtain ⟨x0, x1, x2, x3, x4, x5⟩ := b2.out.cells6
        go_upto_region 5 with (fail)
        refine wp_region_held_drew (S := (fun w' => w'.cell? ⟨B, 0, none⟩ = some (.int .i64 L) ∧ w'.cell? ⟨B, 1, none⟩ = some (.int .i64 W) ∧ w'.cell? ⟨B, 2, none⟩ = some (.int .i64 H) ∧ w'.cell? ⟨B, 3, none⟩ = some (.int .i64 I) ∧ w'.cell? ⟨B, 4, none⟩ = some (.int .i64 V) ∧ w'.cell? ⟨B, 5, none⟩ = some (.int .i64 P) ∧ w'.cell? ⟨g 18, 9, none⟩ = some (.slice (some ⟨g 8, 0, none⟩) L L))) (by kernel_rfl) ?_ (fun hHeld => ?_)
        · first | go_keep | (go_split_ands; refine ⟨?_, ?_, ?_, ?_, ?_, ?_, ?_⟩ <;> assumption)
        refine wpAnyH_take (i := 0) (oi := ⟨some 29, _, _, _, _, _⟩) (v := ?_) rfl (by kernel_rfl) (by kernel_rfl) (by kernel_rfl) (fun _ _ _ h => h) (Or.inl ⟨by rfl, ?hy1⟩) hHeld ?rest1
        case hy1 => (intro W hSw; (try dsimp only at hSw); go_simp; (try with_reducible rfl))
        simp only [Act.put, List.setIfInBounds_toArray, List.set_cons_zero, List.set_cons_succ]
        refine wpAnyH_take (i := 1) (oi := ⟨some 30, _, _, _, _, _⟩) (v := ?_) rfl (by kernel_rfl) (by kernel_rfl) (by kernel_rfl) (fun _ _ _ h => h) (Or.inl ⟨by rfl, ?hy2⟩) hHeld ?rest2
        case hy2 => (intro W hSw; (try dsimp only at hSw); go_simp; (try with_reducible rfl))
        simp only [Act.put, List.setIfInBounds_toArray, List.set_cons_zero, List.set_cons_succ]
        refine wpAnyH_take (i := 2) (oi := ⟨some 31, _, _, _, _, _⟩) (v := ?_) rfl (by kernel_rfl) (by kernel_rfl) (by kernel_rfl) (fun _ _ _ h => h) (Or.inl ⟨by rfl, ?hy3⟩) hHeld ?rest3
        case hy3 => (intro W hSw; (try dsimp only at hSw); go_simp; (try with_reducible rfl))
        simp only [Act.put, List.setIfInBounds_toArray, List.set_cons_zero, List.set_cons_succ]
        refine wpAnyH_take (i := 3) (oi := ⟨some 32, _, _, _, _, _⟩) (v := ?_) rfl (by kernel_rfl) (by kernel_rfl) (by kernel_rfl) (fun _ _ _ h => h) (Or.inl ⟨by rfl, ?hy4⟩) hHeld ?rest4
        case hy4 => (intro W hSw; (try dsimp only at hSw); go_simp; (try with_reducible rfl))
        simp only [Act.put, List.setIfInBounds_toArray, List.set_cons_zero, List.set_cons_succ]
        refine wpAnyH_ready (rs := [4]) (by kernel_rfl) (by simp) ?_
        refine AllReadyH.cons (o := ⟨some 33, _, _, _, _, _⟩) rfl (fun K hK => ?_) AllReadyH.nil
        go_simp
        ((with_reducible refine (block_any L W H I V P _ hW hI).mono ?_); rintro e wb ⟨⟨gg, rfl, hg1, hg2⟩, hb0⟩; have hb : Below wr.heap.size wr wb := below_two (Below.refl _ _).drew hb0; obtain ⟨x0, x1, x2, x3, x4, x5⟩ := (b2.out.bel hb).cells6; have s9 : wb.cell? ⟨g 18, 9, none⟩ = some (.slice (some ⟨g 8, 0, none⟩) L L) := (b1.out.bel hb).cell 9)
        (try go_wp2_with fail)
        refine hK.out _ _ ?_ (fun hNew => ?_)
        · ((try dsimp only); first | go_keep | (go_split_ands; refine ⟨?_, ?_, ?_, ?_, ?_, ?_, ?_⟩ <;> assumption))
        clear hK K hHeld
        have hHeld := hNew
        clear hNew
        try simp only [Act.put, List.setIfInBounds_toArray, List.set_cons_zero, List.set_cons_succ]
        refine wpAnyH_take (i := 5) (oi := ⟨some 34, _, _, _, _, _⟩) (v := ?_) rfl (by kernel_rfl) (by kernel_rfl) (by kernel_rfl) (fun _ _ _ h => h) (Or.inl ⟨by rfl, ?hy6⟩) hHeld ?rest6
        case hy6 => (intro W hSw; (try dsimp only at hSw); go_simp; (try with_reducible rfl))
        simp only [Act.put, List.setIfInBounds_toArray, List.set_cons_zero, List.set_cons_succ]
        obtain ⟨cur, G', hcur, hfit, e0, e1, e2, hI3⟩ := hI2.out.next hlt gg hb (by omega) hg1 hg2 (by omega)
        refine wpAnyH_ready (rs := [6]) (by kernel_rfl) (by simp) ?_
        refine AllReadyH.cons (o := ⟨none, _, _, _, _, _⟩) rfl (fun K hK => ?_) AllReadyH.nil
        rw [if_pos (by rfl)]
        refine wp_store_part 39 _ _ rfl (g 8) (k * 20) (bkv W I gg) rfl rfl 39 cur hcur (by kernel_rfl) (by rw [bkv_size]; exact hfit) (bkv_one _ _ _) ?_
        have gS := grownBy_setRow wb (g 8) (mid cur (k * 20) (bkv W I gg))
        have c1 := (b1.out.bel hb).kept gS (by simpa using fun e => g818 e.symm)
        have c2 := (b2.out.bel hb).kept gS (by simp; omega)
        have c3 := (b3.out.bel hb).kept gS (by simp; omega)
        have hbs := hb.size
        have c4 : Below B w (wb.setRow (g 8) (mid cur (k * 20) (bkv W I gg))) := below_setRow (b4.out.trans (hb.mono (by omega))) q8' (by omega)
        have c5 : B + 2 ≤ (wb.setRow (g 8) (mid cur (k * 20) (bkv W I gg))).heap.size := Nat.le_trans (Nat.le_trans hsz2 hbs) gS.size
        generalize wb.setRow (g 8) _ = w3 at c1 c2 c3 c4 c5 hI3 ⊢
        obtain ⟨x0, x1, x2, x3, x4, x5⟩ := c2.cells6
        have s9 : w3.cell? ⟨g 18, 9, none⟩ = some (.slice (some ⟨g 8, 0, none⟩) L L) := c1.cell 9
        refine hK.out _ _ ?_ (fun hNew => ?_)
        · exact ⟨x0, x1, x2, x3, x4, x5, s9⟩
        clear hK K hHeld hNew
        refine wpAnyH_done (by kernel_rfl) ?_ _
        have C1 := Lib.hid c1
        have C2 := Lib.hid c2
        have C3 := Lib.hid c3
        have C4 := Lib.hid c4
        have C6 := Lib.hid hI3
        have C7 : Hid (G' 0 = g 5 ∧ G' (8 * L + 1) = g 11 ∧ G' (8 * L + 2) = g 16) := Lib.hid ⟨e0.trans hG.out.1, e1.trans hG.out.2.1, e2.trans hG.out.2.2⟩
        clear c1 c2 c3 c4 hI3 e0 e1 e2 hcur hfit hg1 hg2 hb hb0 gS hbs x0 x1 x2 x3 x4 x5 s9
        go_wp2
        go_roundw
        case rel => exact ⟨k + 1, G', by omega, by go_num, C6, C7, C1, C2, C3, C4, c5⟩
        case measure => simp [intOf]; omega
      · obtain rfl : k = L := by omega
        obtain ⟨f1, f2, cs, f3, f4, f5⟩ := hI2.out
        obtain ⟨G1, G2, G3⟩ := hG.out
        have gS := grownBy_setRow wr (B + 1) (wval k W H I V P (g 5) (g 8) (g 11) (g 16))
        have X3 := b3.out.setRow (cs' := wval k W H I V P (g 5) (g 8) (g 11) (g 16))
        have hF : Blank ⟨k, W, H, I, V, P⟩ w (.returned (.agg (wval k W H I V P (g 5) (g 8) (g 11) (g 16)))) (wr.setRow (B + 1) (wval k W H I V P (g 5) (g 8) (g 11) (g 16))) := by
          refine ⟨G, g 8, cs, by rw [G1, G2, G3], fun j r hj => ?_, fun i j hi hj hne => f2 i j hi hj (by have : i < 8 * k + 3 := hi; show i < 1 + 8 * k ∨ 8 * k + 1 ≤ i; omega) (by have : j < 8 * k + 3 := hj; show j < 1 + 8 * k ∨ 8 * k + 1 ≤ j; omega) hne, by rw [hBb]; exact q8', f3.kept gS (by simp; omega), f4, f5⟩
          have hj3 : j < 8 * k + 3 := by have := (List.getElem?_eq_some_iff.1 hj).1; rw [rowsL_len] at this; exact this
          obtain ⟨y1, y2⟩ := f1 j r hj (by show j < 1 + 8 * k ∨ 8 * k + 1 ≤ j; omega)
          refine ⟨by rw [hBb]; exact y1, (setRow_other wr (B + 1) (G j) _ (fun e => ?_)).trans y2⟩
          rw [e] at y2
          have := y2.symm.trans b3.out
          simp [Z8] at this
        have hF2 : Below B w (wr.setRow (B + 1) (wval k W H I V P (g 5) (g 8) (g 11) (g 16))) := below_setRow b4.out (by omega) (by omega)
        have HF := Lib.hid hF
        have HF2 := Lib.hid hF2
        have HX3 := Lib.hid X3
        have B1 := b1.out
        have B3 := b3.out
        clear f1 f2 f3 f4 f5 G1 G2 G3 gS X3 hF hF2
        go_upto_region 7 with (fail)
        go_wp2_with (first | (refine wpList_load_row rfl 32 _ rfl (g 18) rfl 32 _ (0, 0) _ B1 Try.underlying32 rfl (by kernel_rfl) ?_) | (refine wpList_store_row rfl 32 _ _ rfl (B + 1) (wval k W H I V P (g 5) (g 8) (g 11) (g 16)) rfl rfl 32 _ B3 (by kernel_rfl) rfl (wval_one _ _ _ _ _ _ _ _ _ _) ?_))
        exact bodyPost_ret (v := .agg (wval k W H I V P (g 5) (g 8) (g 11) (g 16))) (results_row rfl rfl HX3.out Try.underlying32 rfl (by kernel_rfl)) rfl ⟨HF.out, by rw [hBb]; exact HF2.out⟩

end Go.Proofs.Ytgbbfmpofmeadaa
