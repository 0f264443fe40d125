/-
  Contract of layer 4's Spans: even parts of a number, in new memory, or a refusal.
-/
import Derived.Test.YtkiedganojaniaaMineK
namespace Go.Proofs.Ytkiedganojaniaa
open Go.RowKit
set_option linter.unusedVariables false

/-- what Spans asks -/
def spansB (n p : Int) : Bool := decide (0 ≤ n ∧ n ≤ 1099511627776 ∧ 1 ≤ p ∧ p ≤ 4096)
theorem spansB_yes {n p : Int} (h : spansB n p = true) : ∃ N P : Nat, n = N ∧ p = P ∧ N ≤ 1099511627776 ∧ 1 ≤ P ∧ P ≤ 4096 := by
  unfold spansB at h
  have h := of_decide_eq_true h
  exact ⟨n.toNat, p.toNat, by omega, by omega, by omega, by omega, by omega⟩
/-- where part i begins -/
def spanAt (N P i : Nat) : Nat := i * N / P
def spanL (N P : Nat) : List Int := (List.range (P + 1)).map fun i => ((spanAt N P i : Nat) : Int)
theorem spanL_length (N P : Nat) : (spanL N P).length = P + 1 := by simp [spanL]
theorem spanL_at (N P i : Nat) (h : i ≤ P) : (spanL N P).getD i 0 = (spanAt N P i : Nat) := by simp [spanL, List.getD, show i < P + 1 by omega]
theorem span_le (N P i : Nat) (h : i ≤ P) : spanAt N P i ≤ N := by
  unfold spanAt
  rcases Nat.eq_zero_or_pos P with e | e
  · subst e; simp
  · exact Nat.div_le_of_le_mul (Nat.mul_le_mul_right N h)
theorem span_mono (N P i j : Nat) (h : i ≤ j) : spanAt N P i ≤ spanAt N P j := Nat.div_le_div_right (Nat.mul_le_mul_right N h)
theorem span_zero (N P : Nat) : spanAt N P 0 = 0 := by unfold spanAt; simp
theorem span_end (N P : Nat) (h : 1 ≤ P) : spanAt N P P = N := by unfold spanAt; exact Nat.mul_div_cancel_left N (by omega)
theorem spanL_wf (N P : Nat) (h : N ≤ 1099511627776) : ∀ x ∈ spanL N P, (Lit.int .i64 x).wf = true := by
  intro x hx
  obtain ⟨i, hi, rfl⟩ := List.mem_map.1 hx
  have := span_le N P i (by have := List.mem_range.1 hi; omega)
  exact WalkArith.wf_i64 (by omega)

theorem spans_no (n p : Int) (h : spansB n p = false) (w : World) :
    Calls Try.prog 26 #[.int .i64 n, .int .i64 p] w fun e w' => e = .returned (.tuple #[.slice none 0 0, .int .i64 2]) ∧ w = w' := by
  unfold spansB at h
  have h := of_decide_eq_false h
  by_cases h1 : 0 ≤ n
  · by_cases h2 : n ≤ 1099511627776
    · by_cases h3 : 1 ≤ p
      · have h4 : 4096 < p := by omega
        clear h
        go_enter Try.func26, Try.ntmps26
        go_wp2
        go_ret2
        exact ⟨rfl, rfl⟩
      · clear h
        go_enter Try.func26, Try.ntmps26
        go_wp2
        go_ret2
        exact ⟨rfl, rfl⟩
    · clear h
      go_enter Try.func26, Try.ntmps26
      go_wp2
      go_ret2
      exact ⟨rfl, rfl⟩
  · clear h
    go_enter Try.func26, Try.ntmps26
    go_wp2
    go_ret2
    exact ⟨rfl, rfl⟩

/-- the parts that came without an error -/
def NewSpans (w0 w : World) (N P : Nat) (e : Ending) : Prop :=
  ∃ g, e = .returned (.tuple #[.slice (some ⟨g, 0, none⟩) (P + 1) (P + 1), .int .i64 0]) ∧ w0.heap.size ≤ g ∧ Elems .i64 w (some ⟨g, 0, none⟩) (P + 1) (spanL N P)

set_option maxHeartbeats 800000 in
theorem spans_yes (N P : Nat) (hN : N ≤ 1099511627776) (hP1 : 1 ≤ P) (hP : P ≤ 4096) (w : World) :
    Calls Try.prog 26 #[.int .i64 N, .int .i64 P] w fun e w' => NewSpans w w' N P e ∧ Below w.heap.size w w' := by
  have hmk := run_make_row' (P := Try.prog) 53 3 (.int .i64 0) 8 Try.underlying53 infoInt rfl .i64 .i64 (P + 1) (by omega) (by omega)
  obtain ⟨L, hL⟩ : ∃ L, L = P + 1 := ⟨_, rfl⟩
  unfold NewSpans
  rw [← hL] at hmk ⊢
  have eL : (P : Int) + 1 = (L : Int) := by omega
  have M0 := mine_made .i64 w 3 L rfl
  have B0 := (Below.refl w.heap.size w).alloc (Nat.le_refl _) (.cells (madeCells #[Value.int .i64 0] L) 3)
  have HL := Lib.hid hL
  have hne : ¬ (P : Int) = 0 := by omega
  clear hL
  go_enter Try.func26, Try.ntmps26
  go_wp2
  go_loopw [27] (fun i wr => ∃ (k : Nat) (cs : List Int), k ≤ L ∧ i = .int .i64 k ∧ MineK .i64 wr w.heap.size 3 cs ∧ Hid (FilledBy (fun i => ((spanAt N P i : Nat) : Int)) L k cs) ∧ Below w.heap.size w wr) (fun i _ => L - (intOf i).toNat)
  case atStart => exact ⟨0, _, by omega, rfl, M0, Lib.hid (filledBy_start _ L), B0⟩
  case round =>
    clear M0 B0
    obtain ⟨k, cs, hk, rfl, hM, hfil, hbel⟩ := hrel
    by_cases hlt : k < L
    · obtain ⟨z, hz⟩ : ∃ z, z = k * N := ⟨_, rfl⟩
      have e1 : (k : Int) * (N : Int) = (z : Int) := by rw [hz]; push_cast; rfl
      have z1 : (z : Int) ≤ 4503599627370496 := by
        rw [← e1]
        have := Int.mul_le_mul (show (k : Int) ≤ 4096 by have := HL.out; omega) (show (N : Int) ≤ 1099511627776 by omega) (by omega) (by omega)
        omega
      have z0 : (0 : Int) ≤ (z : Int) := by omega
      obtain ⟨y, hy⟩ : ∃ y, y = z / P := ⟨_, rfl⟩
      have e2 : (z : Int) / (P : Int) = (y : Int) := by rw [hy]; push_cast; rfl
      have y0 : (0 : Int) ≤ (y : Int) := by omega
      have y1 : (y : Int) ≤ 4503599627370496 := by have : y ≤ z := by rw [hy]; exact Nat.div_le_self z P
                                                   omega
      have hys : spanAt N P k = y := by unfold spanAt; rw [← hz, hy]
      have hcell := hM.cell (k := k) (by rw [hfil.out.1]; exact hlt)
      have hfrz := hM.frozen k
      have hM2 := hM.set k y
      have hf2 : Hid (FilledBy (fun i => ((spanAt N P i : Nat) : Int)) L (k + 1) (cs.set k y)) := Lib.hid (by rw [← hys]; exact filledBy_step hfil.out hlt)
      have B3 := hbel.setCell (p := ⟨w.heap.size, k, none⟩) (Nat.le_refl _) (.int .i64 y)
      obtain ⟨c, hcc⟩ : ∃ c, cs.getD k 0 = c := ⟨_, rfl⟩
      rw [hcc] at hcell
      clear hM hfil hbel hcc hz hy hys
      go_wp2
      go_roundw
      case rel => exact ⟨k + 1, _, by omega, by go_num, hM2, hf2, B3⟩
      case measure => simp [intOf]; omega
    · obtain rfl : k = L := by omega
      have hcs : cs = spanL N P := by
        have hl := HL.out
        refine List.ext_getElem? fun i => ?_
        by_cases hi : i < k
        · have h3 := hfil.out.2 i hi
          rw [if_pos hi] at h3
          have h4 := spanL_at N P i (by omega)
          rw [List.getD_eq_getElem?_getD, List.getElem?_eq_getElem (by rw [hfil.out.1]; exact hi)] at h3
          rw [List.getD_eq_getElem?_getD, List.getElem?_eq_getElem (by rw [spanL_length]; omega)] at h4
          rw [List.getElem?_eq_getElem (by rw [hfil.out.1]; exact hi), List.getElem?_eq_getElem (by rw [spanL_length]; omega)]
          simp only [Option.getD_some] at h3 h4
          rw [h3, h4]
        · rw [List.getElem?_eq_none (by rw [hfil.out.1]; omega), List.getElem?_eq_none (by rw [spanL_length]; omega)]
      rw [hcs] at hM
      have hE2 := hM.elems (n := k) (by rw [spanL_length, HL.out]) (by have := HL.out; omega) (spanL_wf N P hN)
      clear hcs hM hfil
      go_wp2
      go_ret2
      exact ⟨⟨_, rfl, Nat.le_refl _, hE2⟩, hbel⟩

end Go.Proofs.Ytkiedganojaniaa
