/-
  Are matrices of given sides? The document's mat, the code's sided and odd.
-/
import Derived.Test.YtgbbfmpofmeadaaWt7
import Derived.Test.YtgbbfmpofmeadaaRunsAll
namespace Go.Proofs.Ytgbbfmpofmeadaa
open Go.RowKit
set_option linter.unusedVariables false

/-- is a matrix of these sides? -/
def matB (r c : Nat) (g : Gr) : Bool := decide (g.r = r) && (decide (g.c = c) && decide (g.n = r * c))
/-- has it these sides, whatever its numbers? -/
def sidB (r c : Nat) (g : Gr) : Bool := decide (g.r = r) && decide (g.c = c)
theorem matB_fit {r c : Nat} (h0 : r ≤ 4096) (h1 : c ≤ 4096) (h2 : r * c ≤ 1048576) (g : Gr) : matB r c g = (sidB r c g && fitB g.r g.c g.n) := by
  unfold matB sidB
  by_cases e1 : g.r = r
  · by_cases e2 : g.c = c
    · have s1 : sideB g.r = true := by unfold sideB; exact decide_eq_true (by omega)
      have s2 : sideB g.c = true := by unfold sideB; exact decide_eq_true (by omega)
      unfold fitB rightB
      rw [s1, s2, decide_eq_true e1, decide_eq_true e2, e1, e2]
      by_cases e3 : g.n = r * c
      · rw [decide_eq_true e3, decide_eq_true (show (g.n : Int) = (r : Int) * c by rw [e3]; push_cast; rfl), decide_eq_true (by omega)]; rfl
      · have h5 : ((r * c : Nat) : Int) = (r : Int) * c := by push_cast; rfl
        have this : ¬ (g.n : Int) = (r : Int) * c := by rw [← h5]; omega
        rw [decide_eq_false e3, decide_eq_false this]; rfl
    · rw [decide_eq_false e2]; simp
  · rw [decide_eq_false e1]; simp
theorem all_and {α : Type} (p q : α → Bool) (l : List α) : l.all (fun x => p x && q x) = (l.all p && l.all q) := by
  induction l with
  | nil => rfl
  | cons x l ih => simp only [List.all_cons, ih]; cases p x <;> cases q x <;> simp
theorem sid_fit {r c : Nat} (h0 : r ≤ 4096) (h1 : c ≤ 4096) (h2 : r * c ≤ 1048576) (gs : List Gr) : gs.all (matB r c) = (gs.all (sidB r c) && fitAll gs) := by
  unfold fitAll
  rw [← all_and]
  congr 1
  funext g
  exact matB_fit h0 h1 h2 g

set_option maxHeartbeats 800000 in
theorem doc_mat (g : Gr) (r c : Nat) (hr : r ≤ 1000) (hc : c ≤ 1000) (hn : g.n ≤ 9223372036854775807) (w : World) :
    Calls Try.prog 23 #[.agg #[.int .i64 g.r, .int .i64 g.c, .slice g.a g.n g.cap], .int .i64 r, .int .i64 c] w fun e w' => e = .returned (.bool (matB r c g)) ∧ Below w.heap.size w w' := by
  obtain ⟨gr, gc, ga, gn, gcap, gv⟩ := g
  unfold matB
  simp only at hn ⊢
  have hp : r * c ≤ 1000 * 1000 := Nat.mul_le_mul hr hc
  by_cases h1 : gr = r
  · by_cases h2 : gc = c
    · obtain ⟨q, hq⟩ : ∃ q, r * c = q := ⟨_, rfl⟩
      have e1 : (r : Int) * c = (q : Int) := by rw [← hq]; push_cast; rfl
      rw [decide_eq_true h1, decide_eq_true h2, hq]
      rw [hq] at hp
      clear hq
      subst h1 h2
      by_cases h3 : gn = q
      · rw [decide_eq_true h3]
        subst h3
        go_enter Try.func23, Try.ntmps23
        go_wp2
        go_ret
        exact ⟨rfl, (Below.refl _ _).alloc (Nat.le_refl _) _⟩
      · rw [decide_eq_false h3]
        have e3 : ((gn : Int) == (q : Int)) = false := by simp; omega
        go_enter Try.func23, Try.ntmps23
        go_wp2
        go_ret
        exact ⟨rfl, (Below.refl _ _).alloc (Nat.le_refl _) _⟩
    · rw [decide_eq_true h1, decide_eq_false h2]
      subst h1
      have e3 : (gc == (c : Int)) = false := by simp; omega
      go_enter Try.func23, Try.ntmps23
      go_wp2
      go_ret
      exact ⟨rfl, (Below.refl _ _).alloc (Nat.le_refl _) _⟩
  · rw [decide_eq_false h1]
    have e3 : (gr == (r : Int)) = false := by simp; omega
    go_enter Try.func23, Try.ntmps23
    go_wp2
    go_ret
    exact ⟨rfl, (Below.refl _ _).alloc (Nat.le_refl _) _⟩

set_option maxHeartbeats 1600000 in
theorem sided_any (r c : Nat) (hr : r ≤ 1000) (hc : c ≤ 1000) (hp : r * c ≤ 1048576) (a : Option Addr) (n cap : Nat) (gs : List Gr) (w : World) (h : Mats w a n gs) :
    Calls Try.prog 28 #[.int .i64 r, .int .i64 c, .slice a n cap] w fun e w' => e = .returned (.bool (gs.all (matB r c))) ∧ Below w.heap.size w w' := by
  have hn := h.2.1
  have hl := Lib.hid h.1
  have HS := Lib.hid (sid_fit (r := r) (c := c) (by omega) (by omega) hp gs)
  have HH := Lib.hid h
  clear h hp
  go_enter Try.func28, Try.ntmps28
  go_wp2
  go_loopw [11] (fun i wr => ∃ k : Nat, k ≤ n ∧ i = .int .i64 k ∧ Hid ((gs.take k).all (sidB r c) = true) ∧ Hid (Below w.heap.size w wr)) (fun i _ => n - (intOf i).toNat)
  case atStart => exact ⟨0, by omega, rfl, Lib.hid (by simp), Lib.hid (Below.refl _ _)⟩
  case round =>
    obtain ⟨k, hk, rfl, ht, hbel⟩ := hrel
    by_cases hlt : k < n
    · obtain ⟨b, off, g, rfl, hbl, c0, c1, c2, hg, hin⟩ := (HH.out.below hbel.out).at_ hlt
      obtain ⟨hst, hend⟩ := all_step (sidB r c) gs k (by rw [hl.out]; exact hlt) g hg.out ht.out
      have HB := Lib.hid (hbel.out.alloc hbel.out.size (.cells #[.int .i64 g.r, .int .i64 g.c, .slice g.a g.n g.cap] 29))
      obtain ⟨gr, gc, ga, m, gcap, v⟩ := g
      simp only at c0 c1 c2 HB
      by_cases h1 : gr = r
      · by_cases h2 : gc = c
        · have R2 : Hid ((gs.take (k + 1)).all (sidB r c) = true) := Lib.hid (by rw [hst]; unfold sidB; rw [decide_eq_true h1, decide_eq_true h2]; rfl)
          subst h1 h2
          clear hst hend hg hin
          go_wp2
          go_roundw
          case rel => exact ⟨k + 1, by omega, by go_num, R2, HB⟩
          case measure => simp [intOf]; omega
        · have R2 : Hid (gs.all (matB r c) = false) := Lib.hid (by rw [HS.out, hend (by unfold sidB; rw [decide_eq_false h2]; simp)]; rfl)
          have e3 : (gc != (c : Int)) = true := by simp; omega
          subst h1
          clear hst hend hg hin
          go_wp2
          go_ret
          exact ⟨ret_bool R2.out.symm, HB.out⟩
      · have R2 : Hid (gs.all (matB r c) = false) := Lib.hid (by rw [HS.out, hend (by unfold sidB; rw [decide_eq_false h1]; simp)]; rfl)
        have e3 : (gr != (r : Int)) = true := by simp; omega
        clear hst hend hg hin
        go_wp2
        go_ret
        exact ⟨ret_bool R2.out.symm, HB.out⟩
    · obtain rfl : k = n := by omega
      have R : Hid (gs.all (matB r c) = fitAll gs) := Lib.hid (by
        have h1 := ht.out
        rw [List.take_of_length_le (by rw [hl.out]; omega)] at h1
        rw [HS.out, h1]; rfl)
      have hm := mright_any a k cap gs wr (HH.out.below hbel.out)
      go_wp2_with fail
      refine hm.mono ?_
      rintro e w' ⟨rfl, hb⟩
      have HB := Lib.hid (below_two hbel.out hb)
      clear hb hm
      go_wp2
      go_ret
      exact ⟨ret_bool R.out.symm, HB.out⟩

end Go.Proofs.Ytgbbfmpofmeadaa
