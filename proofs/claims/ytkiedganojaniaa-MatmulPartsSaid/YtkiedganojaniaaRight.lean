/-
  Contracts of within, Right and handy, of any slice of sides or of grids, and of the document's Right and Fit.
-/
import Derived.Test.YtkiedganojaniaaGrids
namespace Go.Proofs.Ytkiedganojaniaa
open Go.RowKit
set_option linter.unusedVariables false

theorem within_any (a : Option Addr) (n cap : Nat) (xs : List Int) (w : World) (h : Elems .i64 w a n xs) :
    Calls Try.prog 44 #[.slice a n cap] w fun e w' => e = .returned (.bool (xs.all sideB)) ∧ w = w' := by
  have hn := h.2.1
  have hl := Lib.hid h.1
  go_enter Try.func44, Try.ntmps44
  go_wp2
  go_loop [7] (fun i => ∃ k : Nat, k ≤ n ∧ i = .int .i64 k ∧ Hid ((xs.take k).all sideB = true)) (fun i => n - (intOf i).toNat)
  case atStart => exact ⟨0, by omega, rfl, Lib.hid (by simp)⟩
  case round =>
    obtain ⟨k, hk, rfl, ht⟩ := hrel
    by_cases hlt : k < n
    · obtain ⟨b, off, v, rfl, hc, hv, wv⟩ := h.at_ hlt
      have hst : Hid ((xs.take (k + 1)).all sideB = sideB v) := Lib.hid (by
        rw [List.take_add_one, List.all_append, ht.out, Bool.true_and, ← hv.out]
        simp [List.getD, List.getElem?_eq_getElem (show k < xs.length by rw [hl.out]; exact hlt)])
      have hend : sideB v = false → Hid (xs.all sideB = false) := fun e => Lib.hid (by
        have h2 := hst.out
        rw [e] at h2
        rw [← Bool.not_eq_true] at h2 ⊢
        intro h3
        apply h2
        rw [List.all_eq_true] at h3 ⊢
        exact fun x hx => h3 x (List.mem_of_mem_take hx))
      clear h hv wv ht
      cases hs : sideB v with
      | true =>
        have := sideB_yes hs
        have hst2 : Hid ((xs.take (k + 1)).all sideB = true) := Lib.hid (by rw [hst.out, hs])
        clear hst hend hs
        go_wp2
        go_round
        case rel => exact ⟨k + 1, by omega, by go_num, hst2⟩
        case measure => simp [intOf]; omega
      | false =>
        have hh := hend hs
        rcases sideB_no hs with hv | hv
        all_goals
          clear hst hend hs
          go_wp2
          go_ret
          exact ⟨ret_bool hh.out.symm, rfl⟩
    · clear h
      obtain rfl : k = n := by omega
      go_wp2
      go_ret
      exact ⟨ret_bool (by rw [← ht.out, List.take_of_length_le (by rw [hl.out]; omega)]), rfl⟩

/-- are all of them right? -/
def rightAll (gs : List Gr) : Bool := gs.all fun g => rightB g.r g.c g.n

theorem all_step {α : Type} [Inhabited α] (p : α → Bool) (gs : List α) (k : Nat) (hk : k < gs.length) (g : α) (hg : gs.getD k default = g) (ht : (gs.take k).all p = true) :
    (gs.take (k + 1)).all p = p g ∧ (p g = false → gs.all p = false) := by
  have h1 : (gs.take (k + 1)).all p = p g := by
    rw [List.take_add_one, List.all_append, ht, Bool.true_and, ← hg]
    simp [List.getD, List.getElem?_eq_getElem hk]
  refine ⟨h1, fun e => ?_⟩
  rw [e] at h1
  rw [← Bool.not_eq_true] at h1 ⊢
  intro h3
  apply h1
  rw [List.all_eq_true] at h3 ⊢
  exact fun x hx => h3 x (List.mem_of_mem_take hx)

theorem two_elems {w : World} {T : TypeId} {b : Nat} {p q : Int} (hb : b = w.heap.size) (hp : -9223372036854775808 ≤ p ∧ p ≤ 9223372036854775807) (hq : -9223372036854775808 ≤ q ∧ q ≤ 9223372036854775807) :
    Elems .i64 (w.alloc (.cells #[.int .i64 p, .int .i64 q] T)) (some ⟨b, 0, none⟩) 2 [p, q] := by
  subst hb
  exact pair_elems (by simp) (by simp) (WalkArith.wf_i64 hp) (WalkArith.wf_i64 hq)
theorem two_sides (p q : Int) : [p, q].all sideB = (sideB p && sideB q) := by simp

theorem within_two (p q : Int) (x : Bool) (hx : (sideB p && sideB q) = x) (b cap : Nat) (w : World) (h : Elems .i64 w (some ⟨b, 0, none⟩) 2 [p, q]) :
    Calls Try.prog 44 #[.slice (some ⟨b, 0, none⟩) 2 cap] w fun e w' => e = .returned (.bool x) ∧ w = w' := by
  rw [← hx, ← two_sides]; exact within_any _ _ _ _ _ h

set_option maxHeartbeats 800000 in
theorem right_any (a : Option Addr) (n cap : Nat) (gs : List Gr) (w : World) (h : Grids w a n gs) :
    Calls Try.prog 36 #[.slice a n cap] w fun e w' => e = .returned (.bool (rightAll gs)) ∧ Below w.heap.size w w' := by
  have hn := h.2.1
  have hl := Lib.hid h.1
  go_enter Try.func36, Try.ntmps36
  go_wp2
  go_loopw [7] (fun i wr => ∃ k : Nat, k ≤ n ∧ i = .int .i64 k ∧ Hid ((gs.take k).all (fun g => rightB g.r g.c g.n) = true) ∧ Below w.heap.size w wr) (fun i _ => n - (intOf i).toNat)
  case atStart => exact ⟨0, by omega, rfl, Lib.hid (by simp), Below.refl _ _⟩
  case round =>
    obtain ⟨k, hk, rfl, ht, hbel⟩ := hrel
    by_cases hlt : k < n
    · obtain ⟨b, off, g, rfl, hbl, c0, c1, c2, hg, hin⟩ := (h.below hbel).at_ hlt
      obtain ⟨hst, hend⟩ := all_step (fun g => rightB g.r g.c g.n) gs k (by rw [hl.out]; exact hlt) g hg.out ht.out
      have HST := Lib.hid hst
      have HEND := Lib.hid hend
      obtain ⟨hE, _, _, _, r0, r1, q0, q1⟩ := hin
      have hn2 := hE.2.1
      obtain ⟨r, c, ga, m, gcap, v⟩ := g
      have hs := hbel.size
      simp only at c0 c1 c2 r0 r1 q0 q1 hn2
      have B : ∀ x y, Below w.heap.size w ((wr.alloc x).alloc y) := fun x y => (hbel.alloc hs x).alloc (by simp; omega) y
      clear h hg ht hst hend hE
      cases hsd : (sideB r && sideB c) with
      | false =>
        have R : Hid (rightAll gs = false) := Lib.hid (HEND.out (by unfold rightB; rw [← Bool.and_assoc, hsd]; rfl))
        go_wp2_with fail
        refine (within_two r c false hsd _ _ _ (two_elems (by simp) ⟨r0, r1⟩ ⟨q0, q1⟩)).mono ?_
        rintro e wb ⟨rfl, rfl⟩
        clear hsd
        go_wp2
        go_ret
        exact ⟨ret_bool R.out.symm, B _ _⟩
      | true =>
        have hsd2 := hsd
        simp only [Bool.and_eq_true] at hsd2
        have s1 := sideB_yes hsd2.1
        have s2 := sideB_yes hsd2.2
        obtain ⟨R, rfl⟩ : ∃ R : Nat, r = R := ⟨r.toNat, by omega⟩
        obtain ⟨C, rfl⟩ : ∃ C : Nat, c = C := ⟨c.toNat, by omega⟩
        have p0 : (0 : Int) ≤ (R : Int) * C := Int.mul_nonneg (by omega) (by omega)
        have p1 : (R : Int) * C ≤ 4096 * 4096 := Int.mul_le_mul s1.2 s2.2 (by omega) (by omega)
        by_cases he : (m : Int) = (R : Int) * C
        · have R2 : Hid ((gs.take (k + 1)).all (fun g => rightB g.r g.c g.n) = true) := Lib.hid (by rw [HST.out]; unfold rightB; rw [← Bool.and_assoc, hsd, decide_eq_true he]; rfl)
          clear HST HEND
          go_wp2_with fail
          refine (within_two R C true hsd _ _ _ (two_elems (by simp) ⟨r0, r1⟩ ⟨q0, q1⟩)).mono ?_
          rintro e wb ⟨rfl, rfl⟩
          clear hsd hsd2
          go_wp2
          go_roundw
          case rel => exact ⟨k + 1, by omega, by go_num, R2, B _ _⟩
          case measure => simp [intOf]; omega
        · have R2 : Hid (rightAll gs = false) := Lib.hid (HEND.out (by unfold rightB; rw [← Bool.and_assoc, hsd, decide_eq_false he]; rfl))
          clear HST HEND
          go_wp2_with fail
          refine (within_two R C true hsd _ _ _ (two_elems (by simp) ⟨r0, r1⟩ ⟨q0, q1⟩)).mono ?_
          rintro e wb ⟨rfl, rfl⟩
          clear hsd hsd2
          go_wp2
          go_ret
          exact ⟨ret_bool R2.out.symm, B _ _⟩
    · clear h
      obtain rfl : k = n := by omega
      have R : Hid (rightAll gs = true) := Lib.hid (by unfold rightAll; rw [← ht.out, List.take_of_length_le (by rw [hl.out]; omega)])
      go_wp2
      go_ret
      exact ⟨ret_bool R.out.symm, hbel⟩

/-- are all of them right, and not too large? -/
def fitAll (gs : List Gr) : Bool := gs.all fun g => fitB g.r g.c g.n

theorem right_one (g : Gr) (x : Bool) (hx : rightB g.r g.c g.n = x) (b cap : Nat) (w : World) (h : Grids w (some ⟨b, 0, none⟩) 1 [g]) :
    Calls Try.prog 36 #[.slice (some ⟨b, 0, none⟩) 1 cap] w fun e w' => e = .returned (.bool x) ∧ Below w.heap.size w w' := by
  rw [← hx, show rightB g.r g.c g.n = rightAll [g] by simp [rightAll]]; exact right_any _ _ _ _ _ h


/-! ### the document's -/

theorem ref_right (r c : Int) (a : Option Addr) (n cap : Nat) (w : World) (hn : n ≤ 9223372036854775807) :
    Calls Try.prog 38 #[.agg #[.int .i64 r, .int .i64 c, .slice a n cap]] w fun e w' => e = .returned (.bool (rightB r c n)) ∧ Below w.heap.size w w' := by
  have B : ∀ x, Below w.heap.size w (w.alloc x) := fun x => (Below.refl _ _).alloc (Nat.le_refl _) x
  cases h1 : sideB r with
  | false =>
    have R : Hid (rightB r c n = false) := Lib.hid (by unfold rightB; rw [h1]; rfl)
    rcases sideB_no h1 with h | h
    · clear h1
      go_enter Try.func38, Try.ntmps38
      go_wp2
      go_ret
      exact ⟨ret_bool R.out.symm, B _⟩
    · clear h1
      by_cases hc : 0 ≤ c
      all_goals
        go_enter Try.func38, Try.ntmps38
        go_wp2
        go_ret
        exact ⟨ret_bool R.out.symm, B _⟩
  | true =>
    have s1 := sideB_yes h1
    cases h2 : sideB c with
    | false =>
      have R : Hid (rightB r c n = false) := Lib.hid (by unfold rightB; rw [h1, h2]; rfl)
      rcases sideB_no h2 with h | h
      all_goals
        clear h1 h2
        go_enter Try.func38, Try.ntmps38
        go_wp2
        go_ret
        exact ⟨ret_bool R.out.symm, B _⟩
    | true =>
      have s2 := sideB_yes h2
      obtain ⟨R, rfl⟩ : ∃ R : Nat, r = R := ⟨r.toNat, by omega⟩
      obtain ⟨C, rfl⟩ : ∃ C : Nat, c = C := ⟨c.toNat, by omega⟩
      have p0 : (0 : Int) ≤ (R : Int) * C := Int.mul_nonneg (by omega) (by omega)
      have p1 : (R : Int) * C ≤ 4096 * 4096 := Int.mul_le_mul s1.2 s2.2 (by omega) (by omega)
      have E : Hid (rightB R C n = decide ((n : Int) = R * C)) := Lib.hid (by unfold rightB; rw [h1, h2]; rfl)
      by_cases he : (n : Int) = (R : Int) * C
      · have E2 : Hid (rightB R C n = true) := Lib.hid (by rw [E.out, decide_eq_true he])
        clear h1 h2 E
        go_enter Try.func38, Try.ntmps38
        go_wp2
        go_ret
        exact ⟨ret_bool E2.out.symm, B _⟩
      · have E2 : Hid (rightB R C n = false) := Lib.hid (by rw [E.out, decide_eq_false he])
        clear h1 h2 E
        go_enter Try.func38, Try.ntmps38
        go_wp2
        go_ret
        exact ⟨ret_bool ((beq_eq_false_iff_ne.2 he).trans E2.out.symm), B _⟩

theorem ref_right_c (r c : Int) (a : Option Addr) (n cap : Nat) (w : World) (hn : n ≤ 9223372036854775807) (x : Bool) (hx : rightB r c n = x) :
    Calls Try.prog 38 #[.agg #[.int .i64 r, .int .i64 c, .slice a n cap]] w fun e w' => e = .returned (.bool x) ∧ Below w.heap.size w w' := by
  rw [← hx]; exact ref_right r c a n cap w hn

theorem ref_fit (r c : Int) (a : Option Addr) (n cap : Nat) (w : World) (hn : n ≤ 9223372036854775807) (x : Bool) (hx : fitB r c n = x) :
    Calls Try.prog 24 #[.agg #[.int .i64 r, .int .i64 c, .slice a n cap]] w fun e w' => e = .returned (.bool x) ∧ Below w.heap.size w w' := by
  have B : ∀ o wb, Below (w.alloc o).heap.size (w.alloc o) wb → Below w.heap.size w wb := fun o wb hb => below_two ((Below.refl _ _).alloc (Nat.le_refl _) o) hb
  have hlt : w.heap.size < (w.alloc (.cells #[.int .i64 r, .int .i64 c, .slice a n cap] 43)).heap.size := by simp
  cases hsd : rightB r c n with
  | false =>
    obtain rfl : x = false := by rw [← hx]; simp only [fitB, hsd, Bool.false_and]
    clear hx
    go_enter Try.func24, Try.ntmps24
    go_wp2_with fail
    refine (ref_right_c _ _ _ _ _ _ hn false hsd).mono ?_
    rintro e wb ⟨rfl, hb⟩
    clear hsd
    go_wp2
    go_ret
    exact ⟨rfl, B _ _ hb⟩
  | true =>
    by_cases he : n ≤ 1048576
    · obtain rfl : x = true := by rw [← hx]; simp only [fitB, hsd, decide_eq_true he]; rfl
      clear hx
      go_enter Try.func24, Try.ntmps24
      go_wp2_with fail
      refine (ref_right_c _ _ _ _ _ _ hn true hsd).mono ?_
      rintro e wb ⟨rfl, hb⟩
      have hc := hb.cell (p := ⟨w.heap.size, 2, none⟩) hlt
      simp at hc
      clear hsd
      go_wp2
      go_ret
      exact ⟨ret_bool (decide_eq_true (by omega)), B _ _ hb⟩
    · obtain rfl : x = false := by rw [← hx]; simp only [fitB, hsd, decide_eq_false he]; rfl
      clear hx
      go_enter Try.func24, Try.ntmps24
      go_wp2_with fail
      refine (ref_right_c _ _ _ _ _ _ hn true hsd).mono ?_
      rintro e wb ⟨rfl, hb⟩
      have hc := hb.cell (p := ⟨w.heap.size, 2, none⟩) hlt
      simp at hc
      clear hsd
      go_wp2
      go_ret
      exact ⟨ret_bool (decide_eq_false (by omega)), B _ _ hb⟩

end Go.Proofs.Ytkiedganojaniaa
