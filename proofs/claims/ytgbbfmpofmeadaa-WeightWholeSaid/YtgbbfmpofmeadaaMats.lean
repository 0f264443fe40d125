/-
  Matrices as they stand in memory: one by value, a slice of them; contracts of layer 4's within, Right, line, inside, and of the document's Right.
-/
import Derived.Test.YtgbbfmpofmeadaaRight
import Derived.Test.YtgbbfmpofmeadaaLine
import Derived.Test.YtgbbfmpofmeadaaMine
namespace Go.Proofs.Ytgbbfmpofmeadaa
open Go.RowKit
set_option linter.unusedVariables false

/-- the matrix g may stand so in w -/
def Gr.In8 (w : World) (g : Gr) : Prop :=
  Elems .i8 w g.a g.n g.v ∧ g.n ≤ g.cap ∧ g.cap ≤ 9223372036854775807 ∧ Sl g.a g.cap ∧ -9223372036854775808 ≤ g.r ∧ g.r ≤ 9223372036854775807 ∧ -9223372036854775808 ≤ g.c ∧ g.c ≤ 9223372036854775807

theorem Gr.In8.below {w w' : World} {g : Gr} (h : g.In8 w) (hb : Below w.heap.size w w') : g.In8 w' := ⟨h.1.below hb, h.2⟩

/-- A slice of matrices at a (a matters only where n is above 0). -/
def Mats (w : World) (a : Option Addr) (n : Nat) (gs : List Gr) : Prop :=
  gs.length = n ∧ n ≤ 9223372036854775807 ∧ (∀ g ∈ gs, g.In8 w) ∧
    (0 < n → ∃ b off, a = some ⟨b, off, none⟩ ∧ ∀ i, i < n → w.cell? ⟨b, off + i * 3, none⟩ = some (.int .i64 (gs.getD i default).r) ∧ w.cell? ⟨b, off + i * 3 + 1, none⟩ = some (.int .i64 (gs.getD i default).c) ∧
      w.cell? ⟨b, off + i * 3 + 2, none⟩ = some (.slice (gs.getD i default).a (gs.getD i default).n (gs.getD i default).cap))

theorem Mats.below {w w' : World} {a : Option Addr} {n : Nat} {gs : List Gr} (h : Mats w a n gs) (hb : Below w.heap.size w w') : Mats w' a n gs := by
  refine ⟨h.1, h.2.1, fun g hg => (h.2.2.1 g hg).below hb, fun hn => ?_⟩
  obtain ⟨b, off, rfl, hc⟩ := h.2.2.2 hn
  refine ⟨b, off, rfl, fun i hi => ?_⟩
  obtain ⟨h0, h1, h2⟩ := hc i hi
  exact ⟨(hb.cell (p := ⟨b, _, none⟩) (World.block_lt_of_cell? _ _ h0)).trans h0, (hb.cell (p := ⟨b, _, none⟩) (World.block_lt_of_cell? _ _ h1)).trans h1, (hb.cell (p := ⟨b, _, none⟩) (World.block_lt_of_cell? _ _ h2)).trans h2⟩

/-- one of them, as a round of a loop wants it -/
theorem Mats.at_ {w : World} {a : Option Addr} {n : Nat} {gs : List Gr} (h : Mats w a n gs) {i : Nat} (hi : i < n) :
    ∃ b off g, a = some ⟨b, off, none⟩ ∧ b < w.heap.size ∧ w.cell? ⟨b, off + i * 3, none⟩ = some (.int .i64 g.r) ∧ w.cell? ⟨b, off + i * 3 + 1, none⟩ = some (.int .i64 g.c) ∧ w.cell? ⟨b, off + i * 3 + 2, none⟩ = some (.slice g.a g.n g.cap) ∧
      Hid (gs.getD i default = g) ∧ g.In8 w := by
  obtain ⟨b, off, rfl, hc⟩ := h.2.2.2 (by omega)
  obtain ⟨h0, h1, h2⟩ := hc i hi
  refine ⟨b, off, _, rfl, World.block_lt_of_cell? _ _ h0, h0, h1, h2, Lib.hid rfl, h.2.2.1 _ ?_⟩
  rw [List.getD_eq_getElem?_getD, List.getElem?_eq_getElem (by rw [h.1]; exact hi)]
  exact List.getElem_mem _

theorem Mats.nil_ (w : World) (a : Option Addr) : Mats w a 0 [] := ⟨rfl, by omega, by simp, fun h => absurd h (by omega)⟩

/-- one matrix, laid in a block of its own -/
theorem mats_one {w : World} {T : TypeId} {b : Nat} (g : Gr) (h : g.In8 w) (hb : b = w.heap.size) : Mats (w.alloc (.cells #[.int .i64 g.r, .int .i64 g.c, .slice g.a g.n g.cap] T)) (some ⟨b, 0, none⟩) 1 [g] := by
  subst hb
  refine ⟨rfl, by omega, ?_, fun _ => ⟨w.heap.size, 0, rfl, fun i hi => ?_⟩⟩
  · intro x hx
    simp only [List.mem_singleton] at hx
    subst hx
    exact h.below ((Below.refl _ _).alloc (Nat.le_refl _) _)
  · obtain rfl : i = 0 := by omega
    simp only [World.cell?_alloc_new]
    exact ⟨rfl, rfl, rfl⟩
/-- two matrices, laid in a block of their own -/
theorem mats_two {w : World} {T : TypeId} {b : Nat} (g k : Gr) (h : g.In8 w) (h2 : k.In8 w) (hb : b = w.heap.size) : Mats (w.alloc (.cells #[.int .i64 g.r, .int .i64 g.c, .slice g.a g.n g.cap, .int .i64 k.r, .int .i64 k.c, .slice k.a k.n k.cap] T)) (some ⟨b, 0, none⟩) 2 [g, k] := by
  subst hb
  refine ⟨rfl, by omega, ?_, fun _ => ⟨w.heap.size, 0, rfl, fun i hi => ?_⟩⟩
  · intro x hx
    simp only [List.mem_cons, List.not_mem_nil, or_false] at hx
    rcases hx with rfl | rfl
    · exact h.below ((Below.refl _ _).alloc (Nat.le_refl _) _)
    · exact h2.below ((Below.refl _ _).alloc (Nat.le_refl _) _)
  · match i, hi with
    | 0, _ => simp only [World.cell?_alloc_new]; exact ⟨rfl, rfl, rfl⟩
    | 1, _ => simp only [World.cell?_alloc_new]; exact ⟨rfl, rfl, rfl⟩

theorem mwithin_any (a : Option Addr) (n cap : Nat) (xs : List Int) (w : World) (h : Elems .i64 w a n xs) :
    Calls Try.prog 35 #[.slice a n cap] w fun e w' => e = .returned (.bool (xs.all sideB)) ∧ w = w' := by
  have hn := h.2.1
  have hl := Lib.hid h.1
  go_enter Try.func35, Try.ntmps35
  go_wp2
  go_loop [7] (fun i => ∃ k : Nat, k ≤ n ∧ i = .int .i64 k ∧ Hid ((xs.take k).all sideB = true)) (fun i => n - (intOf i).toNat)
  case atStart => exact ⟨0, by omega, rfl, Lib.hid (by simp)⟩
  case round =>
    obtain ⟨k, hk, rfl, ht⟩ := hrel
    by_cases hlt : k < n
    · obtain ⟨b, off, v, rfl, hc, hv, wv⟩ := h.at_ hlt
      have hst : Hid ((xs.take (k + 1)).all sideB = sideB v) := Lib.hid (by
        rw [List.take_add_one, List.all_append, ht.out, Bool.true_and, ← hv.out]
        simp [List.getD, List.getElem?_eq_getElem (show k < xs.length by rw [hl.out]; exact hlt)])
      have hend : sideB v = false → Hid (xs.all sideB = false) := fun e => Lib.hid (by
        have h2 := hst.out
        rw [e] at h2
        rw [← Bool.not_eq_true] at h2 ⊢
        intro h3
        apply h2
        rw [List.all_eq_true] at h3 ⊢
        exact fun x hx => h3 x (List.mem_of_mem_take hx))
      clear h hv wv ht
      cases hs : sideB v with
      | true =>
        have := sideB_yes hs
        have hst2 : Hid ((xs.take (k + 1)).all sideB = true) := Lib.hid (by rw [hst.out, hs])
        clear hst hend hs
        go_wp2
        go_round
        case rel => exact ⟨k + 1, by omega, by go_num, hst2⟩
        case measure => simp [intOf]; omega
      | false =>
        have hh := hend hs
        rcases sideB_no hs with hv | hv
        all_goals
          clear hst hend hs
          go_wp2
          go_ret
          exact ⟨ret_bool hh.out.symm, rfl⟩
    · clear h
      obtain rfl : k = n := by omega
      go_wp2
      go_ret
      exact ⟨ret_bool (by rw [← ht.out, List.take_of_length_le (by rw [hl.out]; omega)]), rfl⟩

theorem mwithin_two (p q : Int) (x : Bool) (hx : (sideB p && sideB q) = x) (b cap : Nat) (w : World) (h : Elems .i64 w (some ⟨b, 0, none⟩) 2 [p, q]) :
    Calls Try.prog 35 #[.slice (some ⟨b, 0, none⟩) 2 cap] w fun e w' => e = .returned (.bool x) ∧ w = w' := by
  rw [← hx, ← two_sides]; exact mwithin_any _ _ _ _ _ h

set_option maxHeartbeats 800000 in
theorem mright_any (a : Option Addr) (n cap : Nat) (gs : List Gr) (w : World) (h : Mats w a n gs) :
    Calls Try.prog 33 #[.slice a n cap] w fun e w' => e = .returned (.bool (fitAll gs)) ∧ Below w.heap.size w w' := by
  have hn := h.2.1
  have hl := Lib.hid h.1
  go_enter Try.func33, Try.ntmps33
  go_wp2
  go_loopw [7] (fun i wr => ∃ k : Nat, k ≤ n ∧ i = .int .i64 k ∧ Hid ((gs.take k).all (fun g => fitB g.r g.c g.n) = true) ∧ Below w.heap.size w wr) (fun i _ => n - (intOf i).toNat)
  case atStart => exact ⟨0, by omega, rfl, Lib.hid (by simp), Below.refl _ _⟩
  case round =>
    obtain ⟨k, hk, rfl, ht, hbel⟩ := hrel
    by_cases hlt : k < n
    · obtain ⟨b, off, g, rfl, hbl, c0, c1, c2, hg, hin⟩ := (h.below hbel).at_ hlt
      obtain ⟨hst, hend⟩ := all_step (fun g => fitB g.r g.c g.n) gs k (by rw [hl.out]; exact hlt) g hg.out ht.out
      have HST := Lib.hid hst
      have HEND := Lib.hid hend
      obtain ⟨hE, _, _, _, r0, r1, q0, q1⟩ := hin
      have hn2 := hE.2.1
      obtain ⟨r, c, ga, m, gcap, v⟩ := g
      have hs := hbel.size
      simp only at c0 c1 c2 r0 r1 q0 q1 hn2
      have B : ∀ x y, Below w.heap.size w ((wr.alloc x).alloc y) := fun x y => (hbel.alloc hs x).alloc (by simp; omega) y
      clear h hg ht hst hend hE
      cases hsd : (sideB r && sideB c) with
      | false =>
        have R : Hid (fitAll gs = false) := Lib.hid (HEND.out (by unfold fitB rightB; rw [← Bool.and_assoc, hsd]; rfl))
        go_wp2_with fail
        refine (mwithin_two r c false hsd _ _ _ (two_elems (by simp) ⟨r0, r1⟩ ⟨q0, q1⟩)).mono ?_
        rintro e wb ⟨rfl, rfl⟩
        clear hsd
        go_wp2
        go_ret
        exact ⟨ret_bool R.out.symm, B _ _⟩
      | true =>
        have hsd2 := hsd
        simp only [Bool.and_eq_true] at hsd2
        have s1 := sideB_yes hsd2.1
        have s2 := sideB_yes hsd2.2
        obtain ⟨R, rfl⟩ : ∃ R : Nat, r = R := ⟨r.toNat, by omega⟩
        obtain ⟨C, rfl⟩ : ∃ C : Nat, c = C := ⟨c.toNat, by omega⟩
        have p0 : (0 : Int) ≤ (R : Int) * C := Int.mul_nonneg (by omega) (by omega)
        have p1 : (R : Int) * C ≤ 4096 * 4096 := Int.mul_le_mul s1.2 s2.2 (by omega) (by omega)
        by_cases he : (m : Int) = (R : Int) * C
        · by_cases hz : m ≤ 1048576
          · have R2 : Hid ((gs.take (k + 1)).all (fun g => fitB g.r g.c g.n) = true) := Lib.hid (by rw [HST.out]; unfold fitB rightB; rw [← Bool.and_assoc, hsd, decide_eq_true he, decide_eq_true hz]; rfl)
            clear HST HEND
            go_wp2_with fail
            refine (mwithin_two R C true hsd _ _ _ (two_elems (by simp) ⟨r0, r1⟩ ⟨q0, q1⟩)).mono ?_
            rintro e wb ⟨rfl, rfl⟩
            clear hsd hsd2
            go_wp2
            go_roundw
            case rel => exact ⟨k + 1, by omega, by go_num, R2, B _ _⟩
            case measure => simp [intOf]; omega
          · have R2 : Hid (fitAll gs = false) := Lib.hid (HEND.out (by unfold fitB rightB; rw [← Bool.and_assoc, hsd, decide_eq_true he, decide_eq_false hz]; rfl))
            clear HST HEND
            go_wp2_with fail
            refine (mwithin_two R C true hsd _ _ _ (two_elems (by simp) ⟨r0, r1⟩ ⟨q0, q1⟩)).mono ?_
            rintro e wb ⟨rfl, rfl⟩
            clear hsd hsd2
            go_wp2
            go_ret
            exact ⟨ret_bool R2.out.symm, B _ _⟩
        · have R2 : Hid (fitAll gs = false) := Lib.hid (HEND.out (by unfold fitB rightB; rw [← Bool.and_assoc, hsd, decide_eq_false he]; rfl))
          clear HST HEND
          go_wp2_with fail
          refine (mwithin_two R C true hsd _ _ _ (two_elems (by simp) ⟨r0, r1⟩ ⟨q0, q1⟩)).mono ?_
          rintro e wb ⟨rfl, rfl⟩
          clear hsd hsd2
          go_wp2
          go_ret
          exact ⟨ret_bool R2.out.symm, B _ _⟩
    · clear h
      obtain rfl : k = n := by omega
      have R : Hid (fitAll gs = true) := Lib.hid (by unfold fitAll; rw [← ht.out, List.take_of_length_le (by rw [hl.out]; omega)])
      go_wp2
      go_ret
      exact ⟨ret_bool R.out.symm, hbel⟩

theorem mright_one (g : Gr) (x : Bool) (hx : fitB g.r g.c g.n = x) (b cap : Nat) (w : World) (h : Mats w (some ⟨b, 0, none⟩) 1 [g]) :
    Calls Try.prog 33 #[.slice (some ⟨b, 0, none⟩) 1 cap] w fun e w' => e = .returned (.bool x) ∧ Below w.heap.size w w' := by
  rw [← hx, show fitB g.r g.c g.n = fitAll [g] by simp [fitAll]]; exact mright_any _ _ _ _ _ h





/-- where row i of a matrix of C columns at a lies -/
theorem rowOf_elemsK {kd : IntKind} {w : World} {b off R C i : Nat} {xs : List Int} (h : Elems kd w (some ⟨b, off, none⟩) (R * C) xs) (hi : i < R) : Elems kd w (some ⟨b, off + i * C, none⟩) C (rowOf xs C i) := by
  have hl := row_le (C := C) hi
  exact (h.drop (i * C) (by omega)).take C (by omega)


end Go.Proofs.Ytgbbfmpofmeadaa
