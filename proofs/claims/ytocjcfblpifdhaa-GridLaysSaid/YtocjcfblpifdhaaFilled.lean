/-
  Contracts of New (refused; of noughts) and of filled, whatever function fills the rows.
-/
import Derived.Test.YtocjcfblpifdhaaMine
import Derived.Test.YtocjcfblpifdhaaRight
import Derived.Test.YtocjcfblpifdhaaLine
import Derived.Shelf.Abstract
namespace Go.Proofs.Ytocjcfblpifdhaa
open Go.RowKit
set_option linter.unusedVariables false

/-- what New asks -/
def newB (r c : Int) : Bool := sideB r && (sideB c && decide (r * c ≤ 1048576))
theorem newB_yes {r c : Int} (h : newB r c = true) : ∃ R C : Nat, r = R ∧ c = C ∧ R ≤ 4096 ∧ C ≤ 4096 ∧ R * C ≤ 1048576 := by
  unfold newB at h
  simp only [Bool.and_eq_true, decide_eq_true_eq] at h
  obtain ⟨h1, h2, h3⟩ := h
  have h1 := sideB_yes h1
  have h2 := sideB_yes h2
  refine ⟨r.toNat, c.toNat, by omega, by omega, by omega, by omega, ?_⟩
  have e1 : r = (r.toNat : Int) := by omega
  have e2 : c = (c.toNat : Int) := by omega
  rw [e1, e2] at h3
  have : ((r.toNat * c.toNat : Nat) : Int) ≤ 1048576 := by rw [Int.natCast_mul]; exact h3
  omega

theorem new_no (r c : Int) (h : newB r c = false) (hr : -9223372036854775808 ≤ r ∧ r ≤ 9223372036854775807) (hc : -9223372036854775808 ≤ c ∧ c ≤ 9223372036854775807) (w : World) :
    Calls Try.prog 18 #[.int .i64 r, .int .i64 c] w fun e w' => e = .returned (.tuple #[.agg #[.int .i64 0, .int .i64 0, .slice none 0 0], .int .i64 30]) ∧ Below w.heap.size w w' := by
  have B : ∀ x y, Below w.heap.size w ((w.alloc x).alloc y) := fun x y => ((Below.refl _ _).alloc (Nat.le_refl _) x).alloc (by simp) y
  cases hsd : (sideB r && sideB c) with
  | false =>
    clear h
    go_enter Try.func18, Try.ntmps18
    go_wp2_with fail
    refine (within_two r c false hsd _ _ _ (two_elems (by simp) hr hc)).mono ?_
    rintro e wb ⟨rfl, rfl⟩
    clear hsd
    go_wp2
    exact bodyPost_ret (v := .tuple #[.agg #[.int .i64 0, .int .i64 0, .slice none 0 0], .int .i64 30]) (by simp [results, Try.results18, go_sem]) rfl ⟨rfl, B _ _⟩
  | true =>
    have hsd2 := hsd
    simp only [Bool.and_eq_true] at hsd2
    have s1 := sideB_yes hsd2.1
    have s2 := sideB_yes hsd2.2
    have p0 : (0 : Int) ≤ r * c := Int.mul_nonneg s1.1 s2.1
    have p1 : r * c ≤ 4096 * 4096 := Int.mul_le_mul s1.2 s2.2 s2.1 (by omega)
    have hbig : 1048576 < r * c := by
      unfold newB at h
      rw [hsd2.1, hsd2.2] at h
      simpa using h
    clear h hsd2
    go_enter Try.func18, Try.ntmps18
    go_wp2_with fail
    refine (within_two r c true hsd _ _ _ (two_elems (by simp) hr hc)).mono ?_
    rintro e wb ⟨rfl, rfl⟩
    clear hsd
    go_wp2
    exact bodyPost_ret (v := .tuple #[.agg #[.int .i64 0, .int .i64 0, .slice none 0 0], .int .i64 30]) (by simp [results, Try.results18, go_sem]) rfl ⟨rfl, B _ _⟩

theorem new_yes (R C : Nat) (hR : R ≤ 4096) (hC : C ≤ 4096) (hn : R * C ≤ 1048576) (w : World) :
    Calls Try.prog 18 #[.int .i64 R, .int .i64 C] w fun e w' => ∃ g, e = .returned (.tuple #[.agg #[.int .i64 R, .int .i64 C, .slice (some ⟨g, 0, none⟩) (R * C : Nat) (R * C : Nat)], .int .i64 0]) ∧ w.heap.size ≤ g ∧ Mine w' g 21 (List.replicate (R * C) 0) ∧ Below w.heap.size w w' := by
  have B : ∀ x y, Below w.heap.size w ((w.alloc x).alloc y) := fun x y => ((Below.refl _ _).alloc (Nat.le_refl _) x).alloc (by simp) y
  have hsd : (sideB R && sideB C) = true := by unfold sideB; simp only [Bool.and_eq_true, decide_eq_true_eq]; omega
  obtain ⟨n, hn'⟩ : ∃ n, n = R * C := ⟨_, rfl⟩
  have e1 : (R : Int) * (C : Int) = (n : Int) := by rw [hn']; push_cast; rfl
  rw [← hn'] at hn ⊢
  have hmk := run_make_row' (P := Try.prog) 22 21 (.int .i32 0) 4 Try.underlying22 info_int32 rfl .i64 .i64 n (by omega) (by omega)
  clear hn'
  go_enter Try.func18, Try.ntmps18
  go_wp2_with fail
  refine (within_two R C true hsd _ _ _ (two_elems (by simp) ⟨by omega, by omega⟩ ⟨by omega, by omega⟩)).mono ?_
  rintro e wb ⟨rfl, rfl⟩
  clear hsd
  go_wp2
  refine bodyPost_ret (v := .tuple #[.agg #[.int .i64 R, .int .i64 C, .slice (some ⟨w.heap.size + 1 + 1, 0, none⟩) n n], .int .i64 0]) (by simp [results, Try.results18, go_sem]) rfl ⟨_, rfl, by omega, ?_, (B _ _).alloc (by simp; omega) _⟩
  have := made_zeros .i32 n
  rw [Nat.mul_one] at this
  have hh := heap_alloc_new ((w.alloc (.cells #[.int .i64 R, .int .i64 C, .slice (some ⟨w.heap.size + 1 + 1, 0, none⟩) n n] 24)).alloc (.cells #[.int .i64 R, .int .i64 C] 3)) (.cells (madeCells #[Value.int .i32 0] n) 21)
  simp only [World.size_alloc] at hh
  unfold Mine
  rw [hh, ← this]
  rfl

theorem filled_no (fn : Nat) (lb : Array Value) (r c : Int) (h : newB r c = false) (hr : -9223372036854775808 ≤ r ∧ r ≤ 9223372036854775807) (hc : -9223372036854775808 ≤ c ∧ c ≤ 9223372036854775807) (w : World) :
    Calls Try.prog 41 #[.int .i64 r, .int .i64 c, .func (.func fn) #[] lb] w fun e w' => e = .returned (.tuple #[.agg #[.int .i64 0, .int .i64 0, .slice none 0 0], .int .i64 30]) ∧ Below w.heap.size w w' := by
  go_enter Try.func41, Try.ntmps41
  go_wp2_with fail
  refine (new_no r c h hr hc _).mono ?_
  rintro e wb ⟨rfl, hb⟩
  obtain ⟨hz, c0, c1, c2, f0, f1, f2⟩ := three_cells hb
  have hB : Below w.heap.size w wb := below_two ((Below.refl _ _).alloc (Nat.le_refl _) _) hb
  clear h hr hc hb
  go_wp2
  exact bodyPost_ret (v := .tuple #[.agg #[.int .i64 0, .int .i64 0, .slice none 0 0], .int .i64 30]) (by simp [results, Try.results41, go_sem, c0, c1, c2, hz]) rfl
    ⟨rfl, (below_res hB (Nat.le_refl _) _ _ _).alloc (by simp; omega) _⟩

set_option maxHeartbeats 1000000 in
theorem filled_yes (fn : Nat) (lb : Array Value) (eg : ∀ args w, (callFunc fn args).run Try.prog w = .ok (.enter fn args) w) (R C : Nat) (hR : R ≤ 4096) (hC : C ≤ 4096) (hn : R * C ≤ 1048576) (f : Nat → Nat → Int) (w : World)
    (hF : Fills Try.prog fn lb w 21 R C f) :
    Calls Try.prog 41 #[.int .i64 R, .int .i64 C, .func (.func fn) #[] lb] w fun e w' => ∃ g, e = .returned (.tuple #[.agg #[.int .i64 R, .int .i64 C, .slice (some ⟨g, 0, none⟩) (R * C : Nat) (R * C : Nat)], .int .i64 0]) ∧ w.heap.size ≤ g ∧ Mine w' g 21 (tab R C f) ∧ Below w.heap.size w w' := by
  go_enter Try.func41, Try.ntmps41
  go_wp2_with fail
  refine (new_yes R C hR hC hn _).mono ?_
  rintro e wb ⟨g, rfl, hg, hM, hb⟩
  obtain ⟨hz, c0, c1, c2, f0, f1, f2⟩ := three_cells hb
  have hB : Below w.heap.size w wb := below_two ((Below.refl _ _).alloc (Nat.le_refl _) _) hb
  have b1 : Box3 wb w.heap.size (.int .i64 0) (.int .i64 0) (.slice none 0 0) := ⟨hz, c0, c1, c2, f0, f1, f2⟩
  simp at hg
  have hgl := hM.lt
  clear hb c0 c1 c2 f0 f1 f2
  have b1' : ∀ o, Box3 (wb.alloc o) w.heap.size (.int .i64 0) (.int .i64 0) (.slice none 0 0) := fun o => b1.alloc o
  have hM' : ∀ o, Mine (wb.alloc o) g 21 (List.replicate (R * C) 0) := fun o => hM.alloc o
  have hB' : ∀ o, Below w.heap.size w (wb.alloc o) := fun o => hB.alloc (by omega) o
  have b2' := box3_new wb (.int .i64 R) (.int .i64 C) (.slice (some ⟨g, 0, none⟩) (R * C : Nat) (R * C : Nat)) 24
  clear b1 hM hB
  go_wp2_with fail
  go_loopw [22] (fun i wr => ∃ (row : Nat) (cs : List Int), row ≤ R ∧ i = .int .i64 row ∧ Mine wr g 21 cs ∧ Hid (RowsSet f R C row cs) ∧ Below w.heap.size w wr ∧ Box3 wr w.heap.size (.int .i64 0) (.int .i64 0) (.slice none 0 0) ∧ Box3 wr wb.heap.size (.int .i64 R) (.int .i64 C) (.slice (some ⟨g, 0, none⟩) (R * C : Nat) (R * C : Nat))) (fun i _ => R - (intOf i).toNat)
  case atStart => exact ⟨0, _, by omega, rfl, hM' _, Lib.hid (rowsSet_start f R C), hB' _, b1' _, b2'⟩
  case round =>
    clear b1' hM' hB' b2'
    obtain ⟨row, cs, hrow, rfl, hM, hrs, hB, b1, b2⟩ := hrel
    by_cases hlt : row < R
    · have hlen := hrs.out.1
      have hz0 := fun j (hj : j < C) => (hrs.out.2 row j hlt hj).trans (if_neg (by omega))
      have HL := Lib.hid hlen
      have HZ := Lib.hid hz0
      obtain ⟨h1, c0, c1, c2, f0, f1, f2⟩ := b2
      have hst := fun cs' (h' : RowSet f R C row cs cs') => rowsSet_step hrs.out h'
      clear hlen hz0 hrs
      go_wp2_with fail
      refine (line_at R C row (some ⟨g, 0, none⟩) (R * C) _ (Nat.le_refl _) (by omega) (by simp) (fun x hx _ => by cases hx; rfl) hR hC hlt).mono ?_
      rintro e wc ⟨⟨a', cap', rfl, hc1, hc2, ha'⟩, hbc⟩
      have b2' := (show Box3 wr wb.heap.size _ _ _ from ⟨h1, c0, c1, c2, f0, f1, f2⟩).below hbc
      have b1' := b1.below hbc
      have hM' := hM.below hbc hM.lt
      have hB' := below_two hB hbc
      have ha2 : 0 < C → a' = some ⟨g, row * C, none⟩ := fun h => by
        obtain ⟨b, off, he, he2⟩ := ha' h
        cases he
        rw [he2, Nat.zero_add]
      clear hbc h1 c0 c1 c2 f0 f1 f2 hM b1 ha' hB
      have hcall := hF wc row a' cap' g cs hlt hB' (by omega) hM' HL.out ha2 hc1 hc2 HZ.out
      have HA := Lib.hid ha2
      clear ha2
      go_wp2_with (go_at_fn fn; refine hcall.mono ?_; rintro e wd ⟨rfl, cs', hg', hM2, hrs2⟩)
      have hlw := hM'.lt
      have hb0 := b1'.1
      have hb2 := b2'.1
      go_roundw
      case rel =>
        exact ⟨row + 1, cs', by omega, by go_num, hM2, Lib.hid (hst cs' hrs2), below_grown hB' hg' (by omega), b1'.kept hg' (by simp; omega), b2'.kept hg' (by simp; omega)⟩
      case measure => simp [intOf]; omega
    · obtain rfl : row = R := by omega
      have HE := Lib.hid (rowsSet_end hrs.out)
      obtain ⟨h1, c0, c1, c2, f0, f1, f2⟩ := b2
      obtain ⟨k1, d0, d1, d2, e0, e1, e2⟩ := b1
      have hne : w.heap.size ≠ g := by omega
      clear hrs hF
      go_wp2
      exact bodyPost_ret (v := .tuple #[.agg #[.int .i64 row, .int .i64 C, .slice (some ⟨g, 0, none⟩) (row * C : Nat) (row * C : Nat)], .int .i64 0]) (by simp [results, Try.results41, go_sem, d0, d1, d2]) rfl
        ⟨g, rfl, by omega, by rw [← HE.out]; exact hM.kept (grownBy_res wr w.heap.size _ _ _) (by simpa using hne.symm), below_res hB (Nat.le_refl _) _ _ _⟩

end Go.Proofs.Ytocjcfblpifdhaa
