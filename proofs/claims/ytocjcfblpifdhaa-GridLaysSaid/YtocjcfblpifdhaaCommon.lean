/-
  Contracts of common and total, whatever side is asked.
-/
import Derived.Test.YtocjcfblpifdhaaRight
import Derived.Test.YtocjcfblpifdhaaMine
import Derived.Deep.RegionHeld3
import Derived.Shelf.Abstract
namespace Go.Proofs.Ytocjcfblpifdhaa
open Go.RowKit
set_option linter.unusedVariables false

/-- have all the same side? -/
def commonB (p : Gr → Int) (gs : List Gr) : Bool := gs.all fun g => decide (p g = p (gs.getD 0 default))
/-- the first one's side, 0 of none -/
def side0 (p : Gr → Int) (gs : List Gr) : Int := (gs.map p).headD 0

/-- what common answers -/
def CommonRes (p : Gr → Int) (gs : List Gr) (e : Ending) : Prop := e = if commonB p gs = true then .returned (.tuple #[.int .i64 (side0 p gs), .bool true]) else .returned (.tuple #[.int .i64 0, .bool false])
theorem commonRes_no {p : Gr → Int} {gs : List Gr} (h : commonB p gs = false) : CommonRes p gs (.returned (.tuple #[.int .i64 0, .bool false])) := by
  unfold CommonRes; rw [if_neg (by rw [h]; simp)]
theorem commonRes_yes {p : Gr → Int} {gs : List Gr} (h : commonB p gs = true) {y : Int} (hy : side0 p gs = y) : CommonRes p gs (.returned (.tuple #[.int .i64 y, .bool true])) := by
  unfold CommonRes; rw [if_pos h, hy]

/-- what is asked of a function that says a side -/
def Sides (fn : Nat) (p : Gr → Int) : Prop := ∀ (g : Gr) (W : World), Calls Try.prog fn #[.agg #[.int .i64 g.r, .int .i64 g.c, .slice g.a g.n g.cap]] W fun e w' => e = .returned (.int .i64 (p g)) ∧ Below W.heap.size W w'

theorem sides_rows : Sides 48 (fun g => g.r) := fun g W => by
  go_enter Try.func48, Try.ntmps48
  go_wp2
  go_ret
  exact ⟨rfl, (Below.refl _ _).alloc (Nat.le_refl _) _⟩
theorem sides_cols : Sides 46 (fun g => g.c) := fun g W => by
  go_enter Try.func46, Try.ntmps46
  go_wp2
  go_ret
  exact ⟨rfl, (Below.refl _ _).alloc (Nat.le_refl _) _⟩

set_option maxHeartbeats 2000000 in
theorem common_any (fn : Nat) (p : Gr → Int) (hs : Sides fn p) (eg : ∀ args w, (callFunc fn args).run Try.prog w = .ok (.enter fn args) w) (a : Option Addr) (n cap : Nat) (gs : List Gr) (w : World) (h : Grids w a n gs) :
    Calls Try.prog 45 #[.func (.func fn) #[] #[], .slice a n cap] w fun e w' => CommonRes p gs e ∧ Below w.heap.size w w' := by
  have hn := h.2.1
  have hl := Lib.hid h.1
  have HS := Lib.hid hs
  clear hs
  go_enter Try.func45, Try.ntmps45
  go_wp2_with fail
  go_loopw [10] (fun i wr => ∃ k : Nat, k ≤ n ∧ i = .int .i64 k ∧ Hid ((gs.take k).all (fun g => decide (p g = p (gs.getD 0 default))) = true) ∧ Below w.heap.size w wr) (fun i _ => n - (intOf i).toNat)
  case atStart => exact ⟨0, by omega, rfl, Lib.hid (by simp), Below.refl _ _⟩
  case round =>
    obtain ⟨k, hk, rfl, ht, hbel⟩ := hrel
    by_cases hlt : k < n
    · obtain ⟨b, off, g, rfl, hbl, c0, c1, c2, hg, hin⟩ := (h.below hbel).at_ hlt
      obtain ⟨b', off', g0, he0, hbl0, d0, d1, d2, hg0, hin0⟩ := (h.below hbel).at_ (i := 0) (by omega)
      cases he0
      obtain ⟨hst, hend⟩ := all_step (fun g => decide (p g = p (gs.getD 0 default))) gs k (by rw [hl.out]; exact hlt) g hg.out ht.out
      have HST := Lib.hid hst
      have HEND := Lib.hid hend
      have HG0 := hg0
      have hsz := hbel.size
      have q1 := HS.out g
      have q0 := HS.out g0
      obtain ⟨x, hx⟩ : ∃ x, x = p g := ⟨_, rfl⟩
      obtain ⟨y, hy⟩ : ∃ y, y = p g0 := ⟨_, rfl⟩
      rw [← hx] at q1
      rw [← hy] at q0
      have HX := Lib.hid hx
      have HY := Lib.hid hy
      obtain ⟨r, c, ga, m, gcap, v⟩ := g
      obtain ⟨r0, c0', ga0, m0, gcap0, v0⟩ := g0
      simp only [Nat.zero_mul, Nat.add_zero] at c0 c1 c2 d0 d1 d2 q0 q1
      clear h hg ht hst hend hin hin0 hx hy hg0
      have hfin : ∀ w', Below wr.heap.size wr w' → Below w.heap.size w w' := fun w' hb => below_two hbel hb
      have u1 := box3_new wr (.int .i64 r) (.int .i64 c) (.slice ga m gcap) 24
      obtain ⟨v1, t0, t1, t2, t3, t4, t5⟩ := u1
      have s0 := cell_alloc d0 (.cells #[.int .i64 r, .int .i64 c, .slice ga m gcap] 24)
      have s1 := cell_alloc d1 (.cells #[.int .i64 r, .int .i64 c, .slice ga m gcap] 24)
      have s2 := cell_alloc d2 (.cells #[.int .i64 r, .int .i64 c, .slice ga m gcap] 24)
      have hblk : b < (wr.alloc (.cells #[.int .i64 r, .int .i64 c, .slice ga m gcap] 24)).heap.size := by simp; omega
      have hblk2 : wr.heap.size < (wr.alloc (.cells #[.int .i64 r, .int .i64 c, .slice ga m gcap] 24)).heap.size := by simp
      have hfin2 := hbel.alloc hsz (.cells #[.int .i64 r, .int .i64 c, .slice ga m gcap] 24)
      have hn0 : (0 : Int) < (n : Int) := by omega
      have hn1 : 0 < n := by omega
      by_cases hxy : x = y
      · have HR : Hid ((gs.take (k + 1)).all (fun g => decide (p g = p (gs.getD 0 default))) = true) := Lib.hid (by rw [HST.out, ← HX.out, HG0.out, ← HY.out, decide_eq_true hxy])
        go_wp2_with fail
        generalize wr.alloc (.cells #[.int .i64 r, .int .i64 c, .slice ga m gcap] 24) = W0 at *
        go_region_held3 (fun w' => w'.cell? ⟨wr.heap.size, 0, none⟩ = some (.int .i64 r) ∧ w'.cell? ⟨wr.heap.size, 1, none⟩ = some (.int .i64 c) ∧ w'.cell? ⟨wr.heap.size, 2, none⟩ = some (.slice ga m gcap) ∧
            w'.cell? ⟨b, off, none⟩ = some (.int .i64 r0) ∧ w'.cell? ⟨b, off + 1, none⟩ = some (.int .i64 c0') ∧ w'.cell? ⟨b, off + 2, none⟩ = some (.slice ga0 m0 gcap0))
          (first | go_keep | (go_split_ands; refine ⟨?_, ?_, ?_, ?_, ?_, ?_⟩ <;> assumption))
          (first
            | (go_at_fn fn; (with_reducible refine (q1 _).mono ?_); rintro e wc1 ⟨rfl, hb1⟩
               obtain ⟨hcl1, hfr1⟩ := bcell hb1
               have a0 := (hcl1 wr.heap.size 0 hblk2).trans t0
               have a1 := (hcl1 wr.heap.size 1 hblk2).trans t1
               have a2 := (hcl1 wr.heap.size 2 hblk2).trans t2
               have a3 := (hcl1 b off hblk).trans s0
               have a4 := (hcl1 b (off + 1) hblk).trans s1
               have a5 := (hcl1 b (off + 2) hblk).trans s2)
            | (go_at_fn fn; (with_reducible refine (q0 _).mono ?_); rintro e wc2 ⟨rfl, hb2⟩
               obtain ⟨hcl2, hfr2⟩ := bcell hb2
               have hz1 := hb1.size
               have b0 := (hcl2 wr.heap.size 0 (Nat.lt_of_lt_of_le hblk2 hz1)).trans a0
               have b1 := (hcl2 wr.heap.size 1 (Nat.lt_of_lt_of_le hblk2 hz1)).trans a1
               have b2 := (hcl2 wr.heap.size 2 (Nat.lt_of_lt_of_le hblk2 hz1)).trans a2
               have b3 := (hcl2 b off (Nat.lt_of_lt_of_le hblk hz1)).trans a3
               have b4 := (hcl2 b (off + 1) (Nat.lt_of_lt_of_le hblk hz1)).trans a4
               have b5 := (hcl2 b (off + 2) (Nat.lt_of_lt_of_le hblk hz1)).trans a5))
        all_goals
          have hB := below_two hfin2 (below_two ((Below.refl _ _).drew) (below_two hb1 hb2))
          go_wp2
          go_roundw
          case rel => exact ⟨k + 1, by omega, by go_num, HR, hB⟩
          case measure => simp [intOf]; omega
      · have HR : Hid (commonB p gs = false) := Lib.hid (HEND.out (by rw [← HX.out, HG0.out, ← HY.out, decide_eq_false hxy]))
        go_wp2_with fail
        generalize wr.alloc (.cells #[.int .i64 r, .int .i64 c, .slice ga m gcap] 24) = W0 at *
        go_region_held3 (fun w' => w'.cell? ⟨wr.heap.size, 0, none⟩ = some (.int .i64 r) ∧ w'.cell? ⟨wr.heap.size, 1, none⟩ = some (.int .i64 c) ∧ w'.cell? ⟨wr.heap.size, 2, none⟩ = some (.slice ga m gcap) ∧
            w'.cell? ⟨b, off, none⟩ = some (.int .i64 r0) ∧ w'.cell? ⟨b, off + 1, none⟩ = some (.int .i64 c0') ∧ w'.cell? ⟨b, off + 2, none⟩ = some (.slice ga0 m0 gcap0))
          (first | go_keep | (go_split_ands; refine ⟨?_, ?_, ?_, ?_, ?_, ?_⟩ <;> assumption))
          (first
            | (go_at_fn fn; (with_reducible refine (q1 _).mono ?_); rintro e wc1 ⟨rfl, hb1⟩
               obtain ⟨hcl1, hfr1⟩ := bcell hb1
               have a0 := (hcl1 wr.heap.size 0 hblk2).trans t0
               have a1 := (hcl1 wr.heap.size 1 hblk2).trans t1
               have a2 := (hcl1 wr.heap.size 2 hblk2).trans t2
               have a3 := (hcl1 b off hblk).trans s0
               have a4 := (hcl1 b (off + 1) hblk).trans s1
               have a5 := (hcl1 b (off + 2) hblk).trans s2)
            | (go_at_fn fn; (with_reducible refine (q0 _).mono ?_); rintro e wc2 ⟨rfl, hb2⟩
               obtain ⟨hcl2, hfr2⟩ := bcell hb2
               have hz1 := hb1.size
               have b0 := (hcl2 wr.heap.size 0 (Nat.lt_of_lt_of_le hblk2 hz1)).trans a0
               have b1 := (hcl2 wr.heap.size 1 (Nat.lt_of_lt_of_le hblk2 hz1)).trans a1
               have b2 := (hcl2 wr.heap.size 2 (Nat.lt_of_lt_of_le hblk2 hz1)).trans a2
               have b3 := (hcl2 b off (Nat.lt_of_lt_of_le hblk hz1)).trans a3
               have b4 := (hcl2 b (off + 1) (Nat.lt_of_lt_of_le hblk hz1)).trans a4
               have b5 := (hcl2 b (off + 2) (Nat.lt_of_lt_of_le hblk hz1)).trans a5))
        all_goals
          have hB := below_two hfin2 (below_two ((Below.refl _ _).drew) (below_two hb1 hb2))
          go_wp2
          go_ret2
          exact ⟨commonRes_no HR.out, hB⟩
    · obtain rfl : k = n := by omega
      have HR : Hid (commonB p gs = true) := Lib.hid (by unfold commonB; rw [← ht.out, List.take_of_length_le (by rw [hl.out]; omega)])
      by_cases h0 : k = 0
      · have hs0 : Hid (side0 p gs = 0) := Lib.hid (by
          have := hl.out
          rw [h0] at this
          rw [List.eq_nil_of_length_eq_zero this]; rfl)
        have HB := Lib.hid hbel
        clear h ht hbel hk
        subst h0
        go_wp2
        go_ret2
        exact ⟨commonRes_yes HR.out hs0.out, HB.out⟩
      · obtain ⟨b, off, g0, rfl, hbl0, d0, d1, d2, hg0, hin0⟩ := (h.below hbel).at_ (i := 0) (by omega)
        have hs0 : Hid (side0 p gs = p g0) := Lib.hid (by
          have hh := hl.out
          cases gs with
          | nil => simp at hh; omega
          | cons g gs => rw [← hg0.out]; rfl)
        have q0 := HS.out g0
        obtain ⟨y, hy⟩ : ∃ y, y = p g0 := ⟨_, rfl⟩
        rw [← hy] at q0 hs0
        obtain ⟨r0, c0', ga0, m0, gcap0, v0⟩ := g0
        simp only [Nat.zero_mul, Nat.add_zero] at d0 d1 d2 q0
        have hn0 : (0 : Int) < (k : Int) := by omega
        clear h ht hg0 hy hin0
        go_wp2_with fail
        refine (q0 _).mono ?_
        rintro e wc ⟨rfl, hb⟩
        have hB := below_two hbel hb
        go_wp2
        go_ret2
        exact ⟨commonRes_yes HR.out hs0.out, hB⟩

end Go.Proofs.Ytocjcfblpifdhaa
