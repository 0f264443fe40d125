import Derived.Test.YtoeihigdndkjeaaGreatDoorJ03
import Derived.Deep.RegionHeld3
import Derived.Deep.CutRange
/-
  Contract of Turn: pairs of numbers turned by how far on they stand, in new memory; what was in memory stays.
-/
namespace Go.Proofs.YtoeihigdndkjeaaGreatDoor
open Go.RowKit
set_option linter.unusedVariables false

/-- number i of the row, turned -/
def turnAt (place : Int) (xs : List Int) (i : Nat) : Int :=
  if i % 2 = 0 then tx (cosi (ang place (i / 2 : Nat))) (sine (ang place (i / 2 : Nat))) (xs.getD i 0) (xs.getD (i + 1) 0)
  else ty (cosi (ang place (i / 2 : Nat))) (sine (ang place (i / 2 : Nat))) (xs.getD (i - 1) 0) (xs.getD i 0)
def turnL (place : Int) (xs : List Int) (n : Nat) : List Int := (List.range n).map (turnAt place xs)
theorem turnAt_wf (place : Int) (xs : List Int) (i : Nat) : (Lit.int .i8 (turnAt place xs i)).wf = true := by unfold turnAt; split; exact tx_wf _ _ _ _; exact ty_wf _ _ _ _
theorem turnL_wf (place : Int) (xs : List Int) (n : Nat) : ∀ c ∈ turnL place xs n, (Lit.int .i8 c).wf = true := by
  intro c hc
  obtain ⟨i, _, rfl⟩ := List.mem_map.1 hc
  exact turnAt_wf _ _ _
theorem turnAt_even (place : Int) (xs : List Int) (k : Nat) : turnAt place xs (2 * k) = tx (cosi (ang place k)) (sine (ang place k)) (xs.getD (2 * k) 0) (xs.getD (2 * k + 1) 0) := by
  unfold turnAt; rw [if_pos (by omega), show 2 * k / 2 = k by omega]
theorem turnAt_odd (place : Int) (xs : List Int) (k : Nat) : turnAt place xs (2 * k + 1) = ty (cosi (ang place k)) (sine (ang place k)) (xs.getD (2 * k) 0) (xs.getD (2 * k + 1) 0) := by
  unfold turnAt; rw [if_neg (by omega), show (2 * k + 1) / 2 = k by omega, show 2 * k + 1 - 1 = 2 * k by omega]
theorem filledBy_all {f : Nat → Int} {n : Nat} {cs : List Int} (h : FilledBy f n n cs) : cs = (List.range n).map f := by
  apply List.ext_getElem (by rw [h.1, List.length_map, List.length_range])
  intro i h1 h2
  have h3 := h.2 i (by rw [← h.1]; exact h1)
  rw [if_pos (by rw [← h.1]; exact h1), List.getD_eq_getElem?_getD, List.getElem?_eq_getElem h1] at h3
  simpa using h3

theorem cell_kept6 {w w' : World} {p : Addr} {v : Value} (hb : Below w.heap.size w w') (h : w.cell? p = some v) : w'.cell? p = some v := (hb.cell (World.block_lt_of_cell? _ _ h)).trans h

theorem turn_shape (place : Int) (a : Option Addr) (n cap : Nat) (hn : n ≤ 9223372036854775807) (h : n % 2 = 1) (w : World) :
    Calls Tryz.prog 109 #[.int .i64 place, .slice a n cap] w fun e w' => e = .returned (.tuple #[.slice none 0 0, .int .i64 30]) ∧ w = w' := by
  have h' : ((n : Int) % 2 != 0) = true := by simp; omega
  go_enter Tryz.func109, Tryz.ntmps109
  go_wp2
  go_ret2
  exact ⟨rfl, rfl⟩

theorem turn_arg (place : Int) (a : Option Addr) (n cap : Nat) (hn : n ≤ 9223372036854775807) (h : n % 2 = 0) (hp : place < 0 ∨ 1048576 < place) (w : World) :
    Calls Tryz.prog 109 #[.int .i64 place, .slice a n cap] w fun e w' => e = .returned (.tuple #[.slice none 0 0, .int .i64 2]) ∧ w = w' := by
  have h' : ((n : Int) % 2 != 0) = false := by simp; omega
  rcases hp with hp | hp
  · go_enter Tryz.func109, Tryz.ntmps109
    go_wp2
    go_ret2
    exact ⟨rfl, rfl⟩
  · have hp2 : ¬ place < 0 := by omega
    go_enter Tryz.func109, Tryz.ntmps109
    go_wp2
    go_ret2
    exact ⟨rfl, rfl⟩

set_option maxHeartbeats 1000000 in
theorem turn_yes (place : Int) (a : Option Addr) (n cap : Nat) (xs : List Int) (w : World) (hx : Elems .i8 w a n xs) (hn : n ≤ 1000) (h : n % 2 = 0) (p0 : 0 ≤ place) (p1 : place ≤ 1048576) (hT : STab w) :
    Calls Tryz.prog 109 #[.int .i64 place, .slice a n cap] w fun e w' => (∃ g, e = .returned (.tuple #[.slice (some ⟨g, 0, none⟩) n n, .int .i64 0]) ∧ Elems .i8 w' (some ⟨g, 0, none⟩) n (turnL place xs n)) ∧ Below w.heap.size w w' := by
  have hmk := run_make_row' (P := Tryz.prog) 24 64 (.int .i8 0) 1 Tryz.underlying24 info8 rfl .i64 .i64 n (by omega) (by omega)
  have h' : ((n : Int) % 2 != 0) = false := by simp; omega
  obtain ⟨m, hm⟩ : ∃ m : Nat, (n : Int) / 2 = (m : Int) := ⟨n / 2, by omega⟩
  have hnm : n ≤ 2 * m ∧ 2 * m ≤ n := by omega
  go_enter Tryz.func109, Tryz.ntmps109
  go_wp2
  clear h' hm h
  go_loopw [26] (fun i wr => ∃ (k : Nat) (cs : List Int), k ≤ m ∧ i = .int .i64 k ∧ MineK .i8 wr w.heap.size 64 cs ∧ Below w.heap.size w wr ∧ Hid (FilledBy (turnAt place xs) n (2 * k) cs)) (fun i _ => m - (intOf i).toNat)
  case atStart => exact ⟨0, List.replicate n 0, by omega, rfl, mine_made .i8 w 64 n rfl, (Below.refl _ _).alloc (Nat.le_refl _) _, Lib.hid (filledBy_start _ n)⟩
  case round =>
    obtain ⟨k, cs, hk, rfl, hmine, hbel, hfil⟩ := hrel
    by_cases hlt : k < m
    · have hxr := hx.below hbel
      obtain ⟨j, hj⟩ : ∃ j : Nat, 2 * (k : Int) = (j : Int) := ⟨2 * k, by omega⟩
      obtain ⟨j1, hj1⟩ : ∃ j1 : Nat, (j : Int) + 1 = (j1 : Int) := ⟨j + 1, by omega⟩
      have hjk : j = 2 * k := by omega
      have hjk1 : j1 = 2 * k + 1 := by omega
      have hjn : j < n := by omega
      have hjn1 : j1 < n := by omega
      obtain ⟨b, off, x, rfl, hc, hv, wv⟩ := hxr.at_ hjn
      obtain ⟨b', off', y, he, hc2, hu, wu⟩ := hxr.at_ hjn1
      cases he
      obtain ⟨v1, v2⟩ := wf8 wv
      obtain ⟨u1, u2⟩ := wf8 wu
      have hTr := hT.below hbel
      have ec := cosi_bd (ang place k)
      have es := sine_bd (ang place k)
      have hrow := fun W hW => row_any place k (by omega) (by omega) W hW
      have htn := turned_any (cosi (ang place k)) (sine (ang place k)) x y ec.1 ec.2 es.1 es.2 v1 v2 u1 u2
      have t0 : turnAt place xs j = tx (cosi (ang place k)) (sine (ang place k)) x y := by rw [hjk, turnAt_even, ← hjk, hv.out, ← hu.out, hjk1, ← hjk]
      have t1 : turnAt place xs j1 = ty (cosi (ang place k)) (sine (ang place k)) x y := by rw [hjk1, turnAt_odd, ← hjk1, hu.out, ← hv.out, hjk]
      rw [← t0, ← t1] at htn
      have hfil' : Hid (FilledBy (turnAt place xs) n (2 * (k + 1)) ((cs.set j (turnAt place xs j)).set j1 (turnAt place xs j1))) := Lib.hid (by
        have s1 := filledBy_step hfil.out (by omega)
        have s2 := filledBy_step s1 (by omega)
        rw [hjk, hjk1]; exact s2)
      have hl := hfil.out.1
      generalize turnAt place xs j = p at htn hfil' t0
      generalize turnAt place xs j1 = q at htn hfil' t1
      generalize cosi (ang place k) = c at hrow htn
      generalize sine (ang place k) = s at hrow htn
      have hrow1 : Calls Tryz.prog 127 #[.int .i64 place, .int .i64 k] wr.drew fun e w' => e = .returned (.agg #[.int .i32 c, .int .i32 s]) ∧ Below wr.drew.heap.size wr.drew w' := hrow wr.drew hTr
      have e0 : IntKind.i64.wrap (2 * (k : Int)) = (j : Int) := by rw [hj]; exact IntWalk.i64_in _ (by omega)
      have e1 : IntKind.i64.wrap ((j : Int) + 1) = (j1 : Int) := by rw [hj1]; exact IntWalk.i64_in _ (by omega)
      have hglt := hmine.lt
      have hbn := hx.blk _ rfl (by omega)
      simp only at hbn
      have T0 := Lib.hid t0
      have T1 := Lib.hid t1
      clear t0 t1 hv hu hrow hfil hjk hjk1 hxr hx hT hTr hmk
      go_upto_region 10 with (fail)
      go_region_held3 (fun w' => w'.cell? ⟨b, off + j, none⟩ = some (.int .i8 x) ∧ w'.cell? ⟨b, off + j1, none⟩ = some (.int .i8 y)) (first | go_keep | (go_split_ands; refine ⟨?_, ?_⟩ <;> assumption))
        (first
          | (go_at_call 127; (with_reducible refine hrow1.mono ?_); rintro e wa ⟨rfl, hb1⟩; have k0 := cell_kept6 (w := wr.drew) hb1 hc; have k1 := cell_kept6 (w := wr.drew) hb1 hc2)
          | (go_at_call 126; (with_reducible refine (htn _).mono ?_); rintro e wb ⟨rfl, hb2⟩; have k2 := cell_kept6 hb2 k0; have k3 := cell_kept6 hb2 k1
             have hbw : Below wr.heap.size wr wb := below_two (Below.refl _ _).drew (below_two hb1 hb2)
             have hm2 := hmine.below hbw hglt
             have o0 := hm2.cell (k := j) (by omega)
             have o1 := (hm2.set j p).cell (k := j1) (by simp; omega)
             have f0 := hm2.frozen j
             have f1 := (hm2.set j p).frozen j1
             have hm3 := (hm2.set j p).set j1 q
             have k4 := (World.cell?_setCell_other wb ⟨w.heap.size, j, none⟩ ⟨b, off + j, none⟩ (.int .i8 p) (by first | (simp; done) | (simp; omega))).trans k2
             have k5 := (World.cell?_setCell_other wb ⟨w.heap.size, j, none⟩ ⟨b, off + j1, none⟩ (.int .i8 p) (by first | (simp; done) | (simp; omega))).trans k3
             have k6 := (World.cell?_setCell_other (wb.setCell ⟨w.heap.size, j, none⟩ (.int .i8 p)) ⟨w.heap.size, j1, none⟩ ⟨b, off + j, none⟩ (.int .i8 q) (by first | (simp; done) | (simp; omega))).trans k4
             have k7 := (World.cell?_setCell_other (wb.setCell ⟨w.heap.size, j, none⟩ (.int .i8 p)) ⟨w.heap.size, j1, none⟩ ⟨b, off + j1, none⟩ (.int .i8 q) (by first | (simp; done) | (simp; omega))).trans k5
             have hbz := ((below_two hbel hbw).setCell (p := ⟨w.heap.size, j, none⟩) (Nat.le_refl _) (.int .i8 p)).setCell (p := ⟨w.heap.size, j1, none⟩) (Nat.le_refl _) (.int .i8 q)))
      go_wp2
      go_roundw
      case rel => exact ⟨k + 1, (cs.set j p).set j1 q, by omega, by go_num, hm3, hbz, hfil'⟩
      case measure => simp [intOf]; omega
    · obtain rfl : k = m := by omega
      have hf := hfil.out
      rw [show 2 * k = n by omega] at hf
      have he := filledBy_all hf
      have hE := hmine.elems (n := n) (by rw [he]; simp) (by omega) (by rw [he]; exact turnL_wf place xs n)
      rw [he] at hE
      have HE := Lib.hid hE
      clear hx he hE hmine hfil hf
      go_wp2
      go_ret2
      exact ⟨⟨_, rfl, HE.out⟩, hbel⟩

end Go.Proofs.YtoeihigdndkjeaaGreatDoor
