import Derived.Test.YtoeihigdndkjeaaGreatDoorP32
import Derived.Test.YtoeihigdndkjeaaGreatDoorP39
import Derived.Deep.RegionHeld3
/-
  The document's examples (over New's and Of's contracts of rows in new blocks) of stage 8: awake returns true.
-/
namespace Go.Proofs.YtoeihigdndkjeaaGreatDoor
open Go.RowKit Go.Shelf
set_option linter.unusedVariables false
attribute [local go_sem] Oper.semAt_some

set_option maxHeartbeats 8000000 in
set_option maxRecDepth 100000 in
theorem awakeF (w : World) (hT : Tabs9 w) : Calls Tryz.prog 8 #[] w fun e w' => e = .returned (.bool true) ∧ Below w.heap.size w w' := by
  have cO : ∀ (W : World) (b : Nat), Elems .i8 W (some ⟨b, 0, none⟩) 140 (List.replicate 140 0) → Calls Tryz.prog 33 #[.agg #[.int .i64 1, .int .i64 4, .int .i64 2, .int .i64 3, .int .i64 5, .int .i64 8], .slice (some ⟨b, 0, none⟩) 140 140] W fun e w' => OfW ex9 (List.replicate 140 0) w' e ∧ Below W.heap.size W w' :=
    fun W b hx => (ofF ex9 ex9_ok b 0 140 140 (List.replicate 140 0) W hx (by decide) (by omega) (by omega) (by omega)).mono fun e w' ⟨⟨W, h1, h2, h3, h4, h5, _⟩, hb⟩ => ⟨⟨W, h1, h2, h3, h4, h5⟩, hb⟩
  go_enter Tryz.func8, Tryz.ntmps8
  go_upto_region 2 with (fail)
  generalize hwa : World.alloc w _ = wa
  have X : Box wa w.heap.size 45 #[.int .i64 1, .int .i64 4, .int .i64 2, .int .i64 3, .int .i64 5, .int .i64 8] := by rw [← hwa]; exact box_new _ _ _
  have HB : Hid (Below w.heap.size w wa) := Lib.hid (by rw [← hwa]; exact (Below.refl _ _).alloc (Nat.le_refl _) _)
  have HX := Lib.hid X
  obtain ⟨z0, z1, z2, z3, z4, z5⟩ := X.cells6
  clear hwa X
  have hz : ∀ (V : World) (T : TypeId), Elems .i8 (V.alloc (.cells (madeCells #[.int .i8 0] 140) T)).drew (some ⟨V.heap.size, 0, none⟩) 140 (List.replicate 140 0) := fun V T => (zeros140 V T).below (Below.refl _ _).drew
  have hmk : ∀ W, (Instr.makeSlice 24 (.int .i64 140) (.int .i64 140)).run Tryz.prog W = .ok (.slice (some ⟨W.heap.size, 0, none⟩) 140 140) (W.alloc (.cells (madeCells #[.int .i8 0] 140) 64)) := fun W => run_make_row' (P := Tryz.prog) 24 64 (.int .i8 0) 1 Tryz.underlying24 info8 rfl .i64 .i64 140 (by omega) (by omega) W
  go_region_held3 (fun w' => w'.cell? ⟨w.heap.size, 0, none⟩ = some (.int .i64 1) ∧ w'.cell? ⟨w.heap.size, 1, none⟩ = some (.int .i64 4) ∧ w'.cell? ⟨w.heap.size, 2, none⟩ = some (.int .i64 2) ∧ w'.cell? ⟨w.heap.size, 3, none⟩ = some (.int .i64 3) ∧ w'.cell? ⟨w.heap.size, 4, none⟩ = some (.int .i64 5) ∧ w'.cell? ⟨w.heap.size, 5, none⟩ = some (.int .i64 8))
    (first | go_keep | (go_split_ands; refine ⟨?_, ?_, ?_, ?_, ?_, ?_⟩ <;> assumption))
    (first
      | (go_at_call 33; (with_reducible refine (cO _ _ (hz _ _)).mono ?_); rintro e w1 ⟨hW, hb1⟩; obtain ⟨W, rfl, hin, h6, hwt, hnu⟩ := hW
         have hB1 : Hid (Below wa.heap.size wa w1) := Lib.hid (below_two (((Below.refl _ _).alloc (Nat.le_refl _) _).drew) hb1)
         obtain ⟨y0, y1, y2, y3, y4, y5⟩ := (Box.bel HX.out hB1.out).cells6
         have cN := newF ex9 ex9_ok W w1 hin h6 hwt
         have HNU := Lib.hid hnu
         clear hin h6 hwt hnu hb1)
      | (go_at_call 18; (with_reducible refine cN.mono ?_); rintro e w2 ⟨⟨m, V, rfl, m1, hmod, hnums, -⟩, hb2⟩
         have HB2 := Lib.hid (below_two hB1.out hb2)
         obtain ⟨x0, x1, x2, x3, x4, x5⟩ := (Box.bel HX.out HB2.out).cells6
         have HMOD := Lib.hid hmod
         have HNUM := Lib.hid hnums
         clear cN hmod hnums hb2))
  have HBW := Lib.hid (below_two HB.out HB2.out)
  have HT2 := Lib.hid (hT.bel HBW.out)
  have HZ : Hid (∀ x ∈ (V.nums ex9).hd, x = 0) := Lib.hid (by
    rw [HNUM.out, HNU.out]
    intro x hx
    unfold wnOf cutL at hx
    exact List.eq_of_mem_replicate (List.mem_of_mem_drop (List.mem_of_mem_take hx)))
  have B1 : ∀ (U : World) (o : Obj), Below U.heap.size U (U.alloc o) := fun U o => (Below.refl _ _).alloc (Nat.le_refl _) o
  have cR := run8 m ex9 V w2 HMOD.out (fun _ _ => ([], []))
  clear cO hz hmk z0 z1 z2 z3 z4 z5 y0 y1 y2 y3 y4 y5 x0 x1 x2 x3 x4 x5 hT HX
  go_wp2_with fail
  refine cR.mono ?_
  rintro e w3 ⟨⟨r, mb, rfl, t1, t2, t3, hR⟩, hb3⟩
  have RS3 : RunS w3 r m mb ex9 V [] 0 := ⟨hR, HMOD.out.bel hb3, (HT2.out.bel hb3).1, (HT2.out.bel hb3).2.1⟩
  have HB3 := Lib.hid (below_two HBW.out hb3)
  have hlt3 := RS3.lts
  have cF : ∀ T : TypeId, Calls Tryz.prog 11 #[.pointer (some ⟨r, 0, none⟩), .slice (some ⟨w3.heap.size, 0, none⟩) 1 1] (w3.alloc (.cells #[.int .i64 3] T)) fun e w' =>
      (∃ g c N', e = .returned (.tuple #[.slice (some ⟨g, 0, none⟩) 5 c, .int .i64 0]) ∧ 5 ≤ c ∧ c ≤ 9223372036854775807 ∧ Elems .i32 w' (some ⟨g, 0, none⟩) 5 (outO (V.nums ex9) (runO (V.nums ex9) st09 (([] ++ [3] : List Int).map Int.toNat)).x) ∧ RunS w' r m mb ex9 V ([] ++ [3]) N' ∧ N' ≤ 16 * ([] ++ [3] : List Int).length) ∧ Away (w3.alloc (.cells #[.int .i64 3] T)) w' r mb :=
    fun T => fed9 r m mb 1 0 1 ex9 ex9_ok V [] [3] _ (RS3.bel (B1 _ _)) (by decide) (some ⟨w3.heap.size, 0, none⟩) (elems_litK [3] rfl rfl (by decide) (by decide) rfl) (by omega) (by omega) (fun b o hbo => by cases hbo; omega) (by decide) (by decide) (by decide)
  clear cR hR hb3
  go_wp2_with fail
  refine (cF _).mono ?_
  rintro e w4 ⟨⟨g, c, N4, rfl, g1, g2, hE, hRS, hN⟩, haw⟩
  have hz4 : outO (V.nums ex9) (runO (V.nums ex9) st09 (([] ++ [3] : List Int).map Int.toNat)).x = List.replicate 5 0 := by
    unfold outO
    rw [mv_zero HZ.out]
    rfl
  rw [hz4] at hE
  have hr3 : w2.heap.size ≤ r := t1
  have hBw2 := HBW.out.size
  have HB4 : Hid (Below w.heap.size w w4) := Lib.hid (below_away (below_two HB3.out (B1 _ _)) haw (by omega) (by omega) (below_two HB3.out (B1 _ _)).size)
  have HE4 := Lib.hid hE
  have HRS4 := Lib.hid hRS
  have hlt4 := hRS.lts
  have hgl : g < w4.heap.size ∧ g ≠ r ∧ g ≠ mb := by
    obtain ⟨b, off, hb, hc⟩ := hE.2.2.2 (by omega)
    cases hb
    have h0 := hc 0 (by omega)
    refine ⟨World.block_lt_of_cell? _ _ h0, ?_, ?_⟩
    · intro e
      have hbx := hRS.run.box
      subst e
      rw [hbx.cell] at h0
      simp at h0
    · intro e
      obtain ⟨D, hO, _⟩ := hRS.run.map
      subst e
      rw [hO.cell] at h0
      cases h0
  have hN4 : N4 ≤ 16 := hN
  clear cF hE hRS haw hz4 hN RS3
  have cG : ∀ T : TypeId, Calls Tryz.prog 11 #[.pointer (some ⟨r, 0, none⟩), .slice (some ⟨w4.heap.size, 0, none⟩) 1 1] (w4.alloc (.cells #[.int .i64 5] T)) fun e w' =>
      (∃ v N', e = .returned (.tuple #[v, .int .i64 2]) ∧ RunAt w' r m mb ex9 1 0 N' (runO (V.nums ex9) st09 (([] ++ [3] : List Int).map Int.toNat)).K) ∧ Away (w4.alloc (.cells #[.int .i64 5] T)) w' r mb := fun T => by
    have h := feed8 r m mb 1 N4 1 ⟨[], 1, (runO (V.nums ex9) st09 (([] ++ [3] : List Int).map Int.toNat)).K⟩ ex9 ex9_ok V (w4.alloc (.cells #[.int .i64 5] T)) (HRS4.out.bel (B1 _ _)).run (HRS4.out.bel (B1 _ _)).mod rfl (by decide) (by show (1 : Nat) ≤ 8; omega) (some ⟨w4.heap.size, 0, none⟩) [5] (elems_litK [5] rfl rfl (by decide) (by decide) rfl) (by omega) (fun b o hbo => by cases hbo; omega) (by omega) (HRS4.out.bel (B1 _ _)).tab (HRS4.out.bel (B1 _ _)).stab
    refine h.mono ?_
    rintro e w' ⟨v, N', rfl, q1, q2, q3, q4, q5, q6, q7, q8⟩
    have hf : faultO ex9 1 [5] = 2 := by decide
    have hnx : nextO ex9 (V.nums ex9) ⟨[], 1, (runO (V.nums ex9) st09 (([] ++ [3] : List Int).map Int.toNat)).K⟩ [5] = ⟨[], 1, (runO (V.nums ex9) st09 (([] ++ [3] : List Int).map Int.toNat)).K⟩ := by
      unfold nextO
      rw [if_neg (by show ¬ faultO ex9 1 [5] = 0; rw [hf]; decide)]
    rw [hnx] at q4
    exact ⟨⟨v, N', by rw [show faultO ex9 1 [5] = 2 from hf], q4⟩, q8⟩
  go_wp2_with fail
  refine (cG _).mono ?_
  rintro e w5 ⟨⟨v, N5, rfl, hR5⟩, haw⟩
  have HB5 : Hid (Below w.heap.size w w5) := Lib.hid (below_away (below_two HB4.out (B1 _ _)) haw (by omega) (by omega) (below_two HB4.out (B1 _ _)).size)
  have HE5 : Hid (Elems .i32 w5 (some ⟨g, 0, none⟩) 5 (List.replicate 5 0)) := Lib.hid (haw.elems (HE4.out.below (B1 _ _)) (fun b o hbo => by cases hbo; omega))
  have HR5 := Lib.hid hR5
  have hmk5 : ∀ W, (Instr.makeSlice 36 (.int .i64 5) (.int .i64 5)).run Tryz.prog W = .ok (.slice (some ⟨W.heap.size, 0, none⟩) 5 5) (W.alloc (.cells (madeCells #[.int .i32 0] 5) 21)) := fun W => run_make_row' (P := Tryz.prog) 36 21 (.int .i32 0) 4 Tryz.underlying36 info_int32 rfl .i64 .i64 5 (by omega) (by omega) W
  have cI : ∀ T : TypeId, Calls Tryz.prog 13 #[.slice (some ⟨g, 0, none⟩) 5 c, .slice (some ⟨w5.heap.size, 0, none⟩) 5 5] (w5.alloc (.cells (madeCells #[.int .i32 0] 5) T)) fun e w' => e = .returned (.bool true) ∧ ∃ d, w' = (w5.alloc (.cells (madeCells #[.int .i32 0] 5) T)).drewN d := fun T =>
    ints_yes (some ⟨g, 0, none⟩) (some ⟨w5.heap.size, 0, none⟩) 5 c 5 (List.replicate 5 0) _ (HE5.out.below (B1 _ _)) ((mine_made .i32 w5 T 5 rfl).elems (by simp) (by omega) (fun x hx => by rw [List.eq_of_mem_replicate hx]; rfl))
  clear cG haw hR5
  go_wp2_with fail
  refine (cI _).mono ?_
  rintro e w6 ⟨rfl, d, rfl⟩
  have hb6 := below_drewN (B1 w5 (.cells (madeCells #[.int .i32 0] 5) 21)) d
  have cP := place8 r m mb 1 0 N5 _ ex9 _ (HR5.out.bel hb6)
  have HB6 := Lib.hid (below_two HB5.out hb6)
  clear cI hmk5 hb6
  go_wp2_with fail
  refine cP.mono ?_
  rintro e w7 ⟨rfl, rfl⟩
  go_wp2
  go_ret
  exact ⟨rfl, HB6.out⟩

end Go.Proofs.YtoeihigdndkjeaaGreatDoor
