/-
  The code's Bytes: the file of weights.
-/
import Derived.Test.YtgbbfmpofmeadaaAppStr
import Derived.Test.YtgbbfmpofmeadaaPuts
import Derived.Test.YtgbbfmpofmeadaaWholes
import Derived.Test.YtgbbfmpofmeadaaFlat
import Derived.Test.YtgbbfmpofmeadaaCount
import Derived.Test.YtgbbfmpofmeadaaOwnCut
import Derived.Lib.AppendStr
namespace Go.Proofs.Ytgbbfmpofmeadaa
open Go.RowKit
set_option linter.unusedVariables false

/-- a row of the call's own lies in no block of other things -/
theorem own_ne {w : World} {base : Nat} {e : TypeId} {v : Value} {n : Nat} {xs : List Value} (hown : w.ownsRow base e 1 v n xs) {g : Nat} {T : TypeId} {cs : Array Value} (hX : Box w g T cs) (hT : T ≠ e) : some g ≠ v.ownBlock := by
  intro he
  rcases hown.2 with ⟨h4, _⟩ | ⟨g', c, cur, h4, _, h5, _⟩
  · rw [h4] at he; cases he
  · rw [h4] at he
    cases he
    have := h5.symm.trans hX
    simp only [Option.some.injEq, Obj.cells.injEq] at this
    exact hT this.2.1.symm
/-- the block of such a row, known whole -/
theorem own_box {w : World} {base size : Nat} {e : TypeId} {v : Value} {n : Nat} {xs : List Value} (hown : w.ownsRow base e size v n xs) (hn : 0 < n) : ∃ g cap cur, v = .slice (some ⟨g, 0, none⟩) n cap ∧ base ≤ g ∧ Box w g e cur ∧ n ≤ cap ∧ ∀ j, j < n * size → cur[j]? = xs[j]? := by
  rcases hown.2 with ⟨_, h4⟩ | ⟨g', c, cur, h4, h5, h6, h7, h8, h9, h10⟩
  · omega
  · refine ⟨g', c, cur, h4, h5, h6, h7, fun j hj => ?_⟩
    rw [← h10, List.getElem?_take, if_pos hj]; simp
theorem run_index6 (c0 c1 c2 c3 c4 c5 : Value) (k : Nat) (hk : k < 6) (w : World) : Sem.run Try.prog (Instr.index 22 (.agg #[c0, c1, c2, c3, c4, c5]) (.int .i64 (k : Int))) w = .ok ((#[c0, c1, c2, c3, c4, c5] : Array Value).getD k undef) w := by
  have hu := run_underlying (P := Try.prog) Try.underlying22 w
  obtain ⟨i, hi, hz, hs, hb⟩ := info_int
  unfold Instr.index
  have : k = 0 ∨ k = 1 ∨ k = 2 ∨ k = 3 ∨ k = 4 ∨ k = 5 := by omega
  rcases this with rfl | rfl | rfl | rfl | rfl | rfl <;> simp [Sem.run_bind, asIntOf, hu, sizeOf, typeInfo, hi, hs, part, isAgg]
theorem flatR_take_le (rs : List (Bool × Rw)) (k : Nat) : (flatR (rs.take k)).length ≤ (flatR rs).length := by
  have h : flatR rs = flatR (rs.take k) ++ flatR (rs.drop k) := by rw [← flatR_app, List.take_append_drop]
  rw [h, List.length_append]; omega
theorem flatR_step (rs : List (Bool × Rw)) (k : Nat) (hk : k < rs.length) : flatR (rs.take (k + 1)) = flatR (rs.take k) ++ (rs.getD k default).2.v := by
  rw [List.take_add_one, flatR_app]
  simp [flatR, List.getD, List.getElem?_eq_getElem hk]
theorem runs_in {W : Wt7} {w : World} (h : W.In w) : ∀ r ∈ W.runs, r.2.In .i8 w := by
  intro r hr
  unfold Wt7.runs at hr
  rcases List.mem_append.1 hr with h1 | h1
  · rcases List.mem_cons.1 h1 with rfl | h2
    · exact h.1.row
    · unfold bruns at h2
      obtain ⟨b, hb, hrb⟩ := List.mem_flatMap.1 h2
      obtain ⟨b1, b2, b3, b4, b5, b6, b7, b8⟩ := h.2.2.2.1.2.2.1 b hb
      simp only [Bk7.runs, List.mem_cons, List.not_mem_nil, or_false] at hrb
      rcases hrb with rfl | rfl | rfl | rfl | rfl | rfl | rfl | rfl
      · exact b1
      · exact b3.row
      · exact b4.row
      · exact b5.row
      · exact b6.row
      · exact b2
      · exact b7.row
      · exact b8.row
  · simp only [List.mem_cons, List.not_mem_nil, or_false] at h1
    rcases h1 with rfl | rfl
    · exact h.2.2.1
    · exact h.2.1.row
set_option maxHeartbeats 1600000 in
set_option maxRecDepth 100000 in
/-- weights that aren't right have no file -/
theorem file_no (W : Wt7) (w : World) (hIn : W.In w) (hw : wholeB W = false) :
    Calls Try.prog 8 #[.agg W.cells] w fun e w' => e = .returned (.tuple #[.slice none 0 0, .int .i64 30]) ∧ Below w.heap.size w w' := by
  have HC : ∀ V T, Below w.heap.size w V → Calls Try.prog 9 #[.slice (some ⟨V.heap.size, 0, none⟩) 1 1] (V.alloc (.cells W.cells T)) fun e w' => e = .returned (.bool false) ∧ Below V.heap.size V w' := fun V T hV => by
    have h := code_whole V.heap.size 1 1 [W] _ (wts_one (T := T) W (hIn.bel hV))
    simp only [List.all_cons, List.all_nil, hw, Bool.and_true] at h
    exact h.mono fun e w' ⟨h1, h2⟩ => ⟨h1, ((Below.refl _ _).alloc (Nat.le_refl _) _).trans (h2.mono (by simp))⟩
  clear hIn hw
  unfold Wt7.cells at HC ⊢
  go_enter Try.func8, Try.ntmps8
  go_upto_region 1 with (fail)
  generalize hwa : w.alloc _ = wa
  have hB : Below w.heap.size w wa := by rw [← hwa]; exact (Below.refl _ _).alloc (Nat.le_refl _) _
  have XW : Box wa w.heap.size 32 W.cells := by rw [← hwa]; exact box_new _ _ _
  clear hwa
  have HB := Lib.hid hB
  have T1 := fun T => HC wa T hB
  clear hB HC
  unfold Wt7.cells at XW
  go_wp2_with (refine wpList_load_row rfl 32 _ rfl w.heap.size rfl 32 _ (0, 0) _ XW Try.underlying32 rfl (by kernel_rfl) ?_)
  refine (T1 _).mono ?_
  rintro e w1 ⟨rfl, hb⟩
  have HB1 := Lib.hid (below_two HB.out hb)
  clear T1 hb XW
  go_wp2_with fail
  go_ret2
  exact ⟨rfl, HB1.out⟩

set_option maxHeartbeats 6400000 in
set_option maxRecDepth 100000 in
/-- the file of right weights -/
theorem file_yes (s : Sz) (ok : s.Ok) (W : Wt7) (w : World) (hIn : W.In w) (hbn : W.bn ≤ 16) (hfl : W.flat.length ≤ 2232448) (he : W.l = s.l ∧ W.w = s.w ∧ W.h = s.h ∧ W.i = s.i ∧ W.v = s.v ∧ W.p = s.p) (hw : wtB s W = true) :
    Calls Try.prog 8 #[.agg W.cells] w fun e w' => (∃ v, e = .returned (.tuple #[v, .int .i64 0]) ∧ w'.ownsRow w.heap.size 5 1 v (24 + W.flat.length) ((fileL s W.flat).map (.int .u8))) ∧ Below w.heap.size w w' := by
  have HWC : W.cells = #[.int .i64 s.l, .int .i64 s.w, .int .i64 s.h, .int .i64 s.i, .int .i64 s.v, .int .i64 s.p, .int .i64 W.e.r, .int .i64 W.e.c, .slice W.e.a W.e.n W.e.cap, .slice W.ba W.bn W.bcap, .slice W.t.a W.t.n W.t.cap, .int .i64 W.hd.r, .int .i64 W.hd.c, .slice W.hd.a W.hd.n W.hd.cap] := by obtain ⟨e1, e2, e3, e4, e5, e6⟩ := he; unfold Wt7.cells; rw [e1, e2, e3, e4, e5, e6]
  have HC : ∀ V T, Below w.heap.size w V → Calls Try.prog 9 #[.slice (some ⟨V.heap.size, 0, none⟩) 1 1] (V.alloc (.cells W.cells T)) fun e w' => e = .returned (.bool true) ∧ Below V.heap.size V w' := fun V T hV => by
    have h := code_whole V.heap.size 1 1 [W] _ (wts_one (T := T) W (hIn.bel hV))
    simp only [List.all_cons, List.all_nil, wholeB_ok ok he, hw, Bool.and_true] at h
    exact h.mono fun e w' ⟨h1, h2⟩ => ⟨h1, ((Below.refl _ _).alloc (Nat.le_refl _) _).trans (h2.mono (by simp))⟩
  have HRU := fun V (hV : Below w.heap.size w V) => runs_any W V (hIn.bel hV) hbn
  have HCN := fun V => count_yes s V ok
  have HRI := Lib.hid (runs_in hIn)
  have HRL : Hid (W.runs.length = 8 * W.bn + 3) := Lib.hid (by unfold Wt7.runs; rw [List.length_append, List.length_cons, bruns_len, hIn.2.2.2.1.1]; simp)
  have HFL : Hid (W.flat = flatR W.runs) := Lib.hid rfl
  have LT := Lib.hid (fun k => flatR_take_le W.runs k)
  have hcn := cnt_le ok
  have HCW := Lib.hid HWC
  have HOK := Lib.hid ok
  rw [HWC] at HC HRU ⊢
  unfold Sz.val at HCN
  clear hIn hw he ok HWC
  generalize W.runs = RS at *
  go_enter Try.func8, Try.ntmps8
  go_upto_region 1 with (fail)
  generalize hwa : w.alloc _ = wa
  have hB : Below w.heap.size w wa := by rw [← hwa]; exact (Below.refl _ _).alloc (Nat.le_refl _) _
  have XW : Box wa w.heap.size 32 #[.int .i64 s.l, .int .i64 s.w, .int .i64 s.h, .int .i64 s.i, .int .i64 s.v, .int .i64 s.p, .int .i64 W.e.r, .int .i64 W.e.c, .slice W.e.a W.e.n W.e.cap, .slice W.ba W.bn W.bcap, .slice W.t.a W.t.n W.t.cap, .int .i64 W.hd.r, .int .i64 W.hd.c, .slice W.hd.a W.hd.n W.hd.cap] := by rw [← hwa]; exact box_new _ _ _
  clear hwa
  have HB := Lib.hid hB
  have HXW := Lib.hid XW
  have T1 := fun T => HC wa T hB
  clear hB HC
  go_wp2_with (refine wpList_load_row rfl 32 _ rfl w.heap.size rfl 32 _ (0, 0) _ XW Try.underlying32 rfl (by kernel_rfl) ?_)
  refine (T1 _).mono ?_
  rintro e w1 ⟨rfl, hb⟩
  have HB1 := Lib.hid (below_two HB.out hb)
  have XW1 := HXW.out.bel hb
  have HXW1 := Lib.hid XW1
  obtain ⟨z0, z1, z2, z3, z4, z5⟩ : w1.cell? ⟨w.heap.size, 0, none⟩ = some (.int .i64 s.l) ∧ w1.cell? ⟨w.heap.size, 1, none⟩ = some (.int .i64 s.w) ∧ w1.cell? ⟨w.heap.size, 2, none⟩ = some (.int .i64 s.h) ∧ w1.cell? ⟨w.heap.size, 3, none⟩ = some (.int .i64 s.i) ∧ w1.cell? ⟨w.heap.size, 4, none⟩ = some (.int .i64 s.v) ∧ w1.cell? ⟨w.heap.size, 5, none⟩ = some (.int .i64 s.p) := ⟨XW1.cell 0, XW1.cell 1, XW1.cell 2, XW1.cell 3, XW1.cell 4, XW1.cell 5⟩
  clear T1 hb XW XW1 HXW
  go_upto_region 4 with (fail)
  generalize hw2 : World.alloc _ _ = w2
  have hb2 : Below w1.heap.size w1 w2 := by rw [← hw2]; exact (Below.refl _ _).alloc (Nat.le_refl _) _
  have XS2 : Box w2 w1.heap.size 25 #[.int .i64 s.l, .int .i64 s.w, .int .i64 s.h, .int .i64 s.i, .int .i64 s.v, .int .i64 s.p] := by rw [← hw2]; exact box_new _ _ _
  have HB2 := Lib.hid (below_two HB1.out hb2)
  have HXW2 := Lib.hid (HXW1.out.bel hb2)
  have HXS2 := Lib.hid XS2
  obtain ⟨c0, c1, c2, c3, c4, c5⟩ := XS2.cells6
  clear hw2 hb2 XS2 HXW1 z0 z1 z2 z3 z4 z5
  go_wp2_with fail
  refine (HCN _).mono ?_
  rintro e w3 ⟨rfl, hb⟩
  have HB3 := Lib.hid (below_two HB2.out hb)
  have HXW3 := Lib.hid (HXW2.out.bel hb)
  have HXS3 := Lib.hid (HXS2.out.bel hb)
  clear hb c0 c1 c2 c3 c4 c5 HXW2 HXS2 HCN
  obtain ⟨cc, hcc⟩ : ∃ c : Nat, 24 + cnt s = c := ⟨_, rfl⟩
  have hccl : cc ≤ 16777216 := by omega
  have ecc : (24 : Int) + (cnt s : Int) = (cc : Int) := by omega
  have hmk := fun V => run_make_room cc hccl V
  have hor := Lib.hid (own_room cc hccl w3)
  have HCC := Lib.hid hcc
  clear hcc
  obtain ⟨i0, hi0, hz0, hz1, hz2⟩ := info_u8
  obtain ⟨v4, w4, hrun, ho4, hg4, _⟩ := Lib.run_append_own_string (P := Try.prog) (w3.alloc (.cells (madeCells #[.int .u8 0] cc) 5)) w3.heap.size 41 9 41 5 i0 Try.underlying41 Try.underlying9 hi0 hz0 hz1 hz2 (.slice (some ⟨w3.heap.size, 0, none⟩) 0 cc) 0 [] hor.out { data := #[80, 69, 76, 79, 84, 79, 78, 49] } (by decide) (by decide) (by simp)
  have HO4 : Hid (w4.ownsRow w3.heap.size 5 1 v4 (8 + 2 * 0) ((headL s 0).map (.int .u8))) := Lib.hid ho4
  have hb4 : Below w3.heap.size w3 w4 := ((Below.refl _ _).alloc (Nat.le_refl _) _).grown hg4 (by simp) (fun k hk => by cases hk; exact Nat.le_refl _)
  have HB4 := Lib.hid (below_two HB3.out hb4)
  have HX4 := Lib.hid (HXW3.out.bel hb4)
  have HS4 := Lib.hid (HXS3.out.bel hb4)
  have HB34 := Lib.hid hb4
  clear hi0 hz0 hz1 hz2 ho4 hg4 hb4 HXS3 hor
  go_upto_region 5 with (at_builtin; refine wpList_append_at2 (by rfl) _ _ _ _ (by rfl) _ _ (by rfl) (by rfl) hrun ?_)
  clear hrun hmk ecc
  obtain ⟨c0, c1, c2, c3, c4, c5⟩ := HS4.out.cells6
  go_wp2_with fail
  clear c0 c1 c2 c3 c4 c5
  have H6 := Lib.hid (fun k => sixL_le s HOK.out k)
  have IX := fun k hk V => run_index6 (.int .i64 s.l) (.int .i64 s.w) (.int .i64 s.h) (.int .i64 s.i) (.int .i64 s.v) (.int .i64 s.p) k hk V
  have i0 : ∀ V, Sem.run Try.prog (Instr.index 22 (.agg #[.int .i64 s.l, .int .i64 s.w, .int .i64 s.h, .int .i64 s.i, .int .i64 s.v, .int .i64 s.p]) (.int .i64 0)) V = .ok (.int .i64 s.l) V := fun V => IX 0 (by omega) V
  have i1 : ∀ V, Sem.run Try.prog (Instr.index 22 (.agg #[.int .i64 s.l, .int .i64 s.w, .int .i64 s.h, .int .i64 s.i, .int .i64 s.v, .int .i64 s.p]) (.int .i64 1)) V = .ok (.int .i64 s.w) V := fun V => IX 1 (by omega) V
  have i2 : ∀ V, Sem.run Try.prog (Instr.index 22 (.agg #[.int .i64 s.l, .int .i64 s.w, .int .i64 s.h, .int .i64 s.i, .int .i64 s.v, .int .i64 s.p]) (.int .i64 2)) V = .ok (.int .i64 s.h) V := fun V => IX 2 (by omega) V
  have i3 : ∀ V, Sem.run Try.prog (Instr.index 22 (.agg #[.int .i64 s.l, .int .i64 s.w, .int .i64 s.h, .int .i64 s.i, .int .i64 s.v, .int .i64 s.p]) (.int .i64 3)) V = .ok (.int .i64 s.i) V := fun V => IX 3 (by omega) V
  have i4 : ∀ V, Sem.run Try.prog (Instr.index 22 (.agg #[.int .i64 s.l, .int .i64 s.w, .int .i64 s.h, .int .i64 s.i, .int .i64 s.v, .int .i64 s.p]) (.int .i64 4)) V = .ok (.int .i64 s.v) V := fun V => IX 4 (by omega) V
  have i5 : ∀ V, Sem.run Try.prog (Instr.index 22 (.agg #[.int .i64 s.l, .int .i64 s.w, .int .i64 s.h, .int .i64 s.i, .int .i64 s.v, .int .i64 s.p]) (.int .i64 5)) V = .ok (.int .i64 s.p) V := fun V => IX 5 (by omega) V
  clear IX
  go_loopw [5, 36] (fun v' i' wr => ∃ k : Nat, k ≤ 6 ∧ i' = .int .i64 k ∧ Hid (wr.ownsRow w3.heap.size 5 1 v' (8 + 2 * k) ((headL s k).map (.int .u8))) ∧ Hid (Below w3.heap.size w3 wr)) (fun _ i' _ => 6 - (intOf i').toNat)
  case atStart => exact ⟨0, by omega, rfl, HO4, HB34⟩
  case round =>
    obtain ⟨k, hk, rfl, hown, hbel⟩ := hrel
    by_cases hlt : k < 6
    · have hx := H6.out k hlt
      have hp := put16_any w3.heap.size wr u5 (8 + 2 * k) (headL s k) hown.out ((sixL s).getD k 0) (by omega) (by omega) hbel.out.size
      rw [lo2_be2 (by omega), ← headL_succ s k hlt] at hp
      have hcase : k = 0 ∨ k = 1 ∨ k = 2 ∨ k = 3 ∨ k = 4 ∨ k = 5 := by omega
      have HBR := hbel
      clear hown hbel
      rcases hcase with rfl | rfl | rfl | rfl | rfl | rfl
      all_goals
        go_wp2_with fail
        refine hp.mono ?_
        rintro e w5 ⟨⟨v5, rfl, ho5⟩, hb5⟩
        have HO5 := Lib.hid ho5
        have HB5 := Lib.hid (HBR.out.trans hb5)
        clear hp ho5 hb5
        go_wp2_with fail
        go_roundw
        case rel => exact ⟨_, by omega, by go_num, HO5, HB5⟩
        case measure => simp [intOf]
    · obtain rfl : k = 6 := by omega
      have HX5 := Lib.hid (HXW3.out.bel hbel.out)
      have HB5 := Lib.hid (HB3.out.trans (hbel.out.mono HB3.out.size))
      have hru := HRU wr HB5.out
      have XW5 := HX5.out
      clear HRU
      go_wp2_with (refine wpList_load_row rfl 32 _ rfl w.heap.size rfl 32 _ (0, 0) _ XW5 Try.underlying32 rfl (by kernel_rfl) ?_)
      refine hru.mono ?_
      rintro e w6 ⟨⟨vr, rfl, hor⟩, hb6⟩
      obtain ⟨g, rcap, cur, rfl, hgb, hXg, hrc, hcur⟩ := own_box hor (by omega)
      have HO6 : Hid (w6.ownsRow w3.heap.size 5 1 u5 (20 + 0) ((headL s 6 ++ (flatR (RS.take 0)).map u8).map (.int .u8))) := Lib.hid (by
        have h := own_below hown.out hb6
        simpa [flatR] using h)
      have HB6 := Lib.hid (HB5.out.trans (hb6.mono HB5.out.size))
      have HB36 := Lib.hid (hbel.out.trans (hb6.mono hbel.out.size))
      have HXG := Lib.hid hXg
      have HCU := Lib.hid hcur
      clear hor hb6 hXg hcur hru XW5 HX5 hown hbel
      go_wp2_with fail
      go_loopw [5, 46] (fun v' i' wr' => ∃ k m : Nat, k ≤ 8 * W.bn + 3 ∧ i' = .int .i64 k ∧ Hid (m = 20 + (flatR (RS.take k)).length) ∧ Hid (wr'.ownsRow w3.heap.size 5 1 v' m ((headL s 6 ++ (flatR (RS.take k)).map u8).map (.int .u8))) ∧ Hid (Below w3.heap.size w3 wr') ∧ Hid (Box wr' g 63 cur)) (fun _ i' _ => 8 * W.bn + 3 - (intOf i').toNat)
      case atStart => exact ⟨0, 20, by omega, rfl, Lib.hid rfl, HO6, HB36, HXG⟩
      case round =>
        obtain ⟨k, m, hk, rfl, hm, hown, hbel, hX⟩ := hrel
        have hBw := HB3.out.trans (hbel.out.mono HB3.out.size)
        by_cases hlt : k < 8 * W.bn + 3
        · obtain ⟨r, hr⟩ : ∃ r, RS.getD k default = r := ⟨_, rfl⟩
          have hkl : k < RS.length := by rw [HRL.out]; exact hlt
          have hrin : r.2.In .i8 w := HRI.out r (by rw [← hr, List.getD_eq_getElem?_getD, List.getElem?_eq_getElem hkl]; exact List.getElem_mem _)
          obtain ⟨q1, q2⟩ := rnc_at RS k hkl
          rw [hr] at q1 q2
          have c0 : wr.cell? ⟨g, k * 2, none⟩ = some (.slice r.2.a r.2.n r.2.cap) := by rw [hX.out.cell, HCU.out _ (by omega)]; exact q1
          have c1 : wr.cell? ⟨g, k * 2 + 1, none⟩ = some (.bool r.1) := by rw [hX.out.cell, HCU.out _ (by omega)]; exact q2
          have hst := Lib.hid (flatR_step RS k hkl)
          have HR := Lib.hid hr
          have hrn : (flatR (RS.take (k + 1))).length ≤ 2232448 := by have := LT.out (k + 1); rw [← HFL.out] at this; omega
          have hmb : m + r.2.n ≤ 2232468 := by rw [hst.out, hr, List.length_append, hrin.1.1] at hrn; rw [hm.out]; omega
          have HM2 : Hid (m + r.2.n = 20 + (flatR (RS.take (k + 1))).length) := Lib.hid (by rw [hst.out, hr, List.length_append, hrin.1.1, hm.out]; omega)
          have HIN := Lib.hid hrin
          have i1 : (k : Int) < 8 * (W.bn : Int) + 3 := by omega
          have e1 : (k : Int) * 2 = ((k * 2 : Nat) : Int) := by omega
          have hrn2 := hrin.1.2.1
          clear q1 q2 hrin hr hrn
          go_upto_region 13 with fail
          generalize hy0 : World.alloc _ _ = y0
          have hb0 : Below wr.heap.size wr y0 := by rw [← hy0]; exact (Below.refl _ _).alloc (Nat.le_refl _) _
          have X0 : Box y0 wr.heap.size 63 #[.slice r.2.a r.2.n r.2.cap, .bool r.1] := by rw [← hy0]; exact box_new _ _ _
          have HO0 := Lib.hid (own_below hown.out hb0)
          have HB0 := Lib.hid (hbel.out.trans (hb0.mono hbel.out.size))
          have HX0 := Lib.hid (hX.out.bel hb0)
          have d0 : y0.cell? ⟨wr.heap.size, 0, none⟩ = some (.slice r.2.a r.2.n r.2.cap) := X0.cell 0
          have HBw := Lib.hid hBw
          have HP : Hid (headL s 6 ++ (flatR (RS.take (k + 1))).map u8 = (headL s 6 ++ (flatR (RS.take k)).map u8) ++ r.2.v.map u8) := Lib.hid (by rw [hst.out, HR.out, List.map_append, List.append_assoc])
          clear hy0 hb0 X0 c0 c1 hown hbel hX hst HR hBw
          generalize headL s 6 ++ (flatR (RS.take k)).map u8 = P at *
          go_wp2_with fail
          clear d0
          have HO00 : Hid (y0.ownsRow w3.heap.size 5 1 u5 (m + 0) ((P ++ (r.2.v.take 0).map u8).map (.int .u8))) := Lib.hid (by simpa using HO0.out)
          go_loopw [5, 53] (fun v' i' wr' => ∃ j : Nat, j ≤ r.2.n ∧ i' = .int .i64 j ∧ Hid (wr'.ownsRow w3.heap.size 5 1 v' (m + j) ((P ++ (r.2.v.take j).map u8).map (.int .u8))) ∧ Hid (Below w3.heap.size w3 wr') ∧ Hid (Box wr' g 63 cur)) (fun _ i' _ => r.2.n - (intOf i').toNat)
          case atStart => exact ⟨0, by omega, rfl, HO00, HB0, HX0⟩
          case round =>
            obtain ⟨j, hj, rfl, hown2, hbel2, hX2⟩ := hrel
            by_cases hlt2 : j < r.2.n
            · have hE := HIN.out.1.below (HB3.out.trans (hbel2.out.mono HB3.out.size))
              have hll := hE.1
              obtain ⟨b, off, x, hra, hc, hx, wx⟩ := hE.at_ hlt2
              have hbx := wf8 wx
              have w1' : IntKind.u8.wrap x = u8 x := IntKind.wrap_u8' x
              have hst : (r.2.v.take (j + 1)).map u8 = (r.2.v.take j).map u8 ++ [u8 x] := by
                rw [List.take_add_one, List.map_append, ← hx.out]
                simp [List.getD, List.getElem?_eq_getElem (show j < r.2.v.length by omega)]
              obtain ⟨v2, w2', hrun, ho2, hg2, _⟩ := run_append_lits (P := Try.prog) .u8 wr w3.heap.size 41 5 1 (by omega) Try.underlying41 info_u8 _ (m + j) 1 _ [u8 x] #[.int .u8 (u8 x)] rfl rfl hown2.out (by omega) (by omega) hbel2.out.size
              rw [List.append_assoc, ← hst] at ho2
              have HO : Hid (w2'.ownsRow w3.heap.size 5 1 v2 (m + (j + 1)) ((P ++ (r.2.v.take (j + 1)).map u8).map (.int .u8))) := Lib.hid ho2
              have HBN := Lib.hid (hbel2.out.grown hg2 hbel2.out.size (fun q hq => (hown2.out.lt q hq).1))
              have HXN := Lib.hid (hX2.out.kept hg2 (own_ne hown2.out hX2.out (by decide)))
              have HRA := Lib.hid hra
              generalize u8 x = y at *
              rw [hra]
              clear ho2 hg2 hst hx wx hE hll hown2 hbel2 hX2 hra
              go_wp2_with (at_builtin; refine wpList_append_at (by rfl) _ _ _ (by rfl) _ _ (by rfl) (by rfl) hrun ?_)
              clear hrun hc
              go_roundw
              case rel => exact ⟨j + 1, by omega, by go_num, HO, HBN, HXN⟩
              case measure => simp [intOf]; omega
            · obtain rfl : j = r.2.n := by omega
              have HO : Hid (wr.ownsRow w3.heap.size 5 1 u5 (m + r.2.n) ((headL s 6 ++ (flatR (RS.take (k + 1))).map u8).map (.int .u8))) := Lib.hid (by
                have h := hown2.out
                rw [List.take_of_length_le (by rw [HIN.out.1.1]; exact Nat.le_refl _)] at h
                rw [HP.out]
                exact h)
              have i3 : ¬ (r.2.n : Int) < (r.2.n : Int) := by omega
              go_wp2_with fail
              go_roundw
              case rel => exact ⟨k + 1, m + r.2.n, by omega, by go_num, HM2, HO, hbel2, hX2⟩
              case measure => simp [intOf]; omega
        · obtain rfl : k = 8 * W.bn + 3 := by omega
          have hbody : headL s 6 ++ (flatR (RS.take (8 * W.bn + 3))).map u8 = bodyL s W.flat := by rw [List.take_of_length_le (by rw [HRL.out]; exact Nat.le_refl _), HFL.out]; rfl
          have hm2 : m = 20 + W.flat.length := by rw [hm.out, List.take_of_length_le (by rw [HRL.out]; exact Nat.le_refl _), HFL.out]
          have ho := hown.out
          rw [hbody] at ho
          have hwf := bodyL_wf s HOK.out W.flat
          obtain ⟨fa, fcap, rfl, hE, hc1, hc2, _, hfa⟩ := own_lies ho hwf (by omega)
          obtain ⟨fb, rfl⟩ := hfa (by omega)
          have HW0 : Below wr.heap.size wr (wr.alloc (.cells #[.slice (some ⟨fb, 0, none⟩) m fcap] 41)) := (Below.refl _ _).alloc (Nat.le_refl _) _
          have HSu : Calls Try.prog 11 #[.slice (some ⟨wr.heap.size, 0, none⟩) 1 1] (wr.alloc (.cells #[.slice (some ⟨fb, 0, none⟩) m fcap] 41)) fun e w' => e = .returned (.int .u32 (csum (bodyL s W.flat) : Nat)) ∧ (wr.alloc (.cells #[.slice (some ⟨fb, 0, none⟩) m fcap] 41)) = w' := by
            have h0 := sum_any (some ⟨wr.heap.size, 0, none⟩) 1 1 [⟨some ⟨fb, 0, none⟩, m, fcap, bodyL s W.flat⟩] _ (rws_one (T := 41) (⟨some ⟨fb, 0, none⟩, m, fcap, bodyL s W.flat⟩ : Rw) (k := .u8) (w := wr) ⟨hE, hc1, hc2, ⟨nofun, fun x hx _ => by cases hx; rfl⟩⟩ rfl)
            simpa [catR] using h0
          have HPu := put32_any w3.heap.size _ _ m _ (own_below ho HW0) (csum (bodyL s W.flat)) (csum_lt _) (by omega) (by have := hbel.out.size; simp; omega)
          have HFI : Hid (bodyL s W.flat ++ be4 (csum (bodyL s W.flat)) = fileL s W.flat) := Lib.hid rfl
          have HB9 := Lib.hid (hbel.out.trans (HW0.mono hbel.out.size))
          have HM9 := Lib.hid hm2
          have i4 : ¬ 8 * (W.bn : Int) + 3 < 8 * (W.bn : Int) + 3 := by omega
          generalize csum (bodyL s W.flat) = S at *
          clear hbody ho hwf hE HW0 hown hbel hX hm2 hm
          go_wp2_with fail
          refine HSu.mono ?_
          rintro e w' ⟨rfl, rfl⟩
          clear HSu
          go_wp2_with fail
          refine HPu.mono ?_
          rintro e w8 ⟨⟨v8, rfl, ho8⟩, hb8⟩
          rw [HFI.out] at ho8
          have HOF : Hid (w8.ownsRow w.heap.size 5 1 v8 (24 + W.flat.length) ((fileL s W.flat).map (.int .u8))) := Lib.hid (by
            have h := Go.Joins.ownsRow_le ho8 HB3.out.size
            rw [show 24 + W.flat.length = m + 4 by have := HM9.out; omega]
            exact h)
          have HBF := Lib.hid (HB3.out.trans ((HB9.out.trans hb8).mono HB3.out.size))
          clear HPu ho8 hb8
          go_wp2_with fail
          go_ret2
          exact ⟨⟨_, rfl, HOF.out⟩, HBF.out⟩




end Go.Proofs.Ytgbbfmpofmeadaa
