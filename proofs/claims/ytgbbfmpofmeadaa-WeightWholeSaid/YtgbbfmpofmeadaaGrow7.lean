/-
  The code's Grow.
-/
import Derived.Test.YtgbbfmpofmeadaaFilled7
import Derived.Test.YtgbbfmpofmeadaaGrow1
import Derived.Test.YtgbbfmpofmeadaaGrown
namespace Go.Proofs.Ytgbbfmpofmeadaa
open Go.RowKit
set_option linter.unusedVariables false

theorem results_row_tmp {P : Program} {fn : Func} {p u : Tmp} {ty : TypeId} (h : fn.results = #[.cell p ty, .tmp u]) {tmps : Array Value} {w : World} {g : Nat} {T : TypeId} {cs : Array Value} {d : TypeDesc} (hp : tmps.getD p undef = .pointer (some ⟨g, 0, none⟩)) (hg : Box w g T cs) (hu : P.underlying ty = some d) (hd : (match d with | .struct _ | .array _ _ => true | _ => false) = true) (hi : (P.info? ty).map (·.size) = some cs.size) {v : Value} (hv : tmps.getD u undef = v) :
    (results fn tmps).run P w = .ok (.tuple #[.agg cs, v]) w := by
  have hl := run_loadVar_row (P := P) w g T ty cs (0, 0) d hg hu hd hi
  rw [results_cell_tmp h, hp, hv]
  simp [hl, asAddr]

/-- what Grow and Parse answer where they answer weights -/
def GivesW (s : Sz) (f : Nat → Int) (e : Ending) (w' : World) : Prop := ∃ (G : Nat → Nat) (b : Nat), e = .returned (.tuple #[.agg (mkW s G b (fillV s f (cnt s))).cells, .int .i64 0]) ∧ Pool7 s G b (fillV s f (cnt s)) w'

set_option maxHeartbeats 3200000 in
set_option maxRecDepth 100000 in
theorem grow_yes (s : Sz) (ok : s.Ok) (x : Nat) (hx : x < 18446744073709551616) (w : World) :
    Calls Try.prog 6 #[s.val, .int .u64 x] w fun e w' => GivesW s (grownF s x) e w' ∧ Below w.heap.size w w' := by
  have r1 := fun W => right_yes s.l s.w s.h s.i s.v s.p W ok
  have HOK := Lib.hid ok
  have HX := Lib.hid hx
  clear ok hx
  unfold Sz.val
  go_enter Try.func6, Try.ntmps6
  go_wp2_with fail
  generalize hwa : ((w.alloc _).alloc _).alloc _ = wa
  have hz : wa.heap.size = w.heap.size + 3 := by rw [← hwa]; simp
  have XS : Box wa w.heap.size 25 #[.int .i64 s.l, .int .i64 s.w, .int .i64 s.h, .int .i64 s.i, .int .i64 s.v, .int .i64 s.p] := by rw [← hwa]; exact ((box_new _ _ _).alloc _).alloc _
  have XC : Box wa (w.heap.size + 1) 36 #[.int .u64 (x : Nat)] := by rw [← hwa]; exact (box_at (by simp) _ _).alloc _
  have XR : Box wa (w.heap.size + 1 + 1) 32 zwts := by rw [← hwa]; exact box_at (by simp) _ _
  have hB : Below w.heap.size w wa := by rw [← hwa]; exact (((Below.refl _ _).alloc (Nat.le_refl _) _).alloc (by simp) _).alloc (by simp; omega) _
  clear hwa
  refine (r1 _).mono ?_
  rintro e wb ⟨rfl, hb⟩
  have XS2 := XS.bel hb
  have XC2 := XC.bel hb
  have XR2 := XR.bel hb
  have hB2 := hB.trans (hb.mono (by omega))
  have hz2 := hb.size
  clear XS XC XR hB hb r1
  obtain ⟨c0, c1, c2, c3, c4, c5⟩ := XS2.cells6
  go_wp2_with fail
  clear c0 c1 c2 c3 c4 c5
  have hfill := filled_grow s HOK.out wb (w.heap.size + 1) 36 (fun k => .int .u64 (seedK x k : Nat)) (grownF s x) (gainK (rowsL s)) XC2 ⟨by decide, by decide⟩ (fun k => numK_wf _ _ (seedK_lt x HX.out _))
    (fun j i hj hi => gainK_at (rowsL s) j i (by rw [rowsL_len]; exact hj) hi)
    (fun k W hk hbox _ => by
      have hgr : grownF s x k = numK (gainK (rowsL s) k) (nxt (seedK x k)) := Eq.refl _
      rw [hgr]
      cases gainK (rowsL s) k with
      | true => exact (grow1_true _ _ W hbox).mono fun e w' ⟨h1, h2⟩ => ⟨h1, 0, h2⟩
      | false => exact (grow1_false _ _ W hbox).mono fun e w' ⟨h1, h2⟩ => ⟨h1, 0, h2⟩)
  refine hfill.mono ?_
  rintro e wc ⟨⟨G, b, rfl, hIn⟩, hkeep, hbel⟩
  have XR3 : Box wc (w.heap.size + 1 + 1) 32 zwts := (hkeep _ (by omega) (by omega)).trans XR2
  have hB3 := hB2.trans (hbel.mono (by omega))
  have gS := grownBy_setRow wc (w.heap.size + 1 + 1) (wval s.l s.w s.h s.i s.v s.p (G 0) b (G (8 * s.l + 1)) (G (8 * s.l + 2)))
  have X4 := Lib.hid (XR3.setRow (cs' := wval s.l s.w s.h s.i s.v s.p (G 0) b (G (8 * s.l + 1)) (G (8 * s.l + 2))))
  have HB4 := Lib.hid (below_setRow (cs := wval s.l s.w s.h s.i s.v s.p (G 0) b (G (8 * s.l + 1)) (G (8 * s.l + 2))) hB3 (show w.heap.size ≤ w.heap.size + 1 + 1 by omega) hB3.size)
  have HIN := Lib.hid (hIn.setRow XR3 (show 32 ≠ 56 by decide) (show 32 ≠ 39 by decide) (wval s.l s.w s.h s.i s.v s.p (G 0) b (G (8 * s.l + 1)) (G (8 * s.l + 2))))
  have HXR := Lib.hid XR3
  clear hIn hkeep hbel XS2 XC2 XR2 hB2 hB3 hfill gS
  go_wp2_with (refine wpList_store_row rfl 32 _ _ rfl (w.heap.size + 1 + 1) (wval s.l s.w s.h s.i s.v s.p (G 0) b (G (8 * s.l + 1)) (G (8 * s.l + 2))) rfl rfl 32 _ HXR.out (by kernel_rfl) rfl (wval_one _ _ _ _ _ _ _ _ _ _) ?_)
  exact bodyPost_ret (v := .tuple #[.agg (wval s.l s.w s.h s.i s.v s.p (G 0) b (G (8 * s.l + 1)) (G (8 * s.l + 2))), .int .i64 0]) (results_row_tmp rfl rfl X4.out Try.underlying32 rfl (by kernel_rfl) rfl) rfl ⟨⟨G, b, rfl, HIN.out⟩, HB4.out⟩

/-- a shape that isn't right -/
theorem grow_no (l wd h i v p : Int) (x : Nat) (w : World) (b : (-9223372036854775808 ≤ l ∧ l ≤ 9223372036854775807) ∧ (-9223372036854775808 ≤ wd ∧ wd ≤ 9223372036854775807) ∧ (-9223372036854775808 ≤ h ∧ h ≤ 9223372036854775807)) (no : ¬ OkI l wd h i v p) :
    Calls Try.prog 6 #[shv l wd h i v p, .int .u64 x] w fun e w' => e = .returned (.tuple #[.agg zwts, .int .i64 30]) ∧ Below w.heap.size w w' := by
  have r1 := fun W => right_no l wd h i v p W b no
  clear b no
  go_enter Try.func6, Try.ntmps6
  go_wp2_with fail
  generalize hwa : ((w.alloc _).alloc _).alloc _ = wa
  have hz : wa.heap.size = w.heap.size + 3 := by rw [← hwa]; simp
  have XR : Box wa (w.heap.size + 1 + 1) 32 zwts := by rw [← hwa]; exact box_at (by simp) _ _
  have hB : Below w.heap.size w wa := by rw [← hwa]; exact (((Below.refl _ _).alloc (Nat.le_refl _) _).alloc (by simp) _).alloc (by simp; omega) _
  clear hwa
  refine (r1 _).mono ?_
  rintro e wb ⟨rfl, hb⟩
  have XR2 := XR.bel hb
  have hB2 := hB.trans (hb.mono (by omega))
  have X4 := Lib.hid (XR2.setRow (cs' := zwts))
  have HB4 := Lib.hid (below_setRow (cs := zwts) hB2 (show w.heap.size ≤ w.heap.size + 1 + 1 by omega) hB2.size)
  clear XR hB hb hB2 r1
  go_wp2_with (refine wpList_store_row rfl 32 _ _ rfl (w.heap.size + 1 + 1) zwts rfl rfl 32 _ XR2 (by kernel_rfl) rfl (by simp [zwts, Value.oneCell']) ?_)
  exact bodyPost_ret (v := .tuple #[.agg zwts, .int .i64 30]) (results_row_tmp rfl rfl X4.out Try.underlying32 rfl (by kernel_rfl) rfl) rfl ⟨rfl, HB4.out⟩

end Go.Proofs.Ytgbbfmpofmeadaa
