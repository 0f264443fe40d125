/-
  The document's examples of stage 10: awake returns true.
-/
import Derived.Test.YtledjabhbakdeaaHas10
import Derived.Test.YtledjabhbakdeaaEqTwo
namespace Go.Proofs.Ytledjabhbakdeaa
open Go.RowKit
set_option linter.unusedVariables false

/-- what the document's Right answers -/
def SaysD (l w h i v p st pt : Int) (b : Bool) : Prop := ∀ W : World, Calls Try.prog 8 #[shv l w h i v p, cutv st pt] W fun e w' => e = .returned (.bool b) ∧ Below W.heap.size W w'
theorem rights10 (l w h i v p st pt : Int) (bl : -9223372036854775808 ≤ l ∧ l ≤ 9223372036854775807) (bw : -9223372036854775808 ≤ w ∧ w ≤ 9223372036854775807) (bh : -9223372036854775808 ≤ h ∧ h ≤ 9223372036854775807) (bs : -9223372036854775808 ≤ st ∧ st ≤ 9223372036854775807) (bp : -9223372036854775808 ≤ pt ∧ pt ≤ 9223372036854775807) :
    (OkI l w h i v p ∧ OkC l h i st pt ∧ SaysR l w h i v p st pt true ∧ SaysD l w h i v p st pt true) ∨ (¬ (OkI l w h i v p ∧ OkC l h i st pt) ∧ SaysR l w h i v p st pt false ∧ SaysD l w h i v p st pt false) := by
  by_cases ok : OkI l w h i v p
  · by_cases oc : OkC l h i st pt
    · exact .inl ⟨ok, oc, fun W => sright_yes l w h i v p st pt W ok oc, fun W => dcut_yes l w h i v p st pt W ok oc⟩
    · exact .inr ⟨fun hh => oc hh.2, fun W => sright_no l w h i v p st pt W ok bs bp oc, fun W => dcut_no l w h i v p st pt W ok bs bp oc⟩
  · exact .inr ⟨fun hh => ok hh.1, fun W => sright_bad l w h i v p st pt W ⟨bl, bw, bh⟩ ok, fun W => dcut_bad l w h i v p st pt W ⟨bl, bw, bh⟩ ok⟩

set_option maxHeartbeats 1600000 in
set_option maxRecDepth 100000 in
theorem awake10 (w : World) : Calls Try.prog 7 #[] w fun e w' => e = .returned (.bool true) ∧ Below w.heap.size w w' := by
  have R : SaysR 5 8 4 6 3 4 2 2 true := fun W => sright_yes _ _ _ _ _ _ _ _ W ⟨by decide, by decide, by decide, by decide, by decide, by decide, by decide, by decide, by decide, by decide, by decide, by decide, by decide⟩ ⟨by decide, by decide, by decide, by decide, by decide, by decide⟩
  have L0 : ∀ W : World, Calls Try.prog 11 #[.agg #[.int .i64 5, .int .i64 8, .int .i64 4, .int .i64 6, .int .i64 3, .int .i64 4], .agg #[.int .i64 2, .int .i64 2], .int .i64 0] W fun e w' => e = .returned (.tuple #[.agg #[.int .i64 0, .int .i64 2], .int .i64 0]) ∧ Below W.heap.size W w' :=
    fun W => layers_yes 5 8 4 6 3 4 2 2 0 5 2 W R rfl rfl (by decide) (by decide) (by decide)
  have L1 : ∀ W : World, Calls Try.prog 11 #[.agg #[.int .i64 5, .int .i64 8, .int .i64 4, .int .i64 6, .int .i64 3, .int .i64 4], .agg #[.int .i64 2, .int .i64 2], .int .i64 1] W fun e w' => e = .returned (.tuple #[.agg #[.int .i64 2, .int .i64 5], .int .i64 0]) ∧ Below W.heap.size W w' :=
    fun W => layers_yes 5 8 4 6 3 4 2 2 1 5 2 W R rfl rfl (by decide) (by decide) (by decide)
  have H1 : ∀ W : World, Calls Try.prog 12 #[.agg #[.int .i64 5, .int .i64 8, .int .i64 4, .int .i64 6, .int .i64 3, .int .i64 4], .agg #[.int .i64 2, .int .i64 2], .int .i64 1] W fun e w' => e = .returned (.tuple #[.agg #[.int .i64 2, .int .i64 4], .int .i64 0]) ∧ Below W.heap.size W w' :=
    fun W => heads_yes 5 8 4 6 3 4 2 2 1 4 2 W R rfl rfl (by decide) (by decide) (by decide)
  have N1 : ∀ W : World, Calls Try.prog 10 #[.agg #[.int .i64 5, .int .i64 8, .int .i64 4, .int .i64 6, .int .i64 3, .int .i64 4], .agg #[.int .i64 2, .int .i64 2]] W fun e w' => e = .returned (.int .i64 4) ∧ Below W.heap.size W w' :=
    fun W => workers_yes 5 8 4 6 3 4 2 2 W 4 rfl (by decide) R
  have R0 : ∀ W : World, Calls Try.prog 9 #[.agg #[.int .i64 5, .int .i64 8, .int .i64 4, .int .i64 6, .int .i64 3, .int .i64 4], .agg #[.int .i64 2, .int .i64 4]] W fun e w' => e = .returned (.bool false) ∧ Below W.heap.size W w' :=
    fun W => sright_no 5 8 4 6 3 4 2 4 W ⟨by decide, by decide, by decide, by decide, by decide, by decide, by decide, by decide, by decide, by decide, by decide, by decide, by decide⟩ (by decide) (by decide) (fun h => absurd h.2.2.2.2.1 (by decide))
  clear R
  go_enter Try.func7, Try.ntmps7
  go_wp2_with fail
  refine (L0 _).mono ?_
  rintro e wa ⟨rfl, hb⟩
  have XS := ((box_new w _ _).alloc _).bel hb
  have XC := (box_at (show w.heap.size + 1 = (w.alloc _).heap.size by simp) _ _).bel hb
  have B := below_two (((Below.refl w.heap.size w).alloc (Nat.le_refl _) _).alloc (by simp) _) hb
  obtain ⟨c0, c1, c2, c3, c4, c5⟩ := (XS.alloc (.cells #[Value.int .i64 0, .int .i64 2] 29)).cells6
  obtain ⟨d0, d1⟩ := two_cells (XC.alloc (.cells #[Value.int .i64 0, .int .i64 2] 29))
  clear hb L0
  go_wp2_with fail
  refine (L1 _).mono ?_
  rintro e wb ⟨rfl, hb⟩
  clear c0 c1 c2 c3 c4 c5 d0 d1
  replace XS := (XS.alloc _).bel hb
  replace XC := (XC.alloc _).bel hb
  have XA := (box_new wa _ _).bel hb
  replace B := below_two (B.alloc B.size _) hb
  obtain ⟨c0, c1, c2, c3, c4, c5⟩ := (XS.alloc (.cells #[Value.int .i64 2, .int .i64 5] 29)).cells6
  obtain ⟨d0, d1⟩ := two_cells (XC.alloc (.cells #[Value.int .i64 2, .int .i64 5] 29))
  clear hb L1
  go_wp2_with fail
  refine (H1 _).mono ?_
  rintro e wc ⟨rfl, hb⟩
  clear c0 c1 c2 c3 c4 c5 d0 d1
  replace XS := (XS.alloc _).bel hb
  replace XC := (XC.alloc _).bel hb
  replace XA := (XA.alloc _).bel hb
  have XB := (box_new wb _ _).bel hb
  replace B := below_two (B.alloc B.size _) hb
  obtain ⟨c0, c1, c2, c3, c4, c5⟩ := (XS.alloc (.cells #[Value.int .i64 2, .int .i64 4] 29)).cells6
  obtain ⟨d0, d1⟩ := two_cells (XC.alloc (.cells #[Value.int .i64 2, .int .i64 4] 29))
  clear hb H1
  go_wp2_with fail
  refine (N1 _).mono ?_
  rintro e wd ⟨rfl, hb⟩
  clear c0 c1 c2 c3 c4 c5 d0 d1
  replace XS := (XS.alloc _).bel hb
  replace XA := (XA.alloc _).bel hb
  replace XB := (XB.alloc _).bel hb
  have XD := (box_new wc _ _).bel hb
  replace B := below_two (B.alloc B.size _) hb
  obtain ⟨c0, c1, c2, c3, c4, c5⟩ := XS.cells6
  obtain ⟨a0, a1⟩ := two_cells XA
  obtain ⟨b0, b1⟩ := two_cells XB
  obtain ⟨d0, d1⟩ := two_cells XD
  clear hb N1 XS XC XA XB XD
  have heq := eql_two
  go_wp2_with fail
  refine (R0 _).mono ?_
  rintro e we ⟨rfl, hb⟩
  replace B := below_two B hb
  clear c0 c1 c2 c3 c4 c5 a0 a1 b0 b1 d0 d1 hb R0
  go_wp2
  go_ret
  exact ⟨rfl, B⟩

end Go.Proofs.Ytledjabhbakdeaa
