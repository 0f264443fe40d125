/-
  Proved: for every grid and every two numbers GridCells returns true (Right, New and At are the document's) and nothing that was in memory turns. Conditions: none.
-/
import Derived.Test.YtocjcfblpifdhaaRows
import Derived.WalkKit
import Derived.ProofKit
import Derived.OpenShut
import Derived.ShutString
import Derived.ChangeOld
import Derived.Below
import Derived.Test.YtocjcfblpifdhaaGridRow
import Derived.Test.YtocjcfblpifdhaaLawKit2
import Derived.Test.YtocjcfblpifdhaaAt
import Derived.Test.YtocjcfblpifdhaaCellsRf
import Derived.Test.YtocjcfblpifdhaaCellsIn
import Derived.Test.YtocjcfblpifdhaaCellsN0
import Derived.Test.YtocjcfblpifdhaaCellsN1
import Derived.Test.YtocjcfblpifdhaaCellsN2
import Derived.Test.YtocjcfblpifdhaaCellsN3
namespace Go.Proofs.Ytocjcfblpifdhaa.gridCells
open Go.ChangeShapes Go.WideShapes Go.ChangeAt Go.RowKit
open Go.ChangeMaps (open_string shut_string)
set_option linter.unusedVariables false

theorem own : ownKnob Try.prog.godebug = none := by kernel_rfl
theorem laidOut : laidOutB Try.prog = true := by kernel_rfl

set_option maxHeartbeats 8000000 in
set_option maxRecDepth 100000 in
theorem walk (g0 : Gr) (a1 : Int) (a2 : Int) (w : World) (h0 : g0.In w) (h1 : (Lit.int .i64 a1).wf = true) (h2 : (Lit.int .i64 a2).wf = true) :
    Calls Try.prog 3 #[.agg #[.int .i64 g0.r, .int .i64 g0.c, .slice g0.a g0.n g0.cap], .int .i64 a1, .int .i64 a2] w fun e w' => e = .returned (.bool true) ∧ Below w.heap.size w w' := by
  cases hsm : smallB [g0] with
  | true =>
    cases hright : rightB g0.r g0.c g0.n with
    | false => exact cells_rf g0 a1 a2 w h0 h1 h2 hsm hright
    | true =>
      by_cases hin : 0 ≤ a1 ∧ a1 < g0.r ∧ 0 ≤ a2 ∧ a2 < g0.c
      · exact cells_in g0 a1 a2 w h0 h1 h2 hsm hright hin
      · have hcs : a1 < 0 ∨ (0 ≤ a1 ∧ g0.r ≤ a1) ∨ (0 ≤ a1 ∧ a1 < g0.r ∧ a2 < 0) ∨ (0 ≤ a1 ∧ a1 < g0.r ∧ 0 ≤ a2 ∧ g0.c ≤ a2) := by omega
        rcases hcs with u1 | ⟨u1, u2⟩ | ⟨u1, u2, u3⟩ | ⟨u1, u2, u3, u4⟩
        · exact cells_n0 g0 a1 a2 w h0 h1 h2 hsm hright u1
        · exact cells_n1 g0 a1 a2 w h0 h1 h2 hsm hright u1 u2
        · exact cells_n2 g0 a1 a2 w h0 h1 h2 hsm hright u1 u2 u3
        · exact cells_n3 g0 a1 a2 w h0 h1 h2 hsm hright u1 u2 u3 u4 (decide_eq_false (by omega))
  | false =>
    clear h1 h2
    have hst := (st_nil w).box g0 h0 24 (b := w.heap.size) rfl
    clear h0
    go_enter Try.func3, Try.ntmps3
    go_wp2_with fail
    refine (awake _).mono ?_
    rintro e w1 ⟨rfl, hb⟩
    replace hst := hst.below hb
    clear hb
    obtain ⟨r2l, r2a, r2b, r2c, _, _, _⟩ := (hst.get (b := w.heap.size) (g := g0) (by simp)).box
    have hG := fun T => grids_one (T := T) (b := w1.heap.size) g0 (hst.inn (b := w.heap.size) (g := g0) (by simp)) rfl
    go_wp2_with fail
    refine (small_c _ _ _ [g0] _ (hG _) false hsm).mono ?_
    rintro e3 e3w ⟨rfl, rfl⟩
    replace hst := hst.alloc (.cells #[.int .i64 g0.r, .int .i64 g0.c, .slice g0.a g0.n g0.cap] 24)
    clear hG hsm r2l r2a r2b r2c
    go_wp2_with fail
    refine (awake _).mono ?_
    rintro e w4 ⟨rfl, hb⟩
    replace hst := hst.below hb
    clear hb
    have hB := hst.bel
    clear hst
    go_wp2
    go_ret
    exact ⟨rfl, hB⟩

set_option maxRecDepth 100000 in
theorem lifted (os : Os) (started : os.Started) (H : Type) (enc : TypeId × Value → H) :
    ReturnsInHanded {} Try.checked os 3 .any (Rows.gridCellsSpec.pre6 enc Try.prog Try.f3 Rows.gridCellsRow.domain false) (Rows.gridCellsSpec.post enc Try.prog Try.f3 false true false false) := by
  refine returnsInHanded_of_change (C := Try.checked) own started (by kernel_rfl) Try.func3
    (ChangeSpec.witness6 (enc := enc) (C := Try.checked) false ⟨#[], #[.agg #[.int .i64 0, .int .i64 0, .slice none 0 0], .int .i64 0, .int .i64 0], []⟩ 8 (by kernel_rfl) (by kernel_rfl) (by kernel_rfl) (by kernel_rfl)) ?_
  intro W base args ds gs before hval0 hW hcnd _
  have hval : ∀ (j : Nat) t v, Try.f3.params[j]? = some t → args[j]? = some v → Value.okWide Try.prog W .any base t v := hval0
  have hW' := hW
  obtain ⟨p, q, hA0, hV, rfl, hfz, hnd⟩ := hW
  have hA : DataW.TrodAll enc Try.prog W 0 (fun _ => true) true Try.f3.params.toList args.toList ds p := hA0
  rw [Try.params3] at hA hval
  obtain ⟨v0, vs0, d0, ds0, p0, q0, hargs, rfl, rfl, h0, r0⟩ := trodAll_cons hA
  obtain ⟨v1, vs1, d1, ds1, p1, q1, rfl, rfl, rfl, h1, r1⟩ := trodAll_cons r0
  obtain ⟨v2, vs2, d2, ds2, p2, q2, rfl, rfl, rfl, h2, r2⟩ := trodAll_cons r1
  obtain ⟨rfl, rfl, rfl⟩ := trodAll_nil r2
  obtain rfl : args = #[v0, v1, v2] := by cases args; simp_all
  obtain ⟨rfl, rfl⟩ := trodVars_none hV
  have k0 := h0
  have lt0 : ∀ x ∈ p0, x.block < W.heap.size := by obtain ⟨m, hm⟩ := k0; exact DataW.trod_lt m _ _ _ hm
  obtain ⟨g0, rfl, w0⟩ := open_grid (hval 0 24 v0 rfl rfl) h0
  obtain ⟨a1, rfl, rfl, rfl, w1⟩ := open_int Try.underlying3 (hval 1 3 v1 rfl rfl) h1
  obtain ⟨a2, rfl, rfl, rfl, w2⟩ := open_int Try.underlying3 (hval 2 3 v2 rfl rfl) h2
  clear hA0 hval0
  refine (walk g0 a1 a2 W w0 w1 w2).mono fun e W' ⟨he, bel⟩ => ?_
  subst he
  exact ⟨_, rfl, _, _, _, [], _, [], hW', trodAll_mk1 (shut_bool Try.underlying4 _), (trodAll_cons_mk (Below.trod laidOut (by kernel_rfl) (of_decide_eq_true (by kernel_rfl)) k0 bel lt0) (trodAll_cons_mk (shut_int Try.underlying3 w1) (trodAll_cons_mk (shut_int Try.underlying3 w2) trodAll_mk0))), rfl, bel.frame _, fun h => by cases h⟩

theorem over : Rows.gridCellsRow.holds Try.pinned (OpenSpec.ofChange Rows.gridCellsSpec) :=
  OpenClaim.holds_of_wide 3 Try.f3 rfl rfl rfl rfl rfl rfl rfl ⟨rfl, rfl, rfl, rfl, rfl⟩ rfl rfl rfl rfl rfl (by kernel_rfl) Try.func3 (by kernel_rfl)
    (of_decide_eq_true (by kernel_rfl)) (by unfold Func.isWrapper; first | (rw [if_pos (by decide +kernel)]; kernel_rfl) | (rw [if_neg (by decide +kernel)]; exact ⟨rfl, rfl⟩))
    (fun os started H enc _ => lifted os started H enc)

/-- ████ THE STATEMENT ████ -/
theorem proved : Rows.GridCellsSaid := over
#print axioms proved
end Go.Proofs.Ytocjcfblpifdhaa.gridCells
