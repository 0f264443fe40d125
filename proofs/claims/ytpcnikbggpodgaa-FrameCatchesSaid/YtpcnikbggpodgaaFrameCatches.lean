/-
  Proved: for any body, place and byte FrameCatches returns true (a frame that is cut, has a byte more or one byte turned is none) and nothing that was in memory turns. No condition.
-/
import Derived.Test.YtpcnikbggpodgaaRows
import Derived.WalkKit
import Derived.ProofKit
import Derived.OpenShut
import Derived.ShutString
import Derived.ChangeOld
import Derived.Below
import Derived.Test.YtpcnikbggpodgaaLaw14
import Derived.Test.YtpcnikbggpodgaaOwnCut
import Derived.Deep.CutRange
namespace Go.Proofs.Ytpcnikbggpodgaa.frameCatches
open Go.ChangeShapes Go.WideShapes Go.ChangeAt Go.RowKit
open Go.ChangeMaps (open_string shut_string)
set_option linter.unusedVariables false

theorem own : ownKnob Try.prog.godebug = none := by kernel_rfl
theorem laidOut : laidOutB Try.prog = true := by kernel_rfl

/-- WHAT THE WALK IS TOLD OF A SLICE OF INTEGERS THAT CAME IN: it is nil; or it leads to a row of 'cap' cells, the numbers 'zs' (the first 'len' are its elements, the rest its spare room), each fitting its kind. -/
def IsRow (k : IntKind) (w : World) (a : Option Addr) (len cap : Nat) (zs : List Int) : Prop :=
  (a = none ∧ len = 0 ∧ cap = 0 ∧ zs = []) ∨
  ∃ x, a = some x ∧ len ≤ cap ∧ cap ≤ maxLen ∧ zs.length = cap ∧ (∀ i, i < zs.length → w.cell? (x.add i) = some (.int k (zs.getD i 0))) ∧ ∀ n ∈ zs, (Lit.int k n).wf = true

/-! ### STEP 1: THE WALK: the Go text returns true, AND WRITES NOTHING THAT WAS THERE: 'Below w.heap.size w w'' (Derived/Below.lean: '.refl', '.alloc', '.drew', '.setCell' at a new block, '.trans'). Open each 'IsRow' by 'rcases' AHEAD of 'go_enter'; part every test ahead of the walk. -/
set_option maxHeartbeats 3200000 in
theorem walk (a0 : Option Addr) (len0 cap0 : Nat) (z0 : List Int) (a1 : Int) (a2 : Int) (w : World) (w0 : IsRow .u8 w a0 len0 cap0 z0) (w1 : (Lit.int .i64 a1).wf = true) (w2 : (Lit.int .u8 a2).wf = true) :
    Calls Try.prog 6 #[.slice a0 len0 cap0, .int .i64 a1, .int .u8 a2] w fun e w' => e = .returned (.bool true) ∧ Below w.heap.size w w' := by
  obtain ⟨xs, hq⟩ := rw_of_row w0
  have HQ := Lib.hid hq
  have HL : Hid (xs.length = len0) := Lib.hid hq.1.1
  have HW : Hid (∀ x ∈ xs, (Lit.int .u8 x).wf = true) := Lib.hid hq.1.2.2.1
  have HY := Lib.hid w2
  have hi64 := wf64 w1
  clear w0 w1 w2 hq
  by_cases h3000 : 2000 < len0
  · have h1 : (2000 : Int) < (len0 : Int) := by omega
    clear hi64
    go_enter Try.func6, Try.ntmps6
    go_wp2_with fail
    refine (awake14 _).mono ?_
    rintro e w2 ⟨rfl, hb1⟩
    go_wp2_with fail
    refine (awake14 _).mono ?_
    rintro e w3 ⟨rfl, hb2⟩
    have HB := Lib.hid (below_two hb1 hb2)
    clear hb1 hb2
    go_wp2_with fail
    go_ret
    exact ⟨rfl, HB.out⟩
  · have h1 : ¬ (2000 : Int) < (len0 : Int) := by omega
    go_enter Try.func6, Try.ntmps6
    go_wp2_with fail
    refine (awake14 _).mono ?_
    rintro e w2 ⟨rfl, hb2⟩
    have HB2 := Lib.hid hb2
    have P1 := dpack14 3 rfl ⟨a0, len0, cap0, xs⟩ w2 (HQ.out.below hb2) (by show len0 ≤ _; omega)
    simp only at P1
    clear hb2
    go_wp2_with fail
    refine P1.mono ?_
    rintro e w3 ⟨⟨v3, rfl, ho3⟩, hb3⟩
    have HB3 := Lib.hid (below_two HB2.out hb3)
    obtain ⟨b, bcap, rfl, hR, _, hblt⟩ := frm_row rfl HW.out (by rw [HL.out]; omega) HL.out.symm ho3
    have hFL : (frm 3 xs).length = len0 + 12 := by rw [frm_len, HL.out]
    have hCut := fun j (hj : j < len0 + 12) => flt_cut (k := 3) (body := xs) (by rw [HL.out]; omega) (j := j) (by rw [HL.out]; exact hj)
    have hMore := flt_more (k := 3) (body := xs) (by rw [HL.out]; omega)
    have hTurn := fun j (hj : j < len0 + 12) (y z : Int) (wz : (Lit.int .u8 z).wf = true) => flt_turned (k := 3) rfl HW.out (by rw [HL.out]; omega) (i := j) (by rw [HL.out]; exact hj) (y := y) wz
    have hFW := frm_wf (k := 3) rfl HW.out (by rw [HL.out]; omega)
    have hL2 : len0 + 12 ≤ 2012 := by omega
    have hL3 : 12 ≤ len0 + 12 := by omega
    generalize frm 3 xs = fs at *
    generalize len0 + 12 = L at *
    have HFL := Lib.hid hFL
    have HFW := Lib.hid hFW
    have hE : Elems .u8 w3 (some ⟨b, 0, none⟩) L fs := hR.1
    have hcap : L ≤ bcap := hR.2.1
    have hcap2 : bcap ≤ 9223372036854775807 := hR.2.2.1
    obtain ⟨r, K, hr, hr1, hr2, hK1, hK2, hKL⟩ := rest14 a1 L (by omega)
    have HR := Lib.hid hR
    -- cut
    have P2 := parse14 ⟨some ⟨b, 0, none⟩, K, bcap, fs.take K⟩ w3 ⟨hE.take K (by omega), by show K ≤ bcap; omega, hcap2, hR.2.2.2⟩ (by show K ≤ _; omega)
    have HC1 := Lib.hid (hCut K hKL)
    simp only at P2
    -- the byte at K
    obtain ⟨b', off', x, he, cK, hx, wx⟩ := hE.at_ hKL
    cases he
    obtain ⟨z, hz, wz, hz0, hz1⟩ := turn14 wx HY.out
    have HT := Lib.hid (hTurn K hKL a2 z wz (by rw [hx.out]; exact hz0) (by rw [hx.out]; exact hz1))
    have HM := Lib.hid (hMore a2)
    have HX := Lib.hid hx.out
    have HZ := Lib.hid hz
    have HWZ := Lib.hid wz
    have t0 : ¬ (L : Int) = 0 := by omega
    have t0' : ¬ L = 0 := by omega
    have t0'' : ¬ (L : Int) = -1 := by omega
    have t1 : IntKind.i64.wrap r = r := IntWalk.i64_in _ (by omega)
    have t2 : IntKind.i64.wrap (r + (L : Int)) = r + (L : Int) := IntWalk.i64_in _ (by omega)
    have t3 : IntKind.i64.wrap (K : Int) = (K : Int) := IntWalk.i64_in _ (by omega)
    have u1 : K ≤ bcap := by omega
    have u2 : (K : Int) ≤ (bcap : Int) := by omega
    have u3 : (0 : Int) ≤ (K : Int) := by omega
    have u4 : (K : Int) < (L : Int) := by omega
    have H1 := Lib.hid hr1
    have H2 := Lib.hid hr2
    clear ho3 hb3 hCut hMore hTurn hFW hFL hE hR hx wx hz0 hz1 hz wz cK P1 hblt
    go_upto_region 5 with fail
    clear hr hr1 hr2 hK1 hK2 t1 t2 t0 t0' t0'' hi64
    go_wp2_with fail
    refine P2.mono ?_
    rintro e w4 ⟨k4, g4, rfl, n1, n2, n3, hb4⟩
    clear n1 n2 n3
    have HB4 := Lib.hid (below_two HB3.out hb4)
    have hR4 := HR.out.below hb4
    -- a byte more
    have ho4 : (w4.alloc (.cells #[] 5)).ownsRow w4.heap.size 5 1 (.slice (some ⟨w4.heap.size, 0, none⟩) 0 0) 0 (([] : List Int).map (.int .u8)) := World.ownsRow_lit (e := 5) (size := 1) w4 #[] 0 (Nat.le_refl _) (by unfold maxLen; omega) rfl
    have hbA : Below w4.heap.size w4 (w4.alloc (.cells #[] 5)) := (Below.refl _ _).alloc (Nat.le_refl _) _
    obtain ⟨v5, w5, hr5, ho5, hg5, _⟩ := run_append_elems (P := Try.prog) .u8 _ w4.heap.size 22 5 1 (by omega) Try.underlying22 info_u8 _ 0 _ ho4 (some ⟨b, 0, none⟩) L bcap fs (hR4.below hbA).1 (fun e => by cases e) (by omega) (by omega) (by simp)
    have hb5 : Below w4.heap.size w4 w5 := hbA.grown hg5 (by simp) (fun q hq => (ho4.lt q hq).1)
    rw [List.nil_append, Nat.zero_add] at ho5
    obtain ⟨v6, w6, hr6, ho6, hg6, _⟩ := run_append_lits (P := Try.prog) .u8 w5 w4.heap.size 22 5 1 (by omega) Try.underlying22 info_u8 _ L 1 _ [a2] _ rfl rfl ho5 (by omega) (by omega) hb5.size
    have hb6 : Below w4.heap.size w4 w6 := hb5.grown hg6 hb5.size (fun q hq => (ho5.lt q hq).1)
    obtain ⟨q6, rfl, hn6, hv6, hi6, _⟩ := own_row8 ho6 (snoc14 HFW.out HY.out) (by omega)
    have P3 := parse14 q6 w6 hi6 (by omega)
    rw [hv6] at P3
    have HB6 := Lib.hid (below_two HB4.out hb6)
    have HR6 := Lib.hid (hR4.below hb6)
    clear hb4 hR4 ho4 hbA ho5 hg5 hb5 ho6 hg6 hb6 hn6 hv6 hi6 P2
    go_wp2_with (at_builtin; first | refine wpList_append_at (by rfl) _ _ _ (by rfl) _ _ (by rfl) (by rfl) hr5 ?_ | refine wpList_append_at (by rfl) _ _ _ (by rfl) _ _ (by rfl) (by rfl) hr6 ?_)
    refine P3.mono ?_
    rintro e w7 ⟨k7, g7, rfl, n1, n2, n3, hb7⟩
    clear n1 n2 n3
    have hM := HM.out
    rw [hM]
    have HB7 := Lib.hid (below_two HB6.out hb7)
    have hR7 := HR6.out.below hb7
    -- a byte turned
    have ho7 : (w7.alloc (.cells #[] 5)).ownsRow w7.heap.size 5 1 (.slice (some ⟨w7.heap.size, 0, none⟩) 0 0) 0 (([] : List Int).map (.int .u8)) := World.ownsRow_lit (e := 5) (size := 1) w7 #[] 0 (Nat.le_refl _) (by unfold maxLen; omega) rfl
    have hbA : Below w7.heap.size w7 (w7.alloc (.cells #[] 5)) := (Below.refl _ _).alloc (Nat.le_refl _) _
    obtain ⟨v8, w8, hr8, ho8, hg8, _⟩ := run_append_elems (P := Try.prog) .u8 _ w7.heap.size 22 5 1 (by omega) Try.underlying22 info_u8 _ 0 _ ho7 (some ⟨b, 0, none⟩) L bcap fs (hR7.below hbA).1 (fun e => by cases e) (by omega) (by omega) (by simp)
    have hb8 : Below w7.heap.size w7 w8 := hbA.grown hg8 (by simp) (fun q hq => (ho7.lt q hq).1)
    rw [List.nil_append, Nat.zero_add] at ho8
    obtain ⟨q8, rfl, hn8, hv8, hi8, hq8⟩ := own_row8 ho8 HFW.out (by omega)
    obtain ⟨qa, qn, qcap, qv⟩ := q8
    simp only at hn8 hv8 hi8 hq8 ho8 hr8
    subst hn8 hv8
    obtain ⟨g8, rfl, hg8b, hg8l⟩ := hq8 (by omega)
    have c8 : w8.cell? ⟨g8, K, none⟩ = some (.int .u8 x) := by
      obtain ⟨b', off', x', he, cK, hx', _⟩ := hi8.1.at_ hKL
      cases he
      rw [Nat.zero_add] at cK
      rw [cK, ← hx'.out, HX.out]
    have f8 : w8.frozen? ⟨g8, K, none⟩ = false := ho8.frozenAt K
    have ho9 := own_store ho8 K z
    have hb9 : Below w.heap.size w (w8.setCell ⟨g8, K, none⟩ (.int .u8 z)) := (below_two HB7.out hb8).setCell (p := ⟨g8, K, none⟩) (by show w.heap.size ≤ g8; have := HB7.out.size; omega) _
    have hq9 : qn ≤ qcap ∧ qcap ≤ 9223372036854775807 := ⟨hi8.2.1, hi8.2.2.1⟩
    obtain ⟨q9, hv9, hn9, hx9, hi9, _⟩ := own_row8 ho9 (set_wf HFW.out K HWZ.out) (by omega)
    have P4 := parse14 q9 _ hi9 (by omega)
    rw [hx9, ← hv9] at P4
    have HB9 := Lib.hid hb9
    have hz := HZ.out
    have v1 : (K : Int) < (qn : Int) := by omega
    clear hb7 hR7 ho7 hbA hg8 hb8 ho8 hi8 ho9 hb9 hv9 hn9 hx9 hi9 P3 hq8 hM
    go_wp2_with (at_builtin; refine wpList_append_at (by rfl) _ _ _ (by rfl) _ _ (by rfl) (by rfl) hr8 ?_)
    refine P4.mono ?_
    rintro e w10 ⟨k10, g10, rfl, n1, n2, n3, hb10⟩
    clear n1 n2 n3
    have HB10 := Lib.hid (below_two HB9.out hb10)
    obtain ⟨f1, hf1⟩ : ∃ f, flt (qv.take K) = f := ⟨_, rfl⟩
    have e1 : ((f1 : Int) != 0) = true := by have := HC1.out; simp; omega
    rw [hf1]
    clear hf1
    have e2 := HT.out
    generalize flt (qv.set K z) = f3 at e2 ⊢
    clear hb10 P4 c8 f8 hz v1 HT HZ HX HFW HFL HR6 HR HB9
    simp only
    go_wp2_with fail
    go_ret
    refine ⟨ret_bool ?_, HB10.out⟩
    first | rfl | exact e2 | simpa using e2

/-! ### THE ROW's STEP: WRITTEN OUT: LEAVE IT -/
set_option maxRecDepth 100000 in
theorem lifted (os : Os) (started : os.Started) (H : Type) (enc : TypeId × Value → H) :
    ReturnsInHanded {} Try.checked os 6 .any (Rows.frameCatchesSpec.pre6 enc Try.prog Try.f6 Rows.frameCatchesRow.domain false) (Rows.frameCatchesSpec.post enc Try.prog Try.f6 false true false false) := by
  refine returnsInHanded_of_change (C := Try.checked) own started (by kernel_rfl) Try.func6
    (ChangeSpec.witness6 (enc := enc) (C := Try.checked) false ⟨#[], #[.slice none 0 0, .int .i64 0, .int .u8 0], []⟩ 8 (by kernel_rfl) (by kernel_rfl) (by kernel_rfl) (by kernel_rfl)) ?_
  intro W base args ds gs before hval0 hW hcnd _
  have hval : ∀ (j : Nat) t v, Try.f6.params[j]? = some t → args[j]? = some v → Value.okWide Try.prog W .any base t v := hval0
  have hW' := hW
  obtain ⟨p, q, hA0, hV, rfl, hfz, hnd⟩ := hW
  have hA : DataW.TrodAll enc Try.prog W 0 (fun _ => true) true Try.f6.params.toList args.toList ds p := hA0
  rw [Try.params6] at hA hval
  obtain ⟨v0, vs0, d0, ds0, p0, q0, hargs, rfl, rfl, h0, r0⟩ := trodAll_cons hA
  obtain ⟨v1, vs1, d1, ds1, p1, q1, rfl, rfl, rfl, h1, r1⟩ := trodAll_cons r0
  obtain ⟨v2, vs2, d2, ds2, p2, q2, rfl, rfl, rfl, h2, r2⟩ := trodAll_cons r1
  obtain ⟨rfl, rfl, rfl⟩ := trodAll_nil r2
  obtain rfl : args = #[v0, v1, v2] := by cases args; simp_all
  obtain ⟨rfl, rfl⟩ := trodVars_none hV
  obtain ⟨a0, len0, cap0, rfl⟩ := okWide_slice Try.underlying22 (hval 0 22 v0 rfl rfl)
  have k0 := h0
  have lt0 : ∀ x ∈ p0, x.block < W.heap.size := by obtain ⟨m, hm⟩ := k0; exact DataW.trod_lt m _ _ _ hm
  obtain ⟨z0, w0⟩ : ∃ zs, IsRow .u8 W a0 len0 cap0 zs := by
    obtain ⟨fuel, hf⟩ := h0
    rcases open_ints Try.underlying22 Try.underlying5 (by kernel_rfl) hf with ⟨hcs, _⟩ | ⟨x, l, c, zs, hcs, _, hl, hm, hz, _, hcell, hwz⟩
    · simp [Value.cells] at hcs
      obtain ⟨rfl, rfl, rfl⟩ := hcs
      exact ⟨[], .inl ⟨rfl, rfl, rfl, rfl⟩⟩
    · simp [Value.cells] at hcs
      obtain ⟨rfl, rfl, rfl⟩ := hcs
      exact ⟨zs, .inr ⟨_, rfl, hl, hm, by simpa using hz, hcell, hwz⟩⟩
  obtain ⟨a1, rfl, rfl, rfl, w1⟩ := open_int Try.underlying3 (hval 1 3 v1 rfl rfl) h1
  obtain ⟨a2, rfl, rfl, rfl, w2⟩ := open_int Try.underlying5 (hval 2 5 v2 rfl rfl) h2
  clear hA0 hval0
  refine (walk a0 len0 cap0 z0 a1 a2 W w0 w1 w2).mono fun e W' ⟨he, bel⟩ => ?_
  subst he
  exact ⟨_, rfl, _, _, _, [], _, [], hW', trodAll_mk1 (shut_bool Try.underlying4 _), (trodAll_cons_mk (Below.trod laidOut (by kernel_rfl) (of_decide_eq_true (by kernel_rfl)) k0 bel lt0) (trodAll_cons_mk (shut_int Try.underlying3 w1) (trodAll_cons_mk (shut_int Try.underlying5 w2) trodAll_mk0))), rfl, bel.frame _, fun h => by cases h⟩

theorem over : Rows.frameCatchesRow.holds Try.pinned (OpenSpec.ofChange Rows.frameCatchesSpec) :=
  OpenClaim.holds_of_wide 6 Try.f6 rfl rfl rfl rfl rfl rfl rfl ⟨rfl, rfl, rfl, rfl, rfl⟩ rfl rfl rfl rfl rfl (by kernel_rfl) Try.func6 (by kernel_rfl)
    (of_decide_eq_true (by kernel_rfl)) (by unfold Func.isWrapper; first | (rw [if_pos (by decide +kernel)]; kernel_rfl) | (rw [if_neg (by decide +kernel)]; exact ⟨rfl, rfl⟩))
    (fun os started H enc _ => lifted os started H enc)

/-- ████ THE STATEMENT ████ -/
theorem proved : Rows.FrameCatchesSaid := over
#print axioms proved
end Go.Proofs.Ytpcnikbggpodgaa.frameCatches
