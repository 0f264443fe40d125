/-
  Proved: for every slice of grids GridLays returns true (grids one below the other, side by side, and added, are the document's; the grids stay) and nothing that was in memory turns. Conditions: none.
-/
import Derived.Test.YtocjcfblpifdhaaRows
import Derived.WalkKit
import Derived.ProofKit
import Derived.OpenShut
import Derived.ShutString
import Derived.ChangeOld
import Derived.Below
import Derived.Test.YtocjcfblpifdhaaGridRow
import Derived.Test.YtocjcfblpifdhaaLaysKit
namespace Go.Proofs.Ytocjcfblpifdhaa.gridLays
open Go.ChangeShapes Go.WideShapes Go.ChangeAt Go.RowKit
open Go.ChangeMaps (open_string shut_string)
set_option linter.unusedVariables false

theorem own : ownKnob Try.prog.godebug = none := by kernel_rfl
theorem laidOut : laidOutB Try.prog = true := by kernel_rfl

set_option maxHeartbeats 8000000 in
set_option maxRecDepth 100000 in
theorem walk (a0 : Option Addr) (n0 cap0 : Nat) (gs0 : List Gr) (w : World) (h0 : Grids w a0 n0 gs0) :
    Calls Try.prog 5 #[.slice a0 n0 cap0] w fun e w' => e = .returned (.bool true) ∧ Below w.heap.size w w' := by
  have HG0 := Lib.hid h0
  clear h0
  cases hsm : smallB gs0 with
  | false =>
    go_enter Try.func5, Try.ntmps5
    go_wp2_with fail
    refine (awake _).mono ?_
    rintro e w1 ⟨rfl, hb⟩
    go_wp2_with fail
    refine (small_c a0 n0 cap0 gs0 _ (HG0.out.below hb) false hsm).mono ?_
    rintro e w2 ⟨rfl, rfl⟩
    go_wp2_with fail
    refine (awake _).mono ?_
    rintro e w3 ⟨rfl, hb3⟩
    have hB := below_two hb hb3
    clear hb hb3
    go_wp2
    go_ret
    exact ⟨rfl, hB⟩
  | true =>
    have h12 : n0 ≤ 12 := by rw [← HG0.out.1]; exact (smallB_yes hsm).1
    have H400 := Lib.hid (smallB_yes hsm).2
    have hl0 := Lib.hid HG0.out.1
    go_enter Try.func5, Try.ntmps5
    go_wp2_with fail
    refine (awake _).mono ?_
    rintro e w1 ⟨rfl, hb⟩
    have hG0 := HG0.out.below hb
    have hBel := hb
    clear hb
    go_wp2_with fail
    refine (small_c a0 n0 cap0 gs0 _ hG0 true hsm).mono ?_
    rintro e wz ⟨rfl, rfl⟩
    clear hsm
    go_wp2_with fail
    refine (copied_any2 a0 n0 cap0 gs0 _ hG0 h12 H400.out).mono ?_
    rintro e w2 ⟨⟨a1, cap1, gs1, rfl, hG1, hA1, hz1, hcap1⟩, hb⟩
    have hBel2 := below_two hBel hb
    have hst : St w w2 [] := ⟨hBel2, fun x hx => by cases hx⟩
    have HSTR := Lib.hid (alike_strip hl0.out hA1)
    have HA := Lib.hid hA1
    have HZ := Lib.hid hz1
    have H400' : Hid (∀ g ∈ gs1, g.n ≤ 400) := Lib.hid fun g hg => by
      have h1 : strip g ∈ gs0.map strip := by rw [← HSTR.out]; exact List.mem_map_of_mem hg
      obtain ⟨y, hy, e⟩ := List.mem_map.1 h1
      have e2 : g.n = y.n := (congrArg Gr.n e).symm
      rw [e2]; exact H400.out y hy
    have HG1 := Lib.hid hG1
    clear hG0 hBel hBel2 hb hA1 hz1 hG1
    go_wp2_with fail
    refine (code_stack a1 n0 cap1 gs1 _ HG1.out h12).mono ?_
    rintro e w3 ⟨⟨k1, x1, rfl, hk1, hc1⟩, hb⟩
    replace hst := (hst.below hb).push k1 hk1 24
    have HG1 := Lib.hid (HG1.out.below (below_alloc hb (.cells #[.int .i64 k1.r, .int .i64 k1.c, .slice k1.a k1.n k1.cap] 24)))
    rw [same_strip stackB stackB_strip HSTR.out, same_strip (sumOf fun g => g.r) (sumOf_strip _ fun _ => rfl) HSTR.out, same_strip (side0 fun g => g.c) (side0_strip _ fun _ => rfl) HSTR.out, same_strip (fun gs => gs.flatMap Gr.v) flatV_strip HSTR.out] at hc1
    have HC1 := Lib.hid hc1
    clear hb hk1 hc1
    go_wp2_with fail
    refine (code_beside a1 n0 cap1 gs1 _ HG1.out h12 HZ.out hcap1).mono ?_
    rintro e w4 ⟨⟨k2, x2, rfl, hk2, hc2⟩, hb⟩
    replace hst := (hst.below hb).push k2 hk2 24
    have HG1 := Lib.hid (HG1.out.below (below_alloc hb (.cells #[.int .i64 k2.r, .int .i64 k2.c, .slice k2.a k2.n k2.cap] 24)))
    rw [same_strip besB besB_strip HSTR.out, same_strip (side0 fun g => g.r) (side0_strip _ fun _ => rfl) HSTR.out, same_strip (sumOf fun g => g.c) (sumOf_strip _ fun _ => rfl) HSTR.out, same_strip besX besX_strip HSTR.out] at hc2
    have HC2 := Lib.hid hc2
    clear hb hk2 hc2
    go_wp2_with fail
    refine (code_add a1 n0 cap1 gs1 _ HG1.out).mono ?_
    rintro e w5 ⟨⟨k3, x3, rfl, hk3, hc3⟩, hb⟩
    replace hst := (hst.below hb).push k3 hk3 24
    have HG1 := Lib.hid (HG1.out.below (below_alloc hb (.cells #[.int .i64 k3.r, .int .i64 k3.c, .slice k3.a k3.n k3.cap] 24)))
    have e1 : (gs1.getD 0 default).r = (gs0.getD 0 default).r := same_strip (fun gs => (gs.getD 0 default).r) (fun gs => by show ((gs.map strip).getD 0 default).r = _; rw [first_strip]; rfl) HSTR.out
    have e2 : (gs1.getD 0 default).c = (gs0.getD 0 default).c := same_strip (fun gs => (gs.getD 0 default).c) (fun gs => by show ((gs.map strip).getD 0 default).c = _; rw [first_strip]; rfl) HSTR.out
    have e3 : (gs1.getD 0 default).n = (gs0.getD 0 default).n := same_strip (fun gs => (gs.getD 0 default).n) (fun gs => by show ((gs.map strip).getD 0 default).n = _; rw [first_strip]; rfl) HSTR.out
    have e4 : likeB (gs1.getD 0 default) gs1 = likeB (gs0.getD 0 default) gs0 := same_strip (fun gs => likeB (gs.getD 0 default) gs) likeB_strip HSTR.out
    rw [e4, e1, e2, e3, same_strip (fun gs => vsums gs (gs0.getD 0 default).n) (fun gs => vsums_strip gs _) HSTR.out] at hc3
    clear e1 e2 e3 e4
    have HC3 := Lib.hid hc3
    clear hb hk3 hc3
    go_wp2_with fail
    obtain ⟨W, hW⟩ : ∃ W, W = w5.alloc (.cells #[.int .i64 k3.r, .int .i64 k3.c, .slice k3.a k3.n k3.cap] 24) := ⟨_, rfl⟩
    rw [← hW]
    rw [← hW] at hst HG1
    have HST := Lib.hid hst
    have b3l : w3.heap.size < W.heap.size := (hst.get (b := w3.heap.size) (g := k1) (by simp)).box.1
    have b4l : w4.heap.size < W.heap.size := (hst.get (b := w4.heap.size) (g := k2) (by simp)).box.1
    have b5l : w5.heap.size < W.heap.size := (hst.get (b := w5.heap.size) (g := k3) (by simp)).box.1
    clear hW hst
    go_loopw [10] (fun i wr => ∃ k : Nat, k ≤ n0 ∧ i = .int .i64 k ∧ Hid (Below W.heap.size W wr)) (fun i _ => n0 - (intOf i).toNat)
    case atStart => exact ⟨0, by omega, rfl, Lib.hid (Below.refl _ _)⟩
    case round =>
      obtain ⟨k, hk, rfl, hbw⟩ := hrel
      by_cases hlt : k < n0
      · have hst := HST.out.below hbw.out
        obtain ⟨b, off, g, rfl, hbl, c0, c1, c2, hgk, hgin⟩ := (HG0.out.below hst.bel).at_ hlt
        obtain ⟨b', off', g', rfl, hbl', d0, d1, d2, hgk', hgin'⟩ := (HG1.out.below hbw.out).at_ hlt
        have hal := HA.out.2 k hlt
        rw [hgk.out, hgk'.out] at hal
        have HAL := Lib.hid hal
        have i0 : (0 : Int) ≤ (k : Int) := by omega
        have i1 : (k : Int) < (n0 : Int) := by omega
        have hsame := fun Z (hz : Below wr.heap.size wr Z) => same_gr g' g Z (hgin'.below hz) (hgin.below hz) HAL.out.1 HAL.out.2.1 HAL.out.2.2.1 HAL.out.2.2.2
        have HSAME := Lib.hid hsame
        have hS0 : Below wr.heap.size wr wr.drew := (Below.refl _ _).drew
        clear hst hgk hgk' hgin hgin' hal hsame
        go_wp2_with fail
        go_region_held3 (fun w' => w'.cell? ⟨b, off + k * 3, none⟩ = some (.int .i64 g.r) ∧ w'.cell? ⟨b, off + k * 3 + 1, none⟩ = some (.int .i64 g.c) ∧ w'.cell? ⟨b, off + k * 3 + 2, none⟩ = some (.slice g.a g.n g.cap) ∧ w'.cell? ⟨b', off' + k * 3, none⟩ = some (.int .i64 g'.r) ∧ w'.cell? ⟨b', off' + k * 3 + 1, none⟩ = some (.int .i64 g'.c) ∧ w'.cell? ⟨b', off' + k * 3 + 2, none⟩ = some (.slice g'.a g'.n g'.cap))
          (first | go_keep | (go_split_ands; refine ⟨?_, ?_, ?_, ?_, ?_, ?_⟩ <;> assumption))
          (first
            | (go_at_call 23; (with_reducible refine (HSAME.out _ hS0).mono ?_); rintro e wc ⟨rfl, hb1⟩
               have hS1 := below_two hS0 hb1
               have m0 := cell_keep c0 hS1
               have m1 := cell_keep c1 hS1
               have m2 := cell_keep c2 hS1
               have m3 := cell_keep d0 hS1
               have m4 := cell_keep d1 hS1
               have m5 := cell_keep d2 hS1))
        have HN := Lib.hid (below_two hbw.out hS1)
        clear hS1 hb1 m0 m1 m2 m3 m4 m5 c0 c1 c2 d0 d1 d2 hbw
        go_wp2
        go_roundw
        case rel => exact ⟨k + 1, by omega, by go_num, HN⟩
        case measure => simp [intOf]; omega
      · obtain rfl : k = n0 := by omega
        have hst := HST.out.below hbw.out
        have hG0 := HG0.out.below hst.bel
        clear HST hbw
        go_wp2_with fail
        refine (doc_stack a0 k cap0 gs0 _ hG0 H400.out).mono ?_
        rintro e w6 ⟨⟨y1, rfl, hy1, hd1⟩, hb⟩
        replace hst := (hst.below hb).push y1 hy1 24
        have hG0 := HG0.out.below hst.bel
        have HA1 := Lib.hid (agree_of HC1.out hd1)
        clear hb hy1 hd1 HC1
        go_wp2_with fail
        refine (doc_beside a0 k cap0 gs0 _ hG0 h12 H400.out).mono ?_
        rintro e w7 ⟨⟨y2, rfl, hy2, hd2⟩, hb⟩
        replace hst := (hst.below hb).push y2 hy2 24
        have hG0 := HG0.out.below hst.bel
        have HA2 := Lib.hid (agree_of HC2.out hd2)
        clear hb hy2 hd2 HC2
        go_wp2_with fail
        refine (doc_add a0 k cap0 gs0 _ hG0 h12 H400.out).mono ?_
        rintro e w8 ⟨⟨y3, rfl, hy3, hd3⟩, hb⟩
        replace hst := (hst.below hb).push y3 hy3 24
        have HA3 := Lib.hid (agree_of HC3.out hd3)
        clear hb hy3 hd3 HC3 hG0
        obtain ⟨r1l, r1a, r1b, r1c, _, _, _⟩ := (hst.get (b := w3.heap.size) (g := k1) (by simp)).box
        obtain ⟨r2l, r2a, r2b, r2c, _, _, _⟩ := (hst.get (b := w6.heap.size) (g := y1) (by simp)).box
        go_wp2_with fail
        refine (held_agree k1 y1 x1 (stackB gs0) _ (hst.inn (b := w3.heap.size) (g := k1) (by simp)) (hst.inn (b := w6.heap.size) (g := y1) (by simp)) HA1.out).mono ?_
        rintro e w9 ⟨rfl, hb⟩
        replace hst := hst.below hb
        clear hb r1l r1a r1b r1c r2l r2a r2b r2c
        obtain ⟨r1l, r1a, r1b, r1c, _, _, _⟩ := (hst.get (b := w4.heap.size) (g := k2) (by simp)).box
        obtain ⟨r2l, r2a, r2b, r2c, _, _, _⟩ := (hst.get (b := w7.heap.size) (g := y2) (by simp)).box
        go_wp2_with fail
        refine (held_agree k2 y2 x2 (besB gs0) _ (hst.inn (b := w4.heap.size) (g := k2) (by simp)) (hst.inn (b := w7.heap.size) (g := y2) (by simp)) HA2.out).mono ?_
        rintro e w10 ⟨rfl, hb⟩
        replace hst := hst.below hb
        clear hb r1l r1a r1b r1c r2l r2a r2b r2c
        obtain ⟨r1l, r1a, r1b, r1c, _, _, _⟩ := (hst.get (b := w5.heap.size) (g := k3) (by simp)).box
        obtain ⟨r2l, r2a, r2b, r2c, _, _, _⟩ := (hst.get (b := w8.heap.size) (g := y3) (by simp)).box
        go_wp2_with fail
        refine (held_agree k3 y3 x3 (likeB (gs0.getD 0 default) gs0) _ (hst.inn (b := w5.heap.size) (g := k3) (by simp)) (hst.inn (b := w8.heap.size) (g := y3) (by simp)) HA3.out).mono ?_
        rintro e w11 ⟨rfl, hb⟩
        replace hst := hst.below hb
        clear hb r1l r1a r1b r1c r2l r2a r2b r2c
        have hB := hst.bel
        clear hst
        go_wp2
        go_ret
        exact ⟨rfl, hB⟩

set_option maxRecDepth 100000 in
theorem lifted (os : Os) (started : os.Started) (H : Type) (enc : TypeId × Value → H) :
    ReturnsInHanded {} Try.checked os 5 .any (Rows.gridLaysSpec.pre6 enc Try.prog Try.f5 Rows.gridLaysRow.domain false) (Rows.gridLaysSpec.post enc Try.prog Try.f5 false true false false) := by
  refine returnsInHanded_of_change (C := Try.checked) own started (by kernel_rfl) Try.func5
    (ChangeSpec.witness6 (enc := enc) (C := Try.checked) false ⟨#[], #[.slice none 0 0], []⟩ 8 (by kernel_rfl) (by kernel_rfl) (by kernel_rfl) (by kernel_rfl)) ?_
  intro W base args ds gs before hval0 hW hcnd _
  have hval : ∀ (j : Nat) t v, Try.f5.params[j]? = some t → args[j]? = some v → Value.okWide Try.prog W .any base t v := hval0
  have hW' := hW
  obtain ⟨p, q, hA0, hV, rfl, hfz, hnd⟩ := hW
  have hA : DataW.TrodAll enc Try.prog W 0 (fun _ => true) true Try.f5.params.toList args.toList ds p := hA0
  rw [Try.params5] at hA hval
  obtain ⟨v0, vs0, d0, ds0, p0, q0, hargs, rfl, rfl, h0, r0⟩ := trodAll_cons hA
  obtain ⟨rfl, rfl, rfl⟩ := trodAll_nil r0
  obtain rfl : args = #[v0] := by cases args; simp_all
  obtain ⟨rfl, rfl⟩ := trodVars_none hV
  have k0 := h0
  have lt0 : ∀ x ∈ p0, x.block < W.heap.size := by obtain ⟨m, hm⟩ := k0; exact DataW.trod_lt m _ _ _ hm
  obtain ⟨a0, n0, cap0, gs0, rfl, w0⟩ := open_grids (hval 0 36 v0 rfl rfl) h0
  clear hA0 hval0
  refine (walk a0 n0 cap0 gs0 W w0).mono fun e W' ⟨he, bel⟩ => ?_
  subst he
  exact ⟨_, rfl, _, _, _, [], _, [], hW', trodAll_mk1 (shut_bool Try.underlying4 _), (trodAll_cons_mk (Below.trod laidOut (by kernel_rfl) (of_decide_eq_true (by kernel_rfl)) k0 bel lt0) trodAll_mk0), rfl, bel.frame _, fun h => by cases h⟩

theorem over : Rows.gridLaysRow.holds Try.pinned (OpenSpec.ofChange Rows.gridLaysSpec) :=
  OpenClaim.holds_of_wide 5 Try.f5 rfl rfl rfl rfl rfl rfl rfl ⟨rfl, rfl, rfl, rfl, rfl⟩ rfl rfl rfl rfl rfl (by kernel_rfl) Try.func5 (by kernel_rfl)
    (of_decide_eq_true (by kernel_rfl)) (by unfold Func.isWrapper; first | (rw [if_pos (by decide +kernel)]; kernel_rfl) | (rw [if_neg (by decide +kernel)]; exact ⟨rfl, rfl⟩))
    (fun os started H enc _ => lifted os started H enc)

/-- ████ THE STATEMENT ████ -/
theorem proved : Rows.GridLaysSaid := over
#print axioms proved
end Go.Proofs.Ytocjcfblpifdhaa.gridLays
