/-
  Proved: for any kind and any body FramePacks returns true (the frame is the document's, byte by byte; Parse gives kind and body back; the body handed in is as it was) and nothing that was in memory turns. No condition.
-/
import Derived.Test.YtpcnikbggpodgaaRows
import Derived.WalkKit
import Derived.ProofKit
import Derived.OpenShut
import Derived.ShutString
import Derived.ChangeOld
import Derived.Below
import Derived.Test.YtpcnikbggpodgaaLaw14
import Derived.Deep.CutRange
namespace Go.Proofs.Ytpcnikbggpodgaa.framePacks
open Go.ChangeShapes Go.WideShapes Go.ChangeAt Go.RowKit
open Go.ChangeMaps (open_string shut_string)
set_option linter.unusedVariables false

theorem own : ownKnob Try.prog.godebug = none := by kernel_rfl
theorem laidOut : laidOutB Try.prog = true := by kernel_rfl

/-- WHAT THE WALK IS TOLD OF A SLICE OF INTEGERS THAT CAME IN: it is nil; or it leads to a row of 'cap' cells, the numbers 'zs' (the first 'len' are its elements, the rest its spare room), each fitting its kind. -/
def IsRow (k : IntKind) (w : World) (a : Option Addr) (len cap : Nat) (zs : List Int) : Prop :=
  (a = none ∧ len = 0 ∧ cap = 0 ∧ zs = []) ∨
  ∃ x, a = some x ∧ len ≤ cap ∧ cap ≤ maxLen ∧ zs.length = cap ∧ (∀ i, i < zs.length → w.cell? (x.add i) = some (.int k (zs.getD i 0))) ∧ ∀ n ∈ zs, (Lit.int k n).wf = true

/-! ### STEP 1: THE WALK: the Go text returns true, AND WRITES NOTHING THAT WAS THERE: 'Below w.heap.size w w'' (Derived/Below.lean: '.refl', '.alloc', '.drew', '.setCell' at a new block, '.trans'). Open each 'IsRow' by 'rcases' AHEAD of 'go_enter'; part every test ahead of the walk. -/
set_option maxHeartbeats 3200000 in
theorem walk (a0 : Int) (a1 : Option Addr) (len1 cap1 : Nat) (z1 : List Int) (w : World) (w0 : (Lit.int .u8 a0).wf = true) (w1 : IsRow .u8 w a1 len1 cap1 z1) :
    Calls Try.prog 3 #[.int .u8 a0, .slice a1 len1 cap1] w fun e w' => e = .returned (.bool true) ∧ Below w.heap.size w w' := by
  obtain ⟨xs, hq⟩ := rw_of_row w1
  have HK := Lib.hid w0
  have HQ := Lib.hid hq
  have HL : Hid (xs.length = len1) := Lib.hid hq.1.1
  have HW : Hid (∀ x ∈ xs, (Lit.int .u8 x).wf = true) := Lib.hid hq.1.2.2.1
  clear w0 w1 hq
  by_cases h3000 : 3000 < len1
  · have h1 : (3000 : Int) < (len1 : Int) := by omega
    go_enter Try.func3, Try.ntmps3
    go_wp2_with fail
    refine (awake14 _).mono ?_
    rintro e w2 ⟨rfl, hb1⟩
    go_wp2_with fail
    refine (awake14 _).mono ?_
    rintro e w3 ⟨rfl, hb2⟩
    have HB := Lib.hid (below_two hb1 hb2)
    clear hb1 hb2
    go_wp2_with fail
    go_ret
    exact ⟨rfl, HB.out⟩
  · have h1 : ¬ (3000 : Int) < (len1 : Int) := by omega
    go_enter Try.func3, Try.ntmps3
    go_wp2_with fail
    refine (awake14 _).mono ?_
    rintro e w2 ⟨rfl, hb2⟩
    have HB2 := Lib.hid hb2
    obtain ⟨g, w3, hr3, hg3, hgv, hgn, hb3⟩ := copy14 w2 ⟨a1, len1, cap1, xs⟩ (HQ.out.below hb2) (by show len1 ≤ _; omega)
    simp only at hr3 hgv hgn
    obtain ⟨ga, gn, gcap, gv⟩ := g
    simp only at hgv hgn hr3 hg3
    obtain rfl : gv = xs := hgv
    obtain rfl : gn = len1 := hgn
    have HB3 := Lib.hid (below_two hb2 hb3)
    have P1 := pack14 a0 HK.out _ w3 hg3 (by show gn ≤ _; omega)
    simp only at P1
    have HG3 := Lib.hid hg3
    clear hb2 hb3 hg3
    go_wp2_with (at_builtin; refine wpList_append_at (by rfl) _ _ _ (by rfl) _ _ (by rfl) (by rfl) hr3 ?_)
    refine P1.mono ?_
    rintro e w4 ⟨⟨v4, rfl, ho4⟩, hb4⟩
    have HB4 := Lib.hid (below_two HB3.out hb4)
    obtain ⟨fb, fcap, rfl, hF, _, _⟩ := frm_row HK.out HW.out (by rw [HL.out]; omega) HL.out.symm ho4
    have HG := Lib.hid (HG3.out.below hb4)
    have HF := Lib.hid hF
    have HDP : Hid (∀ W, Below w.heap.size w W → Calls Try.prog 10 #[.int .u8 a0, .slice a1 gn cap1] W fun e w' => OwnB W.heap.size (gn + 12) (frm a0 gv) e w' ∧ Below W.heap.size W w') := Lib.hid (fun W hW => dpack14 a0 HK.out ⟨a1, gn, cap1, gv⟩ W (HQ.out.below hW) (by show gn ≤ _; omega))
    obtain ⟨s1, hs1⟩ : ∃ s, strOfNums gv = s := ⟨_, rfl⟩
    obtain ⟨s2, hs2⟩ : ∃ s, strOfNums (frm a0 gv) = s := ⟨_, rfl⟩
    have HCV : Hid (∀ (W : World) (a : Option Addr) (m cap : Nat) (zs : List Int), Elems .u8 W a m gv → Sem.run Try.prog (convert 22 9 (.slice a m cap)) W = .ok (.string s1) W) := Lib.hid (fun W a m cap zs hE => by rw [← hs1]; exact conv_u8 hE)
    have HCF : Hid (∀ (W : World) (a : Option Addr) (m cap : Nat), Elems .u8 W a m (frm a0 gv) → Sem.run Try.prog (convert 22 9 (.slice a m cap)) W = .ok (.string s2) W) := Lib.hid (fun W a m cap hE => by rw [← hs2]; exact conv_u8 hE)
    have a0' := HCV.out w4 ga gn gcap [] HG.out.1
    have a1' := HCV.out w4 a1 gn cap1 [] (HQ.out.below HB4.out).1
    have a2' := HCF.out w4 (some ⟨fb, 0, none⟩) (gn + 12) fcap hF.1
    have d0' : Sem.run Try.prog (convert 22 9 (.slice ga gn gcap)) w4.drew = .ok (.string s1) w4.drew := HCV.out w4.drew ga gn gcap [] HG.out.1
    have d1' : Sem.run Try.prog (convert 22 9 (.slice a1 gn cap1)) w4.drew = .ok (.string s1) w4.drew := HCV.out w4.drew a1 gn cap1 [] (HQ.out.below HB4.out).1
    have d2' : Sem.run Try.prog (convert 22 9 (.slice (some ⟨fb, 0, none⟩) (gn + 12) fcap)) w4.drew = .ok (.string s2) w4.drew := HCF.out w4.drew (some ⟨fb, 0, none⟩) (gn + 12) fcap hF.1
    clear P1 hr3 ho4 hb4 hF hs1 hs2 HG3
    go_upto_region 5 with fail
    go_cut [45] from 28 to 45 (fun v wx => v = .bool false ∧ Hid (Below w.heap.size w wx) ∧ Hid (Rw.In .u8 wx ⟨some ⟨fb, 0, none⟩, gn + 12, fcap, frm a0 gv⟩))
    case first =>
      refine wp_region_held_drew (S := (fun V => Sem.run Try.prog (convert 22 9 (.slice ga gn gcap)) V = .ok (.string s1) V ∧ Sem.run Try.prog (convert 22 9 (.slice a1 gn cap1)) V = .ok (.string s1) V ∧ Sem.run Try.prog (convert 22 9 (.slice (some ⟨fb, 0, none⟩) (gn + 12) fcap)) V = .ok (.string s2) V)) (by kernel_rfl) ?_ (fun hHeld => ?_)
      · (first | go_keep | (go_split_ands; refine ⟨?_, ?_, ?_⟩ <;> assumption))
      refine wpAnyH_take (i := 0) (oi := ⟨some 28, _, _, _, _, _⟩) (v := ?_) rfl (by kernel_rfl) (by kernel_rfl) (by kernel_rfl) (fun _ _ _ h => h) (Or.inl ⟨by rfl, ?hy1⟩) hHeld ?rest1
      case hy1 => (intro W hSw; (try dsimp only at hSw); go_simp; (try with_reducible rfl))
      simp only [Act.put, List.setIfInBounds_toArray, List.set_cons_zero, List.set_cons_succ]
      refine wpAnyH_take (i := 1) (oi := ⟨some 29, _, _, _, _, _⟩) (v := ?_) rfl (by kernel_rfl) (by kernel_rfl) (by kernel_rfl) (fun _ _ _ h => h) (Or.inl ⟨by rfl, ?hy2⟩) hHeld ?rest2
      case hy2 => (intro W hSw; (try dsimp only at hSw); go_simp; (try with_reducible rfl))
      simp only [Act.put, List.setIfInBounds_toArray, List.set_cons_zero, List.set_cons_succ]
      refine wpAnyH_take (i := 2) (oi := ⟨some 30, _, _, _, _, _⟩) (v := ?_) rfl (by kernel_rfl) (by kernel_rfl) (by kernel_rfl) (fun _ _ _ h => h) (Or.inl ⟨by rfl, ?hy3⟩) hHeld ?rest3
      case hy3 => (intro W hSw; (try dsimp only at hSw); go_simp; (try with_reducible rfl))
      simp only [Act.put, List.setIfInBounds_toArray, List.set_cons_zero, List.set_cons_succ]
      refine wpAnyH_take (i := 3) (oi := ⟨some 31, _, _, _, _, _⟩) (v := ?_) rfl (by kernel_rfl) (by kernel_rfl) (by kernel_rfl) (fun _ _ _ h => h) (Or.inl ⟨by rfl, ?hy4⟩) hHeld ?rest4
      case hy4 => (intro W hSw; (try dsimp only at hSw); go_simp; (try with_reducible rfl))
      simp only [Act.put, List.setIfInBounds_toArray, List.set_cons_zero, List.set_cons_succ]
      refine wpAnyH_take (i := 4) (oi := ⟨some 32, _, _, _, _, _⟩) (v := ?_) rfl (by kernel_rfl) (by kernel_rfl) (by kernel_rfl) (fun _ _ _ h => h) (Or.inl ⟨by rfl, ?hy5⟩) hHeld ?rest5
      case hy5 => (intro W hSw; (try dsimp only at hSw); go_simp; (try with_reducible rfl))
      simp only [Act.put, List.setIfInBounds_toArray, List.set_cons_zero, List.set_cons_succ]
      refine wpAnyH_take (i := 5) (oi := ⟨some 33, _, _, _, _, _⟩) (v := ?_) rfl (by kernel_rfl) (by kernel_rfl) (by kernel_rfl) (fun _ _ _ h => h) (Or.inl ⟨by rfl, ?hy6⟩) hHeld ?rest6
      case hy6 => (intro W hSw; (try dsimp only at hSw); go_simp; (try with_reducible rfl))
      simp only [Act.put, List.setIfInBounds_toArray, List.set_cons_zero, List.set_cons_succ]
      refine wpAnyH_take (i := 6) (oi := ⟨some 34, _, _, _, _, _⟩) (v := ?_) rfl (by kernel_rfl) (by kernel_rfl) (by kernel_rfl) (fun _ _ _ h => h) (Or.inl ⟨by rfl, ?hy7⟩) hHeld ?rest7
      case hy7 => (intro W hSw; (try dsimp only at hSw); go_simp; (try with_reducible rfl))
      simp only [Act.put, List.setIfInBounds_toArray, List.set_cons_zero, List.set_cons_succ]
      refine wpAnyH_take (i := 7) (oi := ⟨some 35, _, _, _, _, _⟩) (v := ?_) rfl (by kernel_rfl) (by kernel_rfl) (by kernel_rfl) (fun _ _ _ h => h) (Or.inl ⟨by rfl, ?hy8⟩) hHeld ?rest8
      case hy8 => (intro W hSw; (try dsimp only at hSw); go_simp; (try with_reducible rfl))
      simp only [Act.put, List.setIfInBounds_toArray, List.set_cons_zero, List.set_cons_succ]
      refine wpAnyH_take (i := 8) (oi := ⟨some 36, _, _, _, _, _⟩) (v := ?_) rfl (by kernel_rfl) (by kernel_rfl) (by kernel_rfl) (fun _ _ _ h => h) (Or.inl ⟨by rfl, ?hy9⟩) hHeld ?rest9
      case hy9 => (intro W hSw; (try dsimp only at hSw); go_simp; (try with_reducible rfl))
      simp only [Act.put, List.setIfInBounds_toArray, List.set_cons_zero, List.set_cons_succ]
      refine wpAnyH_take (i := 9) (oi := ⟨some 37, _, _, _, _, _⟩) (v := ?_) rfl (by kernel_rfl) (by kernel_rfl) (by kernel_rfl) (fun _ _ _ h => h) (Or.inl ⟨by rfl, ?hy10⟩) hHeld ?rest10
      case hy10 => (intro W hSw; (try dsimp only at hSw); go_simp; (try with_reducible rfl))
      simp only [Act.put, List.setIfInBounds_toArray, List.set_cons_zero, List.set_cons_succ]
      refine wpAnyH_take (i := 10) (oi := ⟨some 38, _, _, _, _, _⟩) (v := ?_) rfl (by kernel_rfl) (by kernel_rfl) (by kernel_rfl) (fun _ _ _ h => h) (Or.inl ⟨by rfl, ?hy11⟩) hHeld ?rest11
      case hy11 => (intro W hSw; (try dsimp only at hSw); go_simp; (try with_reducible rfl))
      simp only [Act.put, List.setIfInBounds_toArray, List.set_cons_zero, List.set_cons_succ]
      refine wpAnyH_take (i := 11) (oi := ⟨some 39, _, _, _, _, _⟩) (v := ?_) rfl (by kernel_rfl) (by kernel_rfl) (by kernel_rfl) (fun _ _ _ h => h) (Or.inl ⟨by rfl, ?hy12⟩) hHeld ?rest12
      case hy12 => (intro W hSw; (try dsimp only at hSw); go_simp; (try with_reducible rfl))
      simp only [Act.put, List.setIfInBounds_toArray, List.set_cons_zero, List.set_cons_succ]
      refine wpAnyH_take (i := 12) (oi := ⟨some 40, _, _, _, _, _⟩) (v := ?_) rfl (by kernel_rfl) (by kernel_rfl) (by kernel_rfl) (fun _ _ _ h => h) (Or.inl ⟨by rfl, ?hy13⟩) hHeld ?rest13
      case hy13 => (intro W hSw; (try dsimp only at hSw); go_simp; (try with_reducible rfl))
      simp only [Act.put, List.setIfInBounds_toArray, List.set_cons_zero, List.set_cons_succ]
      refine wpAnyH_take (i := 13) (oi := ⟨some 41, _, _, _, _, _⟩) (v := ?_) rfl (by kernel_rfl) (by kernel_rfl) (by kernel_rfl) (fun _ _ _ h => h) (Or.inl ⟨by rfl, ?hy14⟩) hHeld ?rest14
      case hy14 => (intro W hSw; (try dsimp only at hSw); go_simp; (try with_reducible rfl))
      simp only [Act.put, List.setIfInBounds_toArray, List.set_cons_zero, List.set_cons_succ]
      refine wpAnyH_ready (rs := [14]) (by kernel_rfl) (by simp) ?_
      refine AllReadyH.cons (o := ⟨some 42, _, _, _, _, _⟩) rfl (fun K hK => ?_) AllReadyH.nil
      go_simp
      go_at_call 10
      refine (HDP.out _ ?h1).mono ?_
      case h1 => (first | exact HB4.out | exact HB4.out.drew | exact below_drewN HB4.out _)
      rintro e w5 ⟨⟨v5, rfl, ho5⟩, hb5⟩
      have HB5 : Hid (Below w.heap.size w w5) := Lib.hid (by
        first
        | exact below_two HB4.out hb5
        | exact below_two HB4.out.drew hb5
        | exact below_two (below_drewN HB4.out _) hb5)
      have HBW : Hid (Below w4.heap.size w4 w5) := Lib.hid (by
        first
        | exact hb5
        | exact below_two (Below.refl _ _).drew hb5
        | exact below_two (below_drewN (Below.refl _ _) _) hb5)
      obtain ⟨rb, rcap, rfl, hR, _, _⟩ := frm_row HK.out HW.out (by rw [HL.out]; omega) HL.out.symm ho5
      have HG5 := HG.out.below HBW.out
      have HQ5 := HQ.out.below HB5.out
      have HF5 := HF.out.below HBW.out
      have b0 := HCV.out w5 ga gn gcap [] HG5.1
      have b1 := HCV.out w5 a1 gn cap1 [] HQ5.1
      have b2 := HCF.out w5 (some ⟨fb, 0, none⟩) (gn + 12) fcap HF5.1
      have b3 := HCF.out w5 (some ⟨rb, 0, none⟩) (gn + 12) rcap hR.1
      have HF6 := Lib.hid HF5
      clear hb5 ho5 hR HG5 HQ5 HF5
      (try go_wp2_with fail)
      refine hK.out _ _ ?_ (fun hNew => ?_)
      · ((try dsimp only); (first | go_keep | (go_split_ands; refine ⟨?_, ?_, ?_⟩ <;> assumption)))
      clear hK K hHeld
      have hHeld := hNew
      clear hNew
      try simp only [Act.put, List.setIfInBounds_toArray, List.set_cons_zero, List.set_cons_succ]
      refine wpAnyH_ready (rs := [15]) (by kernel_rfl) (by simp) ?_
      refine AllReadyH.cons (o := ⟨some 43, _, _, _, _, _⟩) rfl (fun K hK => ?_) AllReadyH.nil
      go_simp
      refine hK.out _ _ ?_ (fun hNew => ?_)
      · ((try dsimp only); (first | go_keep | (go_split_ands; refine ⟨?_, ?_, ?_⟩ <;> assumption)))
      clear hK K hHeld
      have hHeld := hNew
      clear hNew
      try simp only [Act.put, List.setIfInBounds_toArray, List.set_cons_zero, List.set_cons_succ]
      refine wpAnyH_take (i := 16) (oi := ⟨some 44, _, _, _, _, _⟩) (v := ?_) rfl (by kernel_rfl) (by kernel_rfl) (by kernel_rfl) (fun _ _ _ h => h) (Or.inl ⟨by rfl, ?hy17⟩) hHeld ?rest17
      case hy17 => (intro W hSw; (try dsimp only at hSw); go_simp; (try with_reducible rfl))
      simp only [Act.put, List.setIfInBounds_toArray, List.set_cons_zero, List.set_cons_succ]
      refine wpAnyH_take (i := 17) (oi := ⟨some 45, _, _, _, _, _⟩) (v := ?_) rfl (by kernel_rfl) (by kernel_rfl) (by kernel_rfl) (fun _ _ _ h => h) (Or.inl ⟨by rfl, ?hy18⟩) hHeld ?rest18
      case hy18 => (intro W hSw; (try dsimp only at hSw); go_simp; (try with_reducible rfl))
      simp only [Act.put, List.setIfInBounds_toArray, List.set_cons_zero, List.set_cons_succ]
      refine wpAnyH_done (by kernel_rfl) ?_ _
      go_wp2_with fail
      go_meet
      case rel => exact ⟨rfl, HB5, HF6⟩
    obtain ⟨rfl, HBX, HFX⟩ := hcut
    have P2 := parse14 _ wc HFX.out (by show gn + 12 ≤ _; omega)
    simp only at P2
    have HFL : Hid (flt (frm a0 gv) = 0) := Lib.hid (flt_frm (by rw [HL.out]; omega))
    clear a0' a1' a2' d0' d1' d2'
    go_wp2_with fail
    refine P2.mono ?_
    rintro e w6 ⟨k, g6, rfl, hg6, hok, _, hb6⟩
    obtain ⟨hk6, hv6⟩ := hok HFL.out
    rw [frm_kind] at hk6
    subst hk6
    have hv7 : g6.v = gv := by rw [hv6, frm_len, Nat.add_sub_cancel, frm_body]
    obtain ⟨g6a, g6n, g6cap, g6v⟩ := g6
    simp only at hv7
    subst hv7
    have hf := HFL.out
    rw [hf]
    have HB6 := Lib.hid (below_two HBX.out hb6)
    have c0 := HCV.out w6 g6a g6n g6cap [] hg6.1
    have c1 := HCV.out w6 a1 gn cap1 [] (HQ.out.below HB6.out).1
    have e0 : (k == k) = true := by simp
    clear P2 hg6 hok hb6 hf hv6
    simp only
    go_wp2_with fail
    go_ret
    exact ⟨rfl, HB6.out⟩

/-! ### THE ROW's STEP: WRITTEN OUT: LEAVE IT -/
set_option maxRecDepth 100000 in
theorem lifted (os : Os) (started : os.Started) (H : Type) (enc : TypeId × Value → H) :
    ReturnsInHanded {} Try.checked os 3 .any (Rows.framePacksSpec.pre6 enc Try.prog Try.f3 Rows.framePacksRow.domain false) (Rows.framePacksSpec.post enc Try.prog Try.f3 false true false false) := by
  refine returnsInHanded_of_change (C := Try.checked) own started (by kernel_rfl) Try.func3
    (ChangeSpec.witness6 (enc := enc) (C := Try.checked) false ⟨#[], #[.int .u8 0, .slice none 0 0], []⟩ 8 (by kernel_rfl) (by kernel_rfl) (by kernel_rfl) (by kernel_rfl)) ?_
  intro W base args ds gs before hval0 hW hcnd _
  have hval : ∀ (j : Nat) t v, Try.f3.params[j]? = some t → args[j]? = some v → Value.okWide Try.prog W .any base t v := hval0
  have hW' := hW
  obtain ⟨p, q, hA0, hV, rfl, hfz, hnd⟩ := hW
  have hA : DataW.TrodAll enc Try.prog W 0 (fun _ => true) true Try.f3.params.toList args.toList ds p := hA0
  rw [Try.params3] at hA hval
  obtain ⟨v0, vs0, d0, ds0, p0, q0, hargs, rfl, rfl, h0, r0⟩ := trodAll_cons hA
  obtain ⟨v1, vs1, d1, ds1, p1, q1, rfl, rfl, rfl, h1, r1⟩ := trodAll_cons r0
  obtain ⟨rfl, rfl, rfl⟩ := trodAll_nil r1
  obtain rfl : args = #[v0, v1] := by cases args; simp_all
  obtain ⟨rfl, rfl⟩ := trodVars_none hV
  obtain ⟨a0, rfl, rfl, rfl, w0⟩ := open_int Try.underlying5 (hval 0 5 v0 rfl rfl) h0
  obtain ⟨a1, len1, cap1, rfl⟩ := okWide_slice Try.underlying22 (hval 1 22 v1 rfl rfl)
  have k1 := h1
  have lt1 : ∀ x ∈ p1, x.block < W.heap.size := by obtain ⟨m, hm⟩ := k1; exact DataW.trod_lt m _ _ _ hm
  obtain ⟨z1, w1⟩ : ∃ zs, IsRow .u8 W a1 len1 cap1 zs := by
    obtain ⟨fuel, hf⟩ := h1
    rcases open_ints Try.underlying22 Try.underlying5 (by kernel_rfl) hf with ⟨hcs, _⟩ | ⟨x, l, c, zs, hcs, _, hl, hm, hz, _, hcell, hwz⟩
    · simp [Value.cells] at hcs
      obtain ⟨rfl, rfl, rfl⟩ := hcs
      exact ⟨[], .inl ⟨rfl, rfl, rfl, rfl⟩⟩
    · simp [Value.cells] at hcs
      obtain ⟨rfl, rfl, rfl⟩ := hcs
      exact ⟨zs, .inr ⟨_, rfl, hl, hm, by simpa using hz, hcell, hwz⟩⟩
  clear hA0 hval0
  refine (walk a0 a1 len1 cap1 z1 W w0 w1).mono fun e W' ⟨he, bel⟩ => ?_
  subst he
  exact ⟨_, rfl, _, _, _, [], _, [], hW', trodAll_mk1 (shut_bool Try.underlying4 _), (trodAll_cons_mk (shut_int Try.underlying5 w0) (trodAll_cons_mk (Below.trod laidOut (by kernel_rfl) (of_decide_eq_true (by kernel_rfl)) k1 bel lt1) trodAll_mk0)), rfl, bel.frame _, fun h => by cases h⟩

theorem over : Rows.framePacksRow.holds Try.pinned (OpenSpec.ofChange Rows.framePacksSpec) :=
  OpenClaim.holds_of_wide 3 Try.f3 rfl rfl rfl rfl rfl rfl rfl ⟨rfl, rfl, rfl, rfl, rfl⟩ rfl rfl rfl rfl rfl (by kernel_rfl) Try.func3 (by kernel_rfl)
    (of_decide_eq_true (by kernel_rfl)) (by unfold Func.isWrapper; first | (rw [if_pos (by decide +kernel)]; kernel_rfl) | (rw [if_neg (by decide +kernel)]; exact ⟨rfl, rfl⟩))
    (fun os started H enc _ => lifted os started H enc)

/-- ████ THE STATEMENT ████ -/
theorem proved : Rows.FramePacksSaid := over
#print axioms proved
end Go.Proofs.Ytpcnikbggpodgaa.framePacks
