/-
  Proved: for any bytes MsgParses returns true (Parse's error is the document's; what is read without an error is right and has just these bytes, with one it is nought) and nothing that was in memory turns. No condition.
-/
import Derived.Test.YtobogkilkmnpmaaRows
import Derived.WalkKit
import Derived.ProofKit
import Derived.OpenShut
import Derived.ShutString
import Derived.ChangeOld
import Derived.Below
import Derived.Test.YtobogkilkmnpmaaBack15
import Derived.Test.YtobogkilkmnpmaaAwake15
import Derived.Test.YtobogkilkmnpmaaLaw14
import Derived.Deep.CutRange
namespace Go.Proofs.Ytobogkilkmnpmaa.msgParses
open Go.ChangeShapes Go.WideShapes Go.ChangeAt Go.RowKit
open Go.ChangeMaps (open_string shut_string)
set_option linter.unusedVariables false

theorem own : ownKnob Try.prog.godebug = none := by kernel_rfl
theorem laidOut : laidOutB Try.prog = true := by kernel_rfl

/-- WHAT THE WALK IS TOLD OF A SLICE OF INTEGERS THAT CAME IN: it is nil; or it leads to a row of 'cap' cells, the numbers 'zs' (the first 'len' are its elements, the rest its spare room), each fitting its kind. -/
def IsRow (k : IntKind) (w : World) (a : Option Addr) (len cap : Nat) (zs : List Int) : Prop :=
  (a = none ∧ len = 0 ∧ cap = 0 ∧ zs = []) ∨
  ∃ x, a = some x ∧ len ≤ cap ∧ cap ≤ maxLen ∧ zs.length = cap ∧ (∀ i, i < zs.length → w.cell? (x.add i) = some (.int k (zs.getD i 0))) ∧ ∀ n ∈ zs, (Lit.int k n).wf = true

/-! ### STEP 1: THE WALK: the Go text returns true, AND WRITES NOTHING THAT WAS THERE: 'Below w.heap.size w w'' (Derived/Below.lean: '.refl', '.alloc', '.drew', '.setCell' at a new block, '.trans'). Open each 'IsRow' by 'rcases' AHEAD of 'go_enter'; part every test ahead of the walk. -/
set_option maxHeartbeats 6400000 in
set_option maxRecDepth 100000 in
theorem walk (a0 : Option Addr) (len0 cap0 : Nat) (z0 : List Int) (w : World) (w0 : IsRow .u8 w a0 len0 cap0 z0) :
    Calls Try.prog 4 #[.slice a0 len0 cap0] w fun e w' => e = .returned (.bool true) ∧ Below w.heap.size w w' := by
  obtain ⟨xs, hq⟩ := rw_of_row w0
  have HQ := Lib.hid hq
  have HL : Hid (xs.length = len0) := Lib.hid hq.1.1
  clear w0 hq
  by_cases h3000 : 3000 < len0
  · have h1 : (3000 : Int) < (len0 : Int) := by omega
    go_enter Try.func4, Try.ntmps4
    go_wp2_with fail
    refine (awake15 _).mono ?_
    rintro e w2 ⟨rfl, hb1⟩
    go_wp2_with fail
    refine (awake15 _).mono ?_
    rintro e w3 ⟨rfl, hb2⟩
    have HB := Lib.hid (below_two hb1 hb2)
    clear hb1 hb2
    go_wp2_with fail
    go_ret
    exact ⟨rfl, HB.out⟩
  · have h1 : ¬ (3000 : Int) < (len0 : Int) := by omega
    go_enter Try.func4, Try.ntmps4
    go_wp2_with fail
    refine (awake15 _).mono ?_
    rintro e w2 ⟨rfl, hb2⟩
    obtain ⟨g, w3, hr3, hg3, hgv, hgn, hb3⟩ := copy14 w2 ⟨a0, len0, cap0, xs⟩ (HQ.out.below hb2) (by show len0 ≤ _; omega)
    simp only at hr3 hgv hgn
    obtain ⟨ga, gn, gcap, gv⟩ := g
    simp only at hgv hgn hr3 hg3
    obtain rfl : gv = xs := hgv
    obtain rfl : gn = len0 := hgn
    have HB3 := Lib.hid (below_two hb2 hb3)
    have P1 := parse15 _ w3 hg3 (by show gn ≤ _; omega)
    simp only at P1
    clear hb2 hb3 hg3
    go_wp2_with (at_builtin; refine wpList_append_at (by rfl) _ _ _ (by rfl) _ _ (by rfl) (by rfl) hr3 ?_)
    refine P1.mono ?_
    rintro e w4 ⟨⟨hyes, hno⟩, hb4⟩
    have HB4 := Lib.hid (below_two HB3.out hb4)
    clear P1 hr3 hb4
    obtain ⟨tb, htb⟩ : ∃ tb, w4.heap.size = tb := ⟨_, rfl⟩
    have hbt : w.heap.size ≤ tb := by rw [← htb]; exact HB4.out.size
    by_cases hf : flt15 gv = 0
    · obtain ⟨x, rfl, hxi, gl, hx, hlv, hln⟩ := hyes hf
      obtain ⟨hrx, hfb⟩ := parse_right HQ.out.1.2.2.1 hf hx hlv hln
      clear hyes hno hx hlv hln
      go_upto_region 4 with fail
      have X1 : Box (w4.alloc (.cells #[.int .i64 x.kind, .int .i64 x.n0, .int .i64 x.n1, .int .i64 x.n2, .int .i64 x.n3, .int .i64 x.n4, .int .i64 x.n5, .int .i64 x.n6, .slice x.li.a x.li.n x.li.cap] 24)) w4.heap.size 24 #[.int .i64 x.kind, .int .i64 x.n0, .int .i64 x.n1, .int .i64 x.n2, .int .i64 x.n3, .int .i64 x.n4, .int .i64 x.n5, .int .i64 x.n6, .slice x.li.a x.li.n x.li.cap] := box_new _ _ _
      have hb45 : Below w4.heap.size w4 (w4.alloc (.cells #[.int .i64 x.kind, .int .i64 x.n0, .int .i64 x.n1, .int .i64 x.n2, .int .i64 x.n3, .int .i64 x.n4, .int .i64 x.n5, .int .i64 x.n6, .slice x.li.a x.li.n x.li.cap] 24)) := (Below.refl _ w4).alloc (Nat.le_refl _) _
      rw [htb] at X1 hb45
      have hb45' : Below w4.heap.size w4 (w4.alloc (.cells #[.int .i64 x.kind, .int .i64 x.n0, .int .i64 x.n1, .int .i64 x.n2, .int .i64 x.n3, .int .i64 x.n4, .int .i64 x.n5, .int .i64 x.n6, .slice x.li.a x.li.n x.li.cap] 24)) := by rw [htb]; exact hb45
      generalize (w4.alloc (.cells #[.int .i64 x.kind, .int .i64 x.n0, .int .i64 x.n1, .int .i64 x.n2, .int .i64 x.n3, .int .i64 x.n4, .int .i64 x.n5, .int .i64 x.n6, .slice x.li.a x.li.n x.li.cap] 24)) = w5 at X1 hb45 hb45' ⊢
      have HXI := Lib.hid (hxi.below hb45')
      have HB5 := Lib.hid (HB4.out.trans (hb45'.mono HB4.out.size))
      have HX1 := Lib.hid X1
      have HRX := Lib.hid hrx
      have HFB := Lib.hid hfb
      clear X1 hb45 hb45' hxi hrx hfb htb
      have P2 := dfault15 ⟨a0, gn, cap0, gv⟩ w5 (HQ.out.below HB5.out) (by show gn ≤ _; omega)
      simp only at P2
      rw [hf] at P2
      clear hf
      go_wp2_with fail
      refine P2.mono ?_
      rintro e w6 ⟨rfl, hb6⟩
      have HB6 := Lib.hid (below_two HB5.out hb6)
      have X6 := HX1.out.bel hb6
      have HXI := Lib.hid (HXI.out.below hb6)
      have c0 : w6.cell? ⟨tb, 0, none⟩ = some (.int .i64 x.kind) := X6.cell 0
      have c1 : w6.cell? ⟨tb, 1, none⟩ = some (.int .i64 x.n0) := X6.cell 1
      have c2 : w6.cell? ⟨tb, 2, none⟩ = some (.int .i64 x.n1) := X6.cell 2
      have c3 : w6.cell? ⟨tb, 3, none⟩ = some (.int .i64 x.n2) := X6.cell 3
      have c4 : w6.cell? ⟨tb, 4, none⟩ = some (.int .i64 x.n3) := X6.cell 4
      have c5 : w6.cell? ⟨tb, 5, none⟩ = some (.int .i64 x.n4) := X6.cell 5
      have c6 : w6.cell? ⟨tb, 6, none⟩ = some (.int .i64 x.n5) := X6.cell 6
      have c7 : w6.cell? ⟨tb, 7, none⟩ = some (.int .i64 x.n6) := X6.cell 7
      have c8 : w6.cell? ⟨tb, 8, none⟩ = some (.slice x.li.a x.li.n x.li.cap) := X6.cell 8
      obtain ⟨s1, hs1⟩ : ∃ s, strOfNums gv = s := ⟨_, rfl⟩
      have HCV : Hid (∀ W, Below w6.heap.size w6 W → Sem.run Try.prog (convert 27 9 (.slice a0 gn cap0)) W = .ok (.string s1) W) := Lib.hid (fun W hW => by rw [← hs1]; exact conv_u8 ((HQ.out.below HB6.out).below hW).1)
      have HC2 : Hid (∀ (W : World) (a : Option Addr) (n c : Nat) (v : List Int), Elems .u8 W a n v → v = frm x.kind (bodyM (fm x.kind) x) → Sem.run Try.prog (convert 27 9 (.slice a n c)) W = .ok (.string s1) W) := Lib.hid (fun W a n c v hE hv => by rw [← hs1, ← HFB.out, ← hv]; exact conv_u8 hE)
      have hkb := fm_some (right_parts HRX.out).1
      have hbl := bodyM_len (fm x.kind) rfl HXI.out.li.1.1 HRX.out
      have HWF : Hid (∀ y ∈ frm x.kind (bodyM (fm x.kind) x), (Lit.int .u8 y).wf = true) := Lib.hid (frm_wf (b14_wf _ (by omega) (by omega)) (bodyM_wf _ x) (by omega))
      have HNB : Hid ((bodyM (fm x.kind) x).length + 12 ≤ 9223372036854775807) := Lib.hid (by omega)
      have cv : Sem.run Try.prog (convert 27 9 (.slice a0 gn cap0)) w6 = .ok (.string s1) w6 := HCV.out w6 (Below.refl _ _)
      have cvd : Sem.run Try.prog (convert 27 9 (.slice a0 gn cap0)) w6.drew = .ok (.string s1) w6.drew := HCV.out w6.drew (Below.refl _ w6).drew
      have hbr : Below w6.heap.size w6 w6.drew := (Below.refl _ w6).drew
      have R1 := dright15 x w6.drew (HXI.out.below hbr)
      rw [HRX.out] at R1
      clear P2 X6 hb6 hkb hbl hs1
      go_upto_region 9 with fail
      refine wp_region_held_drew (S := (fun V => V.cell? ⟨tb, 0, none⟩ = some (.int .i64 x.kind) ∧ V.cell? ⟨tb, 1, none⟩ = some (.int .i64 x.n0) ∧ V.cell? ⟨tb, 2, none⟩ = some (.int .i64 x.n1) ∧ V.cell? ⟨tb, 3, none⟩ = some (.int .i64 x.n2) ∧ V.cell? ⟨tb, 4, none⟩ = some (.int .i64 x.n3) ∧ V.cell? ⟨tb, 5, none⟩ = some (.int .i64 x.n4) ∧ V.cell? ⟨tb, 6, none⟩ = some (.int .i64 x.n5) ∧ V.cell? ⟨tb, 7, none⟩ = some (.int .i64 x.n6) ∧ V.cell? ⟨tb, 8, none⟩ = some (.slice x.li.a x.li.n x.li.cap) ∧ Sem.run Try.prog (convert 27 9 (.slice a0 gn cap0)) V = .ok (.string s1) V)) (by kernel_rfl) ?_ (fun hHeld => ?_)
      · (first | go_keep | (go_split_ands; refine ⟨?_, ?_, ?_, ?_, ?_, ?_, ?_, ?_, ?_, ?_⟩ <;> assumption))
      refine wpAnyH_take (i := 0) (oi := ⟨some 31, _, _, _, _, _⟩) (v := ?_) rfl (by kernel_rfl) (by kernel_rfl) (by kernel_rfl) (fun _ _ _ h => h) (Or.inl ⟨by rfl, ?hy1⟩) hHeld ?rest1
      case hy1 => (intro W hSw; (try dsimp only at hSw); go_simp; (try with_reducible rfl))
      simp only [Act.put, List.setIfInBounds_toArray, List.set_cons_zero, List.set_cons_succ]
      refine wpAnyH_ready (rs := [1]) (by kernel_rfl) (by simp) ?_
      refine AllReadyH.cons (o := ⟨some 32, _, _, _, _, _⟩) rfl (fun K hK => ?_) AllReadyH.nil
      go_simp
      go_at_call 10
      refine R1.mono ?_
      rintro e wb ⟨rfl, hbb⟩
      have hbr2 := below_two hbr hbb
      have j0 : wb.cell? ⟨tb, 0, none⟩ = some (.int .i64 x.kind) := cell_keep c0 hbr2
      have j1 : wb.cell? ⟨tb, 1, none⟩ = some (.int .i64 x.n0) := cell_keep c1 hbr2
      have j2 : wb.cell? ⟨tb, 2, none⟩ = some (.int .i64 x.n1) := cell_keep c2 hbr2
      have j3 : wb.cell? ⟨tb, 3, none⟩ = some (.int .i64 x.n2) := cell_keep c3 hbr2
      have j4 : wb.cell? ⟨tb, 4, none⟩ = some (.int .i64 x.n3) := cell_keep c4 hbr2
      have j5 : wb.cell? ⟨tb, 5, none⟩ = some (.int .i64 x.n4) := cell_keep c5 hbr2
      have j6 : wb.cell? ⟨tb, 6, none⟩ = some (.int .i64 x.n5) := cell_keep c6 hbr2
      have j7 : wb.cell? ⟨tb, 7, none⟩ = some (.int .i64 x.n6) := cell_keep c7 hbr2
      have j8 : wb.cell? ⟨tb, 8, none⟩ = some (.slice x.li.a x.li.n x.li.cap) := cell_keep c8 hbr2
      have jv : Sem.run Try.prog (convert 27 9 (.slice a0 gn cap0)) wb = .ok (.string s1) wb := HCV.out wb hbr2
      have jvd : Sem.run Try.prog (convert 27 9 (.slice a0 gn cap0)) wb.drew = .ok (.string s1) wb.drew := HCV.out wb.drew hbr2.drew
      have B1 := dbytes15 x wb (HXI.out.below hbr2) HRX.out
      (try go_wp2_with fail)
      refine hK.out _ _ ?_ (fun hNew => ?_)
      · (first | exact True.intro | ((try dsimp only); (first | go_keep | (go_split_ands; refine ⟨?_, ?_, ?_, ?_, ?_, ?_, ?_, ?_, ?_, ?_⟩ <;> assumption))))
      clear hK K hHeld
      have hHeld := hNew
      clear hNew
      try simp only [Act.put, List.setIfInBounds_toArray, List.set_cons_zero, List.set_cons_succ]
      refine wpAnyH_take (i := 2) (oi := ⟨some 33, _, _, _, _, _⟩) (v := ?_) rfl (by kernel_rfl) (by kernel_rfl) (by kernel_rfl) (fun _ _ _ h => h) (Or.inl ⟨by rfl, ?hy3⟩) hHeld ?rest3
      case hy3 => (intro W hSw; (try dsimp only at hSw); go_simp; (try with_reducible rfl))
      simp only [Act.put, List.setIfInBounds_toArray, List.set_cons_zero, List.set_cons_succ]
      refine wpAnyH_take (i := 3) (oi := ⟨some 34, _, _, _, _, _⟩) (v := ?_) rfl (by kernel_rfl) (by kernel_rfl) (by kernel_rfl) (fun _ _ _ h => h) (Or.inl ⟨by rfl, ?hy4⟩) hHeld ?rest4
      case hy4 => (intro W hSw; (try dsimp only at hSw); go_simp; (try with_reducible rfl))
      simp only [Act.put, List.setIfInBounds_toArray, List.set_cons_zero, List.set_cons_succ]
      refine wpAnyH_take (i := 6) (oi := ⟨some 37, _, _, _, _, _⟩) (v := ?_) rfl (by kernel_rfl) (by kernel_rfl) (by kernel_rfl) (fun _ _ _ h => h) (Or.inl ⟨by rfl, ?hy5⟩) hHeld ?rest5
      case hy5 => (intro W hSw; (try dsimp only at hSw); go_simp; (try with_reducible rfl))
      simp only [Act.put, List.setIfInBounds_toArray, List.set_cons_zero, List.set_cons_succ]
      refine wpAnyH_take (i := 7) (oi := ⟨some 38, _, _, _, _, _⟩) (v := ?_) rfl (by kernel_rfl) (by kernel_rfl) (by kernel_rfl) (fun _ _ _ h => h) (Or.inl ⟨by rfl, ?hy6⟩) hHeld ?rest6
      case hy6 => (intro W hSw; (try dsimp only at hSw); go_simp; (try with_reducible rfl))
      simp only [Act.put, List.setIfInBounds_toArray, List.set_cons_zero, List.set_cons_succ]
      refine wpAnyH_ready (rs := [4]) (by kernel_rfl) (by simp) ?_
      refine AllReadyH.cons (o := ⟨some 35, _, _, _, _, _⟩) rfl (fun K hK => ?_) AllReadyH.nil
      go_simp
      go_at_call 14
      refine B1.mono ?_
      rintro e wd ⟨⟨v, rfl, hob⟩, hbd⟩
      have hbr3 := below_two hbr2 hbd
      have k0 : wd.cell? ⟨tb, 0, none⟩ = some (.int .i64 x.kind) := cell_keep j0 hbd
      have k1 : wd.cell? ⟨tb, 1, none⟩ = some (.int .i64 x.n0) := cell_keep j1 hbd
      have k2 : wd.cell? ⟨tb, 2, none⟩ = some (.int .i64 x.n1) := cell_keep j2 hbd
      have k3 : wd.cell? ⟨tb, 3, none⟩ = some (.int .i64 x.n2) := cell_keep j3 hbd
      have k4 : wd.cell? ⟨tb, 4, none⟩ = some (.int .i64 x.n3) := cell_keep j4 hbd
      have k5 : wd.cell? ⟨tb, 5, none⟩ = some (.int .i64 x.n4) := cell_keep j5 hbd
      have k6 : wd.cell? ⟨tb, 6, none⟩ = some (.int .i64 x.n5) := cell_keep j6 hbd
      have k7 : wd.cell? ⟨tb, 7, none⟩ = some (.int .i64 x.n6) := cell_keep j7 hbd
      have k8 : wd.cell? ⟨tb, 8, none⟩ = some (.slice x.li.a x.li.n x.li.cap) := cell_keep j8 hbd
      have kv : Sem.run Try.prog (convert 27 9 (.slice a0 gn cap0)) wd = .ok (.string s1) wd := HCV.out wd hbr3
      have kvd : Sem.run Try.prog (convert 27 9 (.slice a0 gn cap0)) wd.drew = .ok (.string s1) wd.drew := HCV.out wd.drew hbr3.drew
      obtain ⟨⟨ga, gn2, gc, gv2⟩, rfl, hgn2, hgv2, hgi2, _⟩ := own_row8 hob HWF.out HNB.out
      obtain rfl : gn2 = (bodyM (fm x.kind) x).length + 12 := hgn2
      have d0 : Sem.run Try.prog (convert 27 9 (.slice ga ((bodyM (fm x.kind) x).length + 12) gc)) wd = .ok (.string s1) wd := HC2.out wd _ _ _ _ hgi2.1 hgv2
      have d1 : Sem.run Try.prog (convert 27 9 (.slice ga ((bodyM (fm x.kind) x).length + 12) gc)) wd.drew = .ok (.string s1) wd.drew := HC2.out wd.drew _ _ _ _ (hgi2.1 : Elems .u8 wd.drew ga _ gv2) hgv2
      have HBd := Lib.hid (HB6.out.trans (hbr3.mono HB6.out.size))
      clear hob hgi2 hgv2
      (try go_wp2_with fail)
      refine hK.out _ _ ?_ (fun hNew => ?_)
      · (first | exact True.intro | ((try dsimp only); (first | go_keep | (go_split_ands; refine ⟨?_, ?_, ?_, ?_, ?_, ?_, ?_, ?_, ?_, ?_⟩ <;> assumption))))
      clear hK K hHeld
      have hHeld := hNew
      clear hNew
      try simp only [Act.put, List.setIfInBounds_toArray, List.set_cons_zero, List.set_cons_succ]
      refine wpAnyH_ready (rs := [5]) (by kernel_rfl) (by simp) ?_
      refine AllReadyH.cons (o := ⟨some 36, _, _, _, _, _⟩) rfl (fun K hK => ?_) AllReadyH.nil
      go_simp
      refine hK.out _ _ ?_ (fun hNew => ?_)
      · (first | exact True.intro | ((try dsimp only); (first | go_keep | (go_split_ands; refine ⟨?_, ?_, ?_, ?_, ?_, ?_, ?_, ?_, ?_, ?_⟩ <;> assumption))))
      clear hK K hHeld
      have hHeld := hNew
      clear hNew
      try simp only [Act.put, List.setIfInBounds_toArray, List.set_cons_zero, List.set_cons_succ]
      refine wpAnyH_take (i := 8) (oi := ⟨some 39, _, _, _, _, _⟩) (v := ?_) rfl (by kernel_rfl) (by kernel_rfl) (by kernel_rfl) (fun _ _ _ h => h) (Or.inl ⟨by rfl, ?hy9⟩) hHeld ?rest9
      case hy9 => (intro W hSw; (try dsimp only at hSw); go_simp; (try with_reducible rfl))
      simp only [Act.put, List.setIfInBounds_toArray, List.set_cons_zero, List.set_cons_succ]
      refine wpAnyH_take (i := 9) (oi := ⟨some 40, _, _, _, _, _⟩) (v := ?_) rfl (by kernel_rfl) (by kernel_rfl) (by kernel_rfl) (fun _ _ _ h => h) (Or.inl ⟨by rfl, ?hy10⟩) hHeld ?rest10
      case hy10 => (intro W hSw; (try dsimp only at hSw); go_simp; (try with_reducible rfl))
      simp only [Act.put, List.setIfInBounds_toArray, List.set_cons_zero, List.set_cons_succ]
      refine wpAnyH_take (i := 10) (oi := ⟨some 2, _, _, _, _, _⟩) (v := ?_) rfl (by kernel_rfl) (by kernel_rfl) (by kernel_rfl) (fun _ _ _ h => h) (Or.inl ⟨by rfl, ?hy11⟩) hHeld ?rest11
      case hy11 => (intro W hSw; (try dsimp only at hSw); go_simp; (try with_reducible rfl))
      simp only [Act.put, List.setIfInBounds_toArray, List.set_cons_zero, List.set_cons_succ]
      refine wpAnyH_done (by kernel_rfl) ?_ _
      go_wp2_with fail
      go_ret
      exact ⟨ret_bool (by simp), HBd.out⟩
    · have he := hno hf
      subst he
      clear hyes hno
      go_upto_region 4 with fail
      have X1 : Box (w4.alloc (.cells #[.int .i64 0, .int .i64 0, .int .i64 0, .int .i64 0, .int .i64 0, .int .i64 0, .int .i64 0, .int .i64 0, .slice none 0 0] 24)) w4.heap.size 24 #[.int .i64 0, .int .i64 0, .int .i64 0, .int .i64 0, .int .i64 0, .int .i64 0, .int .i64 0, .int .i64 0, .slice none 0 0] := box_new _ _ _
      have hb45 : Below w4.heap.size w4 (w4.alloc (.cells #[.int .i64 0, .int .i64 0, .int .i64 0, .int .i64 0, .int .i64 0, .int .i64 0, .int .i64 0, .int .i64 0, .slice none 0 0] 24)) := (Below.refl _ w4).alloc (Nat.le_refl _) _
      have HB5 := Lib.hid (HB4.out.trans (hb45.mono HB4.out.size))
      rw [htb] at X1
      generalize (w4.alloc (.cells #[.int .i64 0, .int .i64 0, .int .i64 0, .int .i64 0, .int .i64 0, .int .i64 0, .int .i64 0, .int .i64 0, .slice none 0 0] 24)) = w5 at X1 HB5 ⊢
      have HX1 := Lib.hid X1
      clear X1 hb45 htb
      have P2 := dfault15 ⟨a0, gn, cap0, gv⟩ w5 (HQ.out.below HB5.out) (by show gn ≤ _; omega)
      simp only at P2
      generalize flt15 gv = fx at hf P2 ⊢
      have hf2 : ((fx : Int) != 0) = true := by simp; omega
      have hf3 : ((fx : Int) != (fx : Int)) = false := by simp
      clear hf
      go_wp2_with fail
      refine P2.mono ?_
      rintro e w6 ⟨rfl, hb6⟩
      have HB6 := Lib.hid (below_two HB5.out hb6)
      have X6 := Lib.hid (HX1.out.bel hb6)
      have hz : (⟨0, 0, 0, 0, 0, 0, 0, 0, ⟨none, 0, 0, []⟩⟩ : Ms15).In w6 := ⟨by decide, by decide, by decide, by decide, by decide, by decide, by decide, by decide, ⟨Elems.nil_ _ _ _, Nat.le_refl _, by decide, ⟨fun _ => rfl, fun x e _ => by cases e⟩⟩⟩
      have D1 := dsame15 ⟨0, 0, 0, 0, 0, 0, 0, 0, ⟨none, 0, 0, []⟩⟩ ⟨0, 0, 0, 0, 0, 0, 0, 0, ⟨none, 0, 0, []⟩⟩ w6 hz hz
      rw [sameM_refl] at D1
      clear P2 hb6 hz
      go_wp2_with (refine wpList_load_row rfl 24 _ rfl tb rfl 24 _ (0, 0) _ X6.out Try.underlying24 rfl (by kernel_rfl) ?_)
      refine D1.mono ?_
      rintro e w7 ⟨rfl, hb7⟩
      have HB7 := Lib.hid (below_two HB6.out hb7)
      clear D1 hb7
      go_wp2_with fail
      go_ret
      exact ⟨rfl, HB7.out⟩

/-! ### THE ROW's STEP: WRITTEN OUT: LEAVE IT -/
set_option maxRecDepth 100000 in
theorem lifted (os : Os) (started : os.Started) (H : Type) (enc : TypeId × Value → H) :
    ReturnsInHanded {} Try.checked os 4 .any (Rows.msgParsesSpec.pre6 enc Try.prog Try.f4 Rows.msgParsesRow.domain false) (Rows.msgParsesSpec.post enc Try.prog Try.f4 false true false false) := by
  refine returnsInHanded_of_change (C := Try.checked) own started (by kernel_rfl) Try.func4
    (ChangeSpec.witness6 (enc := enc) (C := Try.checked) false ⟨#[], #[.slice none 0 0], []⟩ 8 (by kernel_rfl) (by kernel_rfl) (by kernel_rfl) (by kernel_rfl)) ?_
  intro W base args ds gs before hval0 hW hcnd _
  have hval : ∀ (j : Nat) t v, Try.f4.params[j]? = some t → args[j]? = some v → Value.okWide Try.prog W .any base t v := hval0
  have hW' := hW
  obtain ⟨p, q, hA0, hV, rfl, hfz, hnd⟩ := hW
  have hA : DataW.TrodAll enc Try.prog W 0 (fun _ => true) true Try.f4.params.toList args.toList ds p := hA0
  rw [Try.params4] at hA hval
  obtain ⟨v0, vs0, d0, ds0, p0, q0, hargs, rfl, rfl, h0, r0⟩ := trodAll_cons hA
  obtain ⟨rfl, rfl, rfl⟩ := trodAll_nil r0
  obtain rfl : args = #[v0] := by cases args; simp_all
  obtain ⟨rfl, rfl⟩ := trodVars_none hV
  obtain ⟨a0, len0, cap0, rfl⟩ := okWide_slice Try.underlying27 (hval 0 27 v0 rfl rfl)
  have k0 := h0
  have lt0 : ∀ x ∈ p0, x.block < W.heap.size := by obtain ⟨m, hm⟩ := k0; exact DataW.trod_lt m _ _ _ hm
  obtain ⟨z0, w0⟩ : ∃ zs, IsRow .u8 W a0 len0 cap0 zs := by
    obtain ⟨fuel, hf⟩ := h0
    rcases open_ints Try.underlying27 Try.underlying5 (by kernel_rfl) hf with ⟨hcs, _⟩ | ⟨x, l, c, zs, hcs, _, hl, hm, hz, _, hcell, hwz⟩
    · simp [Value.cells] at hcs
      obtain ⟨rfl, rfl, rfl⟩ := hcs
      exact ⟨[], .inl ⟨rfl, rfl, rfl, rfl⟩⟩
    · simp [Value.cells] at hcs
      obtain ⟨rfl, rfl, rfl⟩ := hcs
      exact ⟨zs, .inr ⟨_, rfl, hl, hm, by simpa using hz, hcell, hwz⟩⟩
  clear hA0 hval0
  refine (walk a0 len0 cap0 z0 W w0).mono fun e W' ⟨he, bel⟩ => ?_
  subst he
  exact ⟨_, rfl, _, _, _, [], _, [], hW', trodAll_mk1 (shut_bool Try.underlying4 _), (trodAll_cons_mk (Below.trod laidOut (by kernel_rfl) (of_decide_eq_true (by kernel_rfl)) k0 bel lt0) trodAll_mk0), rfl, bel.frame _, fun h => by cases h⟩

theorem over : Rows.msgParsesRow.holds Try.pinned (OpenSpec.ofChange Rows.msgParsesSpec) :=
  OpenClaim.holds_of_wide 4 Try.f4 rfl rfl rfl rfl rfl rfl rfl ⟨rfl, rfl, rfl, rfl, rfl⟩ rfl rfl rfl rfl rfl (by kernel_rfl) Try.func4 (by kernel_rfl)
    (of_decide_eq_true (by kernel_rfl)) (by unfold Func.isWrapper; first | (rw [if_pos (by decide +kernel)]; kernel_rfl) | (rw [if_neg (by decide +kernel)]; exact ⟨rfl, rfl⟩))
    (fun os started H enc _ => lifted os started H enc)

/-- ████ THE STATEMENT ████ -/
theorem proved : Rows.MsgParsesSaid := over
#print axioms proved
end Go.Proofs.Ytobogkilkmnpmaa.msgParses
