/-
  The law's awake answers true.
-/
import Derived.Test.YtobogkilkmnpmaaDBytes15
import Derived.Test.YtobogkilkmnpmaaDFault15
import Derived.Test.YtobogkilkmnpmaaDSame15
namespace Go.Proofs.Ytobogkilkmnpmaa
open Go.RowKit Go.Maps
set_option linter.unusedVariables false
set_option linter.unusedSimpArgs false

theorem awake_right : rightM ⟨5, 3, 0, 0, 0, 1, 2, 0, ⟨none, 0, 0, []⟩⟩ = true := by decide
theorem awake_body : bodyM (fm 5) ⟨5, 3, 0, 0, 0, 1, 2, 0, ⟨none, 0, 0, []⟩⟩ = [0, 0, 0, 0, 3, 0, 0, 0, 0, 1, 0, 0, 0, 0, 2] := by decide

set_option maxHeartbeats 3200000 in
set_option maxRecDepth 100000 in
theorem awake15 (w : World) : Calls Try.prog 7 #[] w fun e w' => e = .returned (.bool true) ∧ Below w.heap.size w w' := by
  have hxi : (⟨5, 3, 0, 0, 0, 1, 2, 0, ⟨none, 0, 0, []⟩⟩ : Ms15).In w := ⟨by decide, by decide, by decide, by decide, by decide, by decide, by decide, by decide, ⟨Elems.nil_ _ _ _, Nat.le_refl _, by decide, ⟨fun _ => rfl, fun x e _ => by cases e⟩⟩⟩
  have B1 := bytes15_yes _ w hxi awake_right
  have eb : bodyM (fm 5) ⟨5, 3, 0, 0, 0, 1, 2, 0, ⟨none, 0, 0, []⟩⟩ = [0, 0, 0, 0, 3, 0, 0, 0, 0, 1, 0, 0, 0, 0, 2] := awake_body
  simp only [eb] at B1
  clear hxi eb
  have hcu : ∀ (a : Option Addr) (n c n' c' : Nat), True := fun _ _ _ _ _ => trivial
  go_enter Try.func7, Try.ntmps7
  go_wp2_with fail
  refine B1.mono ?_
  rintro e w2 ⟨⟨⟨qa, qn, qc, qv⟩, rfl, hqi, hqv⟩, hb2⟩
  simp only at hqv hqi
  have hqn : qn = 27 := by have := hqi.1.1; simp only at this; rw [hqv, frm_len] at this; simpa using this.symm
  subst hqn
  obtain ⟨s1, hs1⟩ : ∃ s, strOfNums (frm 5 [0, 0, 0, 0, 3, 0, 0, 0, 0, 1, 0, 0, 0, 0, 2]) = s := ⟨_, rfl⟩
  have HCV : Hid (∀ W, Below w2.heap.size w2 W → Sem.run Try.prog (convert 27 9 (.slice qa 27 qc)) W = .ok (.string s1) W) := Lib.hid (fun W hW => by rw [← hs1, ← hqv]; exact conv_u8 (hqi.1.below hW))
  have HC2 : Hid (∀ (W : World) (a : Option Addr) (c : Nat) (v : List Int), Elems .u8 W a 27 v → v = frm 5 [0, 0, 0, 0, 3, 0, 0, 0, 0, 1, 0, 0, 0, 0, 2] → Sem.run Try.prog (convert 27 9 (.slice a 27 c)) W = .ok (.string s1) W) := Lib.hid (fun W a c v hE hv => by rw [← hs1, ← hv]; exact conv_u8 hE)
  have HWF : Hid (∀ y ∈ frm 5 [0, 0, 0, 0, 3, 0, 0, 0, 0, 1, 0, 0, 0, 0, 2], (Lit.int .u8 y).wf = true) := Lib.hid (frm_wf rfl (by decide) (by decide))
  have HB2 := Lib.hid hb2
  have HP : Hid (∀ (W : World) (b : Nat), Elems .u8 W (some ⟨b, 0, none⟩) 15 [0, 0, 0, 0, 3, 0, 0, 0, 0, 1, 0, 0, 0, 0, 2] → Calls Try.prog 18 #[.int .u8 5, .slice (some ⟨b, 0, none⟩) 15 15] W fun e w' => OwnB W.heap.size 27 (frm 5 [0, 0, 0, 0, 3, 0, 0, 0, 0, 1, 0, 0, 0, 0, 2]) e w' ∧ Below W.heap.size W w') := Lib.hid (fun W b hE => dpack14 5 rfl ⟨some ⟨b, 0, none⟩, 15, 15, [0, 0, 0, 0, 3, 0, 0, 0, 0, 1, 0, 0, 0, 0, 2]⟩ W (rw_in hE (by omega)) (by show 15 ≤ _; omega))
  have hEl : Elems .u8 (w2.alloc (.cells #[.int .u8 0, .int .u8 0, .int .u8 0, .int .u8 0, .int .u8 3, .int .u8 0, .int .u8 0, .int .u8 0, .int .u8 0, .int .u8 1, .int .u8 0, .int .u8 0, .int .u8 0, .int .u8 0, .int .u8 2] 5)) (some ⟨w2.heap.size, 0, none⟩) 15 [0, 0, 0, 0, 3, 0, 0, 0, 0, 1, 0, 0, 0, 0, 2] := elems_litK [0, 0, 0, 0, 3, 0, 0, 0, 0, 1, 0, 0, 0, 0, 2] rfl rfl (by decide) (by decide) rfl
  have HEl := Lib.hid hEl
  have c0 : Sem.run Try.prog (convert 27 9 (.slice qa 27 qc)) w2 = .ok (.string s1) w2 := HCV.out w2 (Below.refl _ _)
  have c1 : Sem.run Try.prog (convert 27 9 (.slice qa 27 qc)) w2.drew = .ok (.string s1) w2.drew := HCV.out w2.drew (Below.refl _ w2).drew
  have c2 : Sem.run Try.prog (convert 27 9 (.slice qa 27 qc)) (w2.alloc (.cells #[.int .u8 0, .int .u8 0, .int .u8 0, .int .u8 0, .int .u8 3, .int .u8 0, .int .u8 0, .int .u8 0, .int .u8 0, .int .u8 1, .int .u8 0, .int .u8 0, .int .u8 0, .int .u8 0, .int .u8 2] 5)).drew = .ok (.string s1) (w2.alloc (.cells #[.int .u8 0, .int .u8 0, .int .u8 0, .int .u8 0, .int .u8 3, .int .u8 0, .int .u8 0, .int .u8 0, .int .u8 0, .int .u8 1, .int .u8 0, .int .u8 0, .int .u8 0, .int .u8 0, .int .u8 2] 5)).drew := HCV.out _ ((Below.refl _ w2).alloc (Nat.le_refl _) _).drew
  have hbr : Below w2.heap.size w2 w2.drew := (Below.refl _ w2).drew
  clear B1 hqi hqv hb2 hs1 hcu hEl
  go_upto_region 2 with fail
  refine wp_region_held_drew (S := (fun V => Sem.run Try.prog (convert 27 9 (.slice qa 27 qc)) V = .ok (.string s1) V)) (by kernel_rfl) ?_ (fun hHeld => ?_)
  · (first | assumption | go_keep)
  refine wpAnyH_take (i := 0) (oi := ⟨some 8, _, _, _, _, _⟩) (v := ?_) rfl (by kernel_rfl) (by kernel_rfl) (by kernel_rfl) (fun _ _ _ h => h) (Or.inl ⟨by rfl, ?hy1⟩) hHeld ?rest1
  case hy1 => (intro W hSw; (try dsimp only at hSw); go_simp; (try with_reducible rfl))
  simp only [Act.put, List.setIfInBounds_toArray, List.set_cons_zero, List.set_cons_succ]
  refine wpAnyH_take (i := 1) (oi := ⟨some 9, _, _, _, _, _⟩) (v := ?_) rfl (by kernel_rfl) (by kernel_rfl) (by kernel_rfl) (fun _ _ _ h => h) (Or.inl ⟨by rfl, ?hy2⟩) hHeld ?rest2
  case hy2 => (intro W hSw; (try dsimp only at hSw); go_simp; (try with_reducible rfl))
  simp only [Act.put, List.setIfInBounds_toArray, List.set_cons_zero, List.set_cons_succ]
  refine wpAnyH_take (i := 2) (oi := ⟨some 10, _, _, _, _, _⟩) (v := ?_) rfl (by kernel_rfl) (by kernel_rfl) (by kernel_rfl) (fun _ _ _ h => h) (Or.inl ⟨by rfl, ?hy3⟩) hHeld ?rest3
  case hy3 => (intro W hSw; (try dsimp only at hSw); go_simp; (try with_reducible rfl))
  simp only [Act.put, List.setIfInBounds_toArray, List.set_cons_zero, List.set_cons_succ]
  refine wpAnyH_take (i := 3) (oi := ⟨some 11, _, _, _, _, _⟩) (v := ?_) rfl (by kernel_rfl) (by kernel_rfl) (by kernel_rfl) (fun _ _ _ h => h) (Or.inl ⟨by rfl, ?hy4⟩) hHeld ?rest4
  case hy4 => (intro W hSw; (try dsimp only at hSw); go_simp; (try with_reducible rfl))
  simp only [Act.put, List.setIfInBounds_toArray, List.set_cons_zero, List.set_cons_succ]
  refine wpAnyH_take (i := 4) (oi := ⟨some 12, _, _, _, _, _⟩) (v := ?_) rfl (by kernel_rfl) (by kernel_rfl) (by kernel_rfl) (fun _ _ _ h => h) (Or.inl ⟨by rfl, ?hy5⟩) hHeld ?rest5
  case hy5 => (intro W hSw; (try dsimp only at hSw); go_simp; (try with_reducible rfl))
  simp only [Act.put, List.setIfInBounds_toArray, List.set_cons_zero, List.set_cons_succ]
  refine wpAnyH_ready (rs := [5]) (by kernel_rfl) (by simp) ?_
  refine AllReadyH.cons (o := ⟨some 13, _, _, _, _, _⟩) rfl (fun K hK => ?_) AllReadyH.nil
  go_simp
  refine hK.out _ _ ?_ (fun hNew => ?_)
  · (first | exact True.intro | ((try dsimp only); (first | assumption | go_keep)))
  clear hK K hHeld
  have hHeld := hNew
  clear hNew
  try simp only [Act.put, List.setIfInBounds_toArray, List.set_cons_zero, List.set_cons_succ]
  refine wpAnyH_ready (rs := [6]) (by kernel_rfl) (by simp) ?_
  refine AllReadyH.cons (o := ⟨some 14, _, _, _, _, _⟩) rfl (fun K hK => ?_) AllReadyH.nil
  go_simp
  go_at_call 18
  refine (HP.out (w2.alloc (.cells #[.int .u8 0, .int .u8 0, .int .u8 0, .int .u8 0, .int .u8 3, .int .u8 0, .int .u8 0, .int .u8 0, .int .u8 0, .int .u8 1, .int .u8 0, .int .u8 0, .int .u8 0, .int .u8 0, .int .u8 2] 5)).drew w2.heap.size HEl.out).mono ?_
  rintro e wb ⟨⟨v, rfl, hob⟩, hbb⟩
  have hw2b : Below w2.heap.size w2 wb := (((Below.refl _ w2).alloc (Nat.le_refl _) _).drew).trans (hbb.mono (by simp))
  obtain ⟨⟨ga, gn, gc, gv⟩, rfl, hgn, hgv, hgi, _⟩ := own_row8 hob HWF.out (by decide)
  obtain rfl : gn = 27 := hgn
  have HBb := Lib.hid (HB2.out.trans (hw2b.mono HB2.out.size))
  have b0 : Sem.run Try.prog (convert 27 9 (.slice qa 27 qc)) wb = .ok (.string s1) wb := HCV.out wb hw2b
  have b1 : Sem.run Try.prog (convert 27 9 (.slice qa 27 qc)) wb.drew = .ok (.string s1) wb.drew := HCV.out wb.drew hw2b.drew
  have d0 : Sem.run Try.prog (convert 27 9 (.slice ga 27 gc)) wb = .ok (.string s1) wb := HC2.out wb _ _ _ hgi.1 hgv
  have d1 : Sem.run Try.prog (convert 27 9 (.slice ga 27 gc)) wb.drew = .ok (.string s1) wb.drew := HC2.out wb.drew _ _ _ (show Elems .u8 wb.drew ga 27 gv from hgi.1) hgv
  clear hob hgi hgv hbb hw2b
  (try go_wp2_with fail)
  refine hK.out _ _ ?_ (fun hNew => ?_)
  · (first | exact True.intro | ((try dsimp only); (first | assumption | go_keep)))
  clear hK K hHeld
  have hHeld := hNew
  clear hNew
  try simp only [Act.put, List.setIfInBounds_toArray, List.set_cons_zero, List.set_cons_succ]
  refine wpAnyH_ready (rs := [7]) (by kernel_rfl) (by simp) ?_
  refine AllReadyH.cons (o := ⟨some 15, _, _, _, _, _⟩) rfl (fun K hK => ?_) AllReadyH.nil
  go_simp
  refine hK.out _ _ ?_ (fun hNew => ?_)
  · (first | exact True.intro | ((try dsimp only); (first | assumption | go_keep)))
  clear hK K hHeld
  have hHeld := hNew
  clear hNew
  try simp only [Act.put, List.setIfInBounds_toArray, List.set_cons_zero, List.set_cons_succ]
  refine wpAnyH_take (i := 8) (oi := ⟨some 16, _, _, _, _, _⟩) (v := ?_) rfl (by kernel_rfl) (by kernel_rfl) (by kernel_rfl) (fun _ _ _ h => h) (Or.inl ⟨by rfl, ?hy9⟩) hHeld ?rest9
  case hy9 => (intro W hSw; (try dsimp only at hSw); go_simp; (try with_reducible rfl))
  simp only [Act.put, List.setIfInBounds_toArray, List.set_cons_zero, List.set_cons_succ]
  refine wpAnyH_take (i := 9) (oi := ⟨some 17, _, _, _, _, _⟩) (v := ?_) rfl (by kernel_rfl) (by kernel_rfl) (by kernel_rfl) (fun _ _ _ h => h) (Or.inl ⟨by rfl, ?hy10⟩) hHeld ?rest10
  case hy10 => (intro W hSw; (try dsimp only at hSw); go_simp; (try with_reducible rfl))
  simp only [Act.put, List.setIfInBounds_toArray, List.set_cons_zero, List.set_cons_succ]
  refine wpAnyH_take (i := 10) (oi := ⟨some 0, _, _, _, _, _⟩) (v := ?_) rfl (by kernel_rfl) (by kernel_rfl) (by kernel_rfl) (fun _ _ _ h => h) (Or.inl ⟨by rfl, ?hy11⟩) hHeld ?rest11
  case hy11 => (intro W hSw; (try dsimp only at hSw); go_simp; (try with_reducible rfl))
  simp only [Act.put, List.setIfInBounds_toArray, List.set_cons_zero, List.set_cons_succ]
  refine wpAnyH_done (by kernel_rfl) ?_ _
  go_wp2_with fail
  go_ret
  exact ⟨ret_bool (by simp), HBb.out⟩

end Go.Proofs.Ytobogkilkmnpmaa
