/-
  The document's Reset: contract.
-/
import Derived.Test.YtkinbngikmcpeaaDLk16
namespace Go.Proofs.Ytkinbngikmcpeaa
open Go.RowKit Go.Maps
set_option linter.unusedVariables false

/-- the document's side ends so: the same lists, or other ones -/
def DEnds (w w' : World) (db base : Nat) (W Sp R : Nat) (st : Lk16) : Prop := DLk w' db base W Sp R st ∧ MovesD w w' db
theorem DLk.same {w w' : World} {db base W Sp R : Nat} {st : Lk16} (h : DLk w db base W Sp R st) (hb : Below w.heap.size w w') : DEnds w w' db base W Sp R st := by
  obtain ⟨vo, ve, xs, ys, h⟩ := h
  exact ⟨⟨vo, ve, xs, ys, h.bel hb⟩, MovesD.of_below hb (by have := h.lt; omega)⟩
set_option maxHeartbeats 1600000 in
set_option maxRecDepth 100000 in
theorem dreset16 {w : World} {db base : Nat} {W Sp R : Nat} {st : Lk16} (hd : DLk w db base W Sp R st) (ep : Int) :
    Calls Try.prog 20 #[.pointer (some ⟨db, 0, none⟩), .int .i64 ep] w fun e w' => e = .returned (.int .i64 (resetE st ep).1) ∧ DEnds w w' db base W Sp R (resetE st ep).2 := by
  have HD := Lib.hid hd
  obtain ⟨vo, ve, xs, ys, h⟩ := hd
  have c0 : w.cell? ⟨db, 0, none⟩ = some (.int .i64 W) := h.box.cell 0
  have c1 : w.cell? ⟨db, 1, none⟩ = some (.int .i64 Sp) := h.box.cell 1
  have c2 : w.cell? ⟨db, 2, none⟩ = some (.int .i64 R) := h.box.cell 2
  have c3 : w.cell? ⟨db, 3, none⟩ = some (.int .i64 st.ep) := h.box.cell 3
  have HL := Lib.hid h
  by_cases h1 : ep ≤ st.ep
  · have e1 : resetE st ep = (160, st) := by unfold resetE; rw [if_pos (.inl h1)]
    rw [e1]
    clear h e1
    go_enter Try.func20, Try.ntmps20
    go_wp2
    go_ret
    exact ⟨rfl, HD.out.same (Below.refl _ _)⟩
  · have h2 : decide (ep ≤ st.ep) = false := decide_eq_false h1
    by_cases h3 : 1099511627776 ≤ ep
    · have e1 : resetE st ep = (160, st) := by unfold resetE; rw [if_pos (.inr h3)]
      rw [e1]
      clear h e1 h1
      go_enter Try.func20, Try.ntmps20
      go_wp2
      go_ret
      exact ⟨rfl, HD.out.same (Below.refl _ _)⟩
    · have h4 : decide (1099511627776 ≤ ep) = false := decide_eq_false h3
      have e1 : resetE st ep = (0, new16 ep) := by unfold resetE; rw [if_neg (by omega)]
      rw [e1]
      have HE : Hid (0 ≤ ep ∧ ep < 1099511627776) := Lib.hid (by have := h.good.ep; omega)
      have hX := h.box
      clear h e1 h1 h3 HD
      go_enter Try.func20, Try.ntmps20
      go_upto_region 3 with (fail)
      refine wp_region_noPanic ?_
      refine wp_region_Z (S := (fun W_ => W_.cell? ⟨db, 0, none⟩ = some (.int .i64 W) ∧ W_.cell? ⟨db, 1, none⟩ = some (.int .i64 Sp) ∧ W_.cell? ⟨db, 2, none⟩ = some (.int .i64 R))) 16 (by kernel_rfl) ?_ (fun hHeld => ?_)
      · (first | go_keep | (go_split_ands; refine ⟨?_, ?_, ?_⟩ <;> assumption))
      refine wpAnyZ_take (i := 0) (oi := ⟨some 15, _, _, _, _, _⟩) (v := ?_) rfl (by kernel_rfl) (by kernel_rfl) (by kernel_rfl) (by kernel_rfl) (fun _ _ _ h => h) (Or.inl ⟨by rfl, ?hy1⟩) hHeld ?rest1
      case hy1 => (intro W hSw; (try dsimp only at hSw); go_simp; (try with_reducible rfl))
      simp only [Act.put, List.setIfInBounds_toArray, List.set_cons_zero, List.set_cons_succ]
      refine wpAnyZ_take (i := 1) (oi := ⟨some 16, _, _, _, _, _⟩) (v := ?_) rfl (by kernel_rfl) (by kernel_rfl) (by kernel_rfl) (by kernel_rfl) (fun _ _ _ h => h) (Or.inl ⟨by rfl, ?hy2⟩) hHeld ?rest2
      case hy2 => (intro W hSw; (try dsimp only at hSw); go_simp; (try with_reducible rfl))
      simp only [Act.put, List.setIfInBounds_toArray, List.set_cons_zero, List.set_cons_succ]
      refine wpAnyZ_take (i := 2) (oi := ⟨some 17, _, _, _, _, _⟩) (v := ?_) rfl (by kernel_rfl) (by kernel_rfl) (by kernel_rfl) (by kernel_rfl) (fun _ _ _ h => h) (Or.inl ⟨by rfl, ?hy3⟩) hHeld ?rest3
      case hy3 => (intro W hSw; (try dsimp only at hSw); go_simp; (try with_reducible rfl))
      simp only [Act.put, List.setIfInBounds_toArray, List.set_cons_zero, List.set_cons_succ]
      refine wpAnyZ_take (i := 3) (oi := ⟨some 18, _, _, _, _, _⟩) (v := ?_) rfl (by kernel_rfl) (by kernel_rfl) (by kernel_rfl) (by kernel_rfl) (fun _ _ _ h => h) (Or.inl ⟨by rfl, ?hy4⟩) hHeld ?rest4
      case hy4 => (intro W hSw; (try dsimp only at hSw); go_simp; (try with_reducible rfl))
      simp only [Act.put, List.setIfInBounds_toArray, List.set_cons_zero, List.set_cons_succ]
      refine wpAnyZ_take (i := 4) (oi := ⟨some 19, _, _, _, _, _⟩) (v := ?_) rfl (by kernel_rfl) (by kernel_rfl) (by kernel_rfl) (by kernel_rfl) (fun _ _ _ h => h) (Or.inl ⟨by rfl, ?hy5⟩) hHeld ?rest5
      case hy5 => (intro W hSw; (try dsimp only at hSw); go_simp; (try with_reducible rfl))
      simp only [Act.put, List.setIfInBounds_toArray, List.set_cons_zero, List.set_cons_succ]
      refine wpAnyZ_take (i := 5) (oi := ⟨some 20, _, _, _, _, _⟩) (v := ?_) rfl (by kernel_rfl) (by kernel_rfl) (by kernel_rfl) (by kernel_rfl) (fun _ _ _ h => h) (Or.inl ⟨by rfl, ?hy6⟩) hHeld ?rest6
      case hy6 => (intro W hSw; (try dsimp only at hSw); go_simp; (try with_reducible rfl))
      simp only [Act.put, List.setIfInBounds_toArray, List.set_cons_zero, List.set_cons_succ]
      refine wpAnyZ_take (i := 6) (oi := ⟨some 21, _, _, _, _, _⟩) (v := ?_) rfl (by kernel_rfl) (by kernel_rfl) (by kernel_rfl) (by kernel_rfl) (fun _ _ _ h => h) (Or.inl ⟨by rfl, ?hy7⟩) hHeld ?rest7
      case hy7 => (intro W hSw; (try dsimp only at hSw); go_simp; (try with_reducible rfl))
      simp only [Act.put, List.setIfInBounds_toArray, List.set_cons_zero, List.set_cons_succ]
      refine wpAnyZ_take (i := 7) (oi := ⟨some 22, _, _, _, _, _⟩) (v := ?_) rfl (by kernel_rfl) (by kernel_rfl) (by kernel_rfl) (by kernel_rfl) (fun _ _ _ h => h) (Or.inl ⟨by rfl, ?hy8⟩) hHeld ?rest8
      case hy8 => (intro W hSw; (try dsimp only at hSw); go_simp; (try with_reducible rfl))
      simp only [Act.put, List.setIfInBounds_toArray, List.set_cons_zero, List.set_cons_succ]
      refine wpAnyZ_take (i := 8) (oi := ⟨some 23, _, _, _, _, _⟩) (v := ?_) rfl (by kernel_rfl) (by kernel_rfl) (by kernel_rfl) (by kernel_rfl) (fun _ _ _ h => h) (Or.inl ⟨by rfl, ?hy9⟩) hHeld ?rest9
      case hy9 => (intro W hSw; (try dsimp only at hSw); go_simp; (try with_reducible rfl))
      simp only [Act.put, List.setIfInBounds_toArray, List.set_cons_zero, List.set_cons_succ]
      refine wpAnyZ_take (i := 9) (oi := ⟨some 24, _, _, _, _, _⟩) (v := ?_) rfl (by kernel_rfl) (by kernel_rfl) (by kernel_rfl) (by kernel_rfl) (fun _ _ _ h => h) (Or.inl ⟨by rfl, ?hy10⟩) hHeld ?rest10
      case hy10 => (intro W hSw; (try dsimp only at hSw); go_simp; (try with_reducible rfl))
      simp only [Act.put, List.setIfInBounds_toArray, List.set_cons_zero, List.set_cons_succ]
      refine wpAnyZ_take (i := 10) (oi := ⟨some 25, _, _, _, _, _⟩) (v := ?_) rfl (by kernel_rfl) (by kernel_rfl) (by kernel_rfl) (by kernel_rfl) (fun _ _ _ h => h) (Or.inl ⟨by rfl, ?hy11⟩) hHeld ?rest11
      case hy11 => (intro W hSw; (try dsimp only at hSw); go_simp; (try with_reducible rfl))
      simp only [Act.put, List.setIfInBounds_toArray, List.set_cons_zero, List.set_cons_succ]
      refine wpAnyZ_take (i := 11) (oi := ⟨some 26, _, _, _, _, _⟩) (v := ?_) rfl (by kernel_rfl) (by kernel_rfl) (by kernel_rfl) (by kernel_rfl) (fun _ _ _ h => h) (Or.inl ⟨by rfl, ?hy12⟩) hHeld ?rest12
      case hy12 => (intro W hSw; (try dsimp only at hSw); go_simp; (try with_reducible rfl))
      simp only [Act.put, List.setIfInBounds_toArray, List.set_cons_zero, List.set_cons_succ]
      refine wpAnyZ_take (i := 12) (oi := ⟨some 27, _, _, _, _, _⟩) (v := ?_) rfl (by kernel_rfl) (by kernel_rfl) (by kernel_rfl) (by kernel_rfl) (fun _ _ _ h => h) (Or.inl ⟨by rfl, ?hy13⟩) hHeld ?rest13
      case hy13 => (intro W hSw; (try dsimp only at hSw); go_simp; (try with_reducible rfl))
      simp only [Act.put, List.setIfInBounds_toArray, List.set_cons_zero, List.set_cons_succ]
      refine wpAnyZ_take (i := 13) (oi := ⟨some 28, _, _, _, _, _⟩) (v := ?_) rfl (by kernel_rfl) (by kernel_rfl) (by kernel_rfl) (by kernel_rfl) (fun _ _ _ h => h) (Or.inl ⟨by rfl, ?hy14⟩) hHeld ?rest14
      case hy14 => (intro W hSw; (try dsimp only at hSw); go_simp; (try with_reducible rfl))
      simp only [Act.put, List.setIfInBounds_toArray, List.set_cons_zero, List.set_cons_succ]
      refine wpAnyZ_take (i := 14) (oi := ⟨some 29, _, _, _, _, _⟩) (v := ?_) rfl (by kernel_rfl) (by kernel_rfl) (by kernel_rfl) (by kernel_rfl) (fun _ _ _ h => h) (Or.inl ⟨by rfl, ?hy15⟩) hHeld ?rest15
      case hy15 => (intro W hSw; (try dsimp only at hSw); go_simp; (try with_reducible rfl))
      simp only [Act.put, List.setIfInBounds_toArray, List.set_cons_zero, List.set_cons_succ]
      refine wpAnyZ_take (i := 15) (oi := ⟨some 30, _, _, _, _, _⟩) (v := ?_) rfl (by kernel_rfl) (by kernel_rfl) (by kernel_rfl) (by kernel_rfl) (fun _ _ _ h => h) (Or.inl ⟨by rfl, ?hy16⟩) hHeld ?rest16
      case hy16 => (intro W hSw; (try dsimp only at hSw); go_simp; (try with_reducible rfl))
      simp only [Act.put, List.setIfInBounds_toArray, List.set_cons_zero, List.set_cons_succ]
      refine wpAnyZ_ready (rs := [16]) (by kernel_rfl) (by simp) ?_
      refine AllReadyZ.last (o := ⟨none, _, _, _, _, _⟩) rfl (fun K hK => ?_) AllReadyZ.nil
      refine wp_store_row 35 _ _ rfl db (dCells W Sp R (new16 ep) (.slice none 0 0) (.slice none 0 0)) rfl rfl 35 _ hX.drew (by kernel_rfl) rfl (by simp [dCells, new16, Value.oneCell']) ?_
      refine hK.out _ _ ?_
      clear hK K hHeld
      try simp only [Act.put]
      refine wpAnyZ_done (by kernel_rfl) ?_ _
      refine NoPanic.normal ?_
      have HR : Hid (DEnds w _ db base W Sp R (new16 ep)) := Lib.hid ⟨⟨.slice none 0 0, .slice none 0 0, [], [], Box.setRow hX.drew, listAt_nil _ _ _ _ _, rfl, listAt_nil _ _ _ _ _, rfl, by simp, by simp, good_new HL.out.good.pm HE.out, HL.out.lt.1, by have := HL.out.lt.2; simpa using this⟩, MovesD.of_row (row := some db) ⟨rfl, rfl, rfl, by simp [World.setRow], fun i _ hi => setRow_other w.drew db i _ (fun e => hi (by simp [e]))⟩ (by have := HL.out.lt; omega) (fun b e => by cases e; exact ⟨Nat.le_refl _, _, HL.out.boxC, .inl rfl⟩)⟩
      clear hX
      go_wp2
      go_ret
      exact ⟨rfl, HR.out⟩

end Go.Proofs.Ytkinbngikmcpeaa
