import Derived.Test.YtoeihigdndkjeaaGreatDoorP20
import Derived.Test.YtoeihigdndkjeaaGreatDoorP38
/-
  New: the copy's rows lie in new blocks.
-/
namespace Go.Proofs.YtoeihigdndkjeaaGreatDoor
open Go.RowKit Go.Shelf
set_option linter.unusedVariables false
attribute [local go_sem] Oper.semAt_some

set_option maxHeartbeats 16000000 in
set_option maxRecDepth 100000 in
theorem newF (s : Sz) (ok : s.Ok) (W : Wt7) (w : World) (hin : W.In w) (h6 : W.l = s.l ∧ W.w = s.w ∧ W.h = s.h ∧ W.i = s.i ∧ W.v = s.v ∧ W.p = s.p) (hw : wtB s W = true) :
    Calls Tryz.prog 18 #[.agg W.cells] w fun e w' => (∃ m V, e = .returned (.tuple #[.pointer (some ⟨m, 0, none⟩), .int .i64 0]) ∧ w.heap.size ≤ m ∧ ModAt w' m s V ∧ V.nums s = W.nums s ∧ WFresh w.heap.size V) ∧ Below w.heap.size w w' := by
  have bd := ok.bd
  have hwh : wholeB W = true := by rw [wholeB_ok ok h6]; exact hw
  obtain ⟨⟨-, -, e3⟩, ⟨-, -, d3⟩, t3, hbn, hbks⟩ := wtB_yes hw
  have hvw : s.v * s.w ≤ 65536 := Nat.le_trans (Nat.mul_le_mul bd.2.2.2.2.1.2 bd.2.2.1.2) (by decide)
  have HC : ∀ V T, Below w.heap.size w V → Calls Tryz.prog 41 #[.slice (some ⟨V.heap.size, 0, none⟩) 1 1] (V.alloc (.cells W.cells T)) fun e w' => e = .returned (.bool true) ∧ Below V.heap.size V w' := fun V T hV => by
    have h := code_whole V.heap.size 1 1 [W] _ (wts_one (T := T) W (hin.bel hV))
    simp only [List.all_cons, List.all_nil, hwh, Bool.and_true] at h
    exact h.mono fun e w' ⟨h1, h2⟩ => ⟨h1, ((Below.refl _ _).alloc (Nat.le_refl _) _).trans (h2.mono (by simp))⟩
  have OK := Lib.hid ok
  have HIN := Lib.hid hin
  have H6 := Lib.hid h6
  have HW := Lib.hid hw
  have HBN := Lib.hid hbn
  have HBKS := Lib.hid hbks
  have sE : W.e.n ≤ 65536 := by rw [e3]; exact hvw
  have sH : W.hd.n ≤ 65536 := by rw [d3]; exact hvw
  have sT : W.t.n ≤ 65536 := by rw [t3]; omega
  have hl16 : s.l ≤ 16 := bd.1.2
  have hmk := run_make_blocks W.bn (by rw [HBN.out]; exact hl16)
  clear hin h6 hw hwh e3 d3 t3 hbn hbks bd hvw ok
  unfold Wt7.cells at HC ⊢
  go_enter Tryz.func18, Tryz.ntmps18
  go_upto_region 1 with (fail)
  generalize hwa : w.alloc _ = wa
  have hB : Below w.heap.size w wa := by rw [← hwa]; exact (Below.refl _ _).alloc (Nat.le_refl _) _
  have XW : Box wa w.heap.size 50 W.cells := by rw [← hwa]; exact box_new _ _ _
  clear hwa
  have T1 := fun T => HC wa T hB
  have HXW := Lib.hid XW
  unfold Wt7.cells at XW
  go_wp2_with (refine wpList_load_row rfl 50 _ rfl w.heap.size rfl 50 _ (0, 0) _ XW Tryz.underlying50 rfl (by kernel_rfl) ?_)
  refine (T1 _).mono ?_
  rintro e w1 ⟨rfl, hb⟩
  have XW1 := Lib.hid (HXW.out.bel hb)
  have HB1 := Lib.hid (below_two hB hb)
  have HIN1 := Lib.hid (HIN.out.bel HB1.out)
  clear T1 HC hb XW HXW hB HIN
  go_upto_region 3 with (fail)
  obtain ⟨wa, hwa⟩ : ∃ wa, w1 = wa := ⟨_, rfl⟩
  subst hwa
  have hE0 := HIN1.out.1
  have hH0 := HIN1.out.2.1
  have hT0 := HIN1.out.2.2.1
  have cE : ∀ V, Below w1.heap.size w1 V → Calls Tryz.prog 42 #[.agg #[.int .i64 W.e.r, .int .i64 W.e.c, .slice W.e.a W.e.n W.e.cap]] V fun e w' => CopyG W.e V e w' := fun V hV => matrix8 W.e V (hE0.bel hV) sE
  have cH : ∀ V, Below w1.heap.size w1 V → Calls Tryz.prog 42 #[.agg #[.int .i64 W.hd.r, .int .i64 W.hd.c, .slice W.hd.a W.hd.n W.hd.cap]] V fun e w' => CopyG W.hd V e w' := fun V hV => matrix8 W.hd V (hH0.bel hV) sH
  have cT : ∀ V, Below w1.heap.size w1 V → Calls Tryz.prog 38 #[.slice W.t.a W.t.n W.t.cap] V fun e w' => CopyR .i8 W.t V e w' := fun V hV => clone8 W.t V (hT0.below hV) sT
  clear hE0 hH0 hT0
  have hwlt : w.heap.size < w1.heap.size := XW1.out.lt
  go_cut [4] from 11 (fun v wx => NewRel W w1.heap.size w1 v wx)
  case first =>
    have hX : Hid (Box w1.drew w.heap.size 50 W.cells) := Lib.hid XW1.out
    have hD : Hid (Below w1.heap.size w1 w1.drew) := Lib.hid ((Below.refl _ _).drew)
    refine wp_region_held_drew (S := fun w' => WtCells w' w.heap.size W) (by kernel_rfl) ?_ (fun hHeld => ?_)
    · ((try dsimp only); exact box_wt hX.out)
    generalize w1.drew = wb at hX hD hHeld ⊢
    refine wpAnyH_take (i := 0) (oi := ⟨some 11, _, _, _, _, _⟩) (v := ?_) rfl (by kernel_rfl) (by kernel_rfl) (by kernel_rfl) (fun _ _ _ h => h) (Or.inl ⟨by rfl, ?hy1⟩) hHeld ?rest1
    case hy1 => (intro W1 hSw; (try dsimp only at hSw); go_simp; (try with_reducible rfl))
    simp only [Act.put, List.setIfInBounds_toArray, List.set_cons_zero, List.set_cons_succ]
    refine wpAnyH_take (i := 1) (oi := ⟨some 12, _, _, _, _, _⟩) (v := ?_) rfl (by kernel_rfl) (by kernel_rfl) (by kernel_rfl) (fun _ _ _ h => h) (Or.inl ⟨by rfl, ?hy2⟩) hHeld ?rest2
    case hy2 => (intro W1 hSw; (try dsimp only at hSw); go_simp; (try with_reducible rfl))
    simp only [Act.put, List.setIfInBounds_toArray, List.set_cons_zero, List.set_cons_succ]
    refine wpAnyH_take (i := 2) (oi := ⟨some 13, _, _, _, _, _⟩) (v := ?_) rfl (by kernel_rfl) (by kernel_rfl) (by kernel_rfl) (fun _ _ _ h => h) (Or.inl ⟨by rfl, ?hy3⟩) hHeld ?rest3
    case hy3 => (intro W1 hSw; (try dsimp only at hSw); go_simp; (try with_reducible rfl))
    simp only [Act.put, List.setIfInBounds_toArray, List.set_cons_zero, List.set_cons_succ]
    refine wpAnyH_take (i := 3) (oi := ⟨some 14, _, _, _, _, _⟩) (v := ?_) rfl (by kernel_rfl) (by kernel_rfl) (by kernel_rfl) (fun _ _ _ h => h) (Or.inl ⟨by rfl, ?hy4⟩) hHeld ?rest4
    case hy4 => (intro W1 hSw; (try dsimp only at hSw); go_simp; (try with_reducible rfl))
    simp only [Act.put, List.setIfInBounds_toArray, List.set_cons_zero, List.set_cons_succ]
    refine wpAnyH_take (i := 5) (oi := ⟨some 16, _, _, _, _, _⟩) (v := ?_) rfl (by kernel_rfl) (by kernel_rfl) (by kernel_rfl) (fun _ _ _ h => h) (Or.inl ⟨by rfl, ?hy5⟩) hHeld ?rest5
    case hy5 => (intro W1 hSw; (try dsimp only at hSw); go_simp; (try with_reducible rfl))
    simp only [Act.put, List.setIfInBounds_toArray, List.set_cons_zero, List.set_cons_succ]
    refine wpAnyH_take (i := 6) (oi := ⟨some 17, _, _, _, _, _⟩) (v := ?_) rfl (by kernel_rfl) (by kernel_rfl) (by kernel_rfl) (fun _ _ _ h => h) (Or.inl ⟨by rfl, ?hy6⟩) hHeld ?rest6
    case hy6 => (intro W1 hSw; (try dsimp only at hSw); go_simp; (try with_reducible rfl))
    simp only [Act.put, List.setIfInBounds_toArray, List.set_cons_zero, List.set_cons_succ]
    refine wpAnyH_take (i := 7) (oi := ⟨some 18, _, _, _, _, _⟩) (v := ?_) rfl (by kernel_rfl) (by kernel_rfl) (by kernel_rfl) (fun _ _ _ h => h) (Or.inl ⟨by rfl, ?hy7⟩) hHeld ?rest7
    case hy7 => (intro W1 hSw; (try dsimp only at hSw); go_simp; (try with_reducible rfl))
    simp only [Act.put, List.setIfInBounds_toArray, List.set_cons_zero, List.set_cons_succ]
    refine wpAnyH_take (i := 9) (oi := ⟨some 20, _, _, _, _, _⟩) (v := ?_) rfl (by kernel_rfl) (by kernel_rfl) (by kernel_rfl) (fun _ _ _ h => h) (Or.inl ⟨by rfl, ?hy8⟩) hHeld ?rest8
    case hy8 => (intro W1 hSw; (try dsimp only at hSw); go_simp; (try with_reducible rfl))
    simp only [Act.put, List.setIfInBounds_toArray, List.set_cons_zero, List.set_cons_succ]
    refine wpAnyH_take (i := 10) (oi := ⟨some 21, _, _, _, _, _⟩) (v := ?_) rfl (by kernel_rfl) (by kernel_rfl) (by kernel_rfl) (fun _ _ _ h => h) (Or.inl ⟨by rfl, ?hy9⟩) hHeld ?rest9
    case hy9 => (intro W1 hSw; (try dsimp only at hSw); go_simp; (try with_reducible rfl))
    simp only [Act.put, List.setIfInBounds_toArray, List.set_cons_zero, List.set_cons_succ]
    refine wpAnyH_take (i := 12) (oi := ⟨some 23, _, _, _, _, _⟩) (v := ?_) rfl (by kernel_rfl) (by kernel_rfl) (by kernel_rfl) (fun _ _ _ h => h) (Or.inl ⟨by rfl, ?hy10⟩) hHeld ?rest10
    case hy10 => (intro W1 hSw; (try dsimp only at hSw); go_simp; (try with_reducible rfl))
    simp only [Act.put, List.setIfInBounds_toArray, List.set_cons_zero, List.set_cons_succ]
    refine wpAnyH_take (i := 13) (oi := ⟨some 24, _, _, _, _, _⟩) (v := ?_) rfl (by kernel_rfl) (by kernel_rfl) (by kernel_rfl) (fun _ _ _ h => h) (Or.inl ⟨by rfl, ?hy11⟩) hHeld ?rest11
    case hy11 => (intro W1 hSw; (try dsimp only at hSw); go_simp; (try with_reducible rfl))
    simp only [Act.put, List.setIfInBounds_toArray, List.set_cons_zero, List.set_cons_succ]
    refine wpAnyH_ready (rs := [4, 8, 16]) (by kernel_rfl) (by simp) ?_
    refine AllReadyH.cons (o := ⟨some 15, _, _, _, _, _⟩) rfl (fun K hK => ?_) ?_
    · go_simp
      (go_at_call 42; (with_reducible refine (cE _ hD.out).mono ?_); rintro e v1 ⟨⟨ge, rfl, hi, hv, hn, hr, hc, hb⟩, hB⟩)
      have hX := Lib.hid (hX.out.bel hB)
      have hE : Hid (CpG W.e v1 ge w1.heap.size) := Lib.hid ⟨hi, hv, hn, hr, hc, fun x hx => Nat.le_trans hD.out.size (hb x hx)⟩
      have hD := Lib.hid (below_two hD.out hB)
      clear hi hv hn hr hc hb hB
      (try go_wp2_with fail)
      refine hK.out _ _ ?_ (fun hNew => ?_)
      · ((try dsimp only); exact box_wt hX.out)
      clear hK K hHeld
      have hHeld := hNew
      clear hNew
      try simp only [Act.put, List.setIfInBounds_toArray, List.set_cons_zero, List.set_cons_succ]
      refine wpAnyH_ready (rs := [8, 11, 16]) (by kernel_rfl) (by simp) ?_
      refine AllReadyH.cons (o := ⟨some 19, _, _, _, _, _⟩) rfl (fun K hK => ?_) ?_
      · go_simp
        have hX2 := Lib.hid (hX.out.alloc (ZB W.bn))
        refine hK.out _ _ ?_ (fun hNew => ?_)
        · ((try dsimp only); exact box_wt hX2.out)
        clear hK K hHeld
        have hHeld := hNew
        clear hNew
        try simp only [Act.put, List.setIfInBounds_toArray, List.set_cons_zero, List.set_cons_succ]
        obtain ⟨gM, hg0⟩ : ∃ g, v1.heap.size = g := ⟨_, rfl⟩
        obtain ⟨v2, hw0⟩ : ∃ v, v1.alloc (ZB W.bn) = v := ⟨_, rfl⟩
        have hgM : w1.heap.size ≤ gM := by rw [← hg0]; exact hD.out.size
        have hM : Hid (Box v2 gM 66 (madeCells zblk (W.bn * 20))) := Lib.hid (by rw [← hw0, ← hg0]; exact box_new _ _ _)
        have hbb : Below v1.heap.size v1 v2 := by rw [← hw0]; exact (Below.refl _ _).alloc (Nat.le_refl _) _
        have hE := Lib.hid (hE.out.bel hbb)
        have hD := Lib.hid (below_two hD.out hbb)
        have hX : Hid (Box v2 w.heap.size 50 W.cells) := Lib.hid (hw0 ▸ hX2.out)
        have hw1 := hw0
        unfold ZB at hw1
        (try rw [hw1])
        (try rw [hw0])
        (try rw [hg0])
        clear hw0 hw1 hg0 hX2 hbb hHeld
        have hHeld : WtCells v2 w.heap.size W := box_wt hX.out
        refine wpAnyH_ready (rs := [11, 16]) (by kernel_rfl) (by simp) ?_
        refine AllReadyH.cons (o := ⟨some 22, _, _, _, _, _⟩) rfl (fun K hK => ?_) ?_
        · go_simp
          (go_at_call 38; (with_reducible refine (cT _ hD.out).mono ?_); rintro e v3 ⟨⟨gt, rfl, hi, hv, hn, hb⟩, hB⟩)
          have hX := Lib.hid (hX.out.bel hB)
          have hM := Lib.hid (hM.out.bel hB)
          have hE := Lib.hid (hE.out.bel hB)
          have hTl : Hid (CpR W.t v3 gt w1.heap.size) := Lib.hid ⟨hi, hv, hn, fun x hx => Nat.le_trans hD.out.size (hb x hx)⟩
          have hD := Lib.hid (below_two hD.out hB)
          clear hi hv hn hb hB
          (try go_wp2_with fail)
          refine hK.out _ _ ?_ (fun hNew => ?_)
          · ((try dsimp only); exact box_wt hX.out)
          clear hK K hHeld
          have hHeld := hNew
          clear hNew
          try simp only [Act.put, List.setIfInBounds_toArray, List.set_cons_zero, List.set_cons_succ]
          refine wpAnyH_ready (rs := [14, 16]) (by kernel_rfl) (by simp) ?_
          refine AllReadyH.cons (o := ⟨some 25, _, _, _, _, _⟩) rfl (fun K hK => ?_) ?_
          · go_simp
            (go_at_call 42; (with_reducible refine (cH _ hD.out).mono ?_); rintro e v4 ⟨⟨gh, rfl, hi, hv, hn, hr, hc, hb⟩, hB⟩)
            have hX := Lib.hid (hX.out.bel hB)
            have hM := Lib.hid (hM.out.bel hB)
            have hE := Lib.hid (hE.out.bel hB)
            have hTl := Lib.hid (hTl.out.bel hB)
            have hHd : Hid (CpG W.hd v4 gh w1.heap.size) := Lib.hid ⟨hi, hv, hn, hr, hc, fun x hx => Nat.le_trans hD.out.size (hb x hx)⟩
            have hD := Lib.hid (below_two hD.out hB)
            clear hi hv hn hr hc hb hB
            (try go_wp2_with fail)
            refine hK.out _ _ ?_ (fun hNew => ?_)
            · ((try dsimp only); exact box_wt hX.out)
            clear hK K hHeld
            have hHeld := hNew
            clear hNew
            try simp only [Act.put, List.setIfInBounds_toArray, List.set_cons_zero, List.set_cons_succ]
            refine wpAnyH_take (i := 15) (oi := ⟨some 26, _, _, _, _, _⟩) (v := ?_) rfl (by kernel_rfl) (by kernel_rfl) (by kernel_rfl) (fun _ _ _ h => h) (Or.inl ⟨by rfl, ?hy12⟩) hHeld ?rest12
            case hy12 => (intro W1 hSw; (try dsimp only at hSw); go_simp; (try with_reducible rfl))
            simp only [Act.put, List.setIfInBounds_toArray, List.set_cons_zero, List.set_cons_succ]
            refine wpAnyH_ready (rs := [16]) (by kernel_rfl) (by simp) ?_
            refine AllReadyH.cons (o := ⟨some 4, _, _, _, _, _⟩) rfl (fun K hK => ?_) AllReadyH.nil
            · go_simp
              have hX2 := Lib.hid (hX.out.alloc (ZW))
              refine hK.out _ _ ?_ (fun hNew => ?_)
              · ((try dsimp only); exact box_wt hX2.out)
              clear hK K hHeld
              have hHeld := hNew
              clear hNew
              try simp only [Act.put, List.setIfInBounds_toArray, List.set_cons_zero, List.set_cons_succ]
              obtain ⟨gA, hg0⟩ : ∃ g, v4.heap.size = g := ⟨_, rfl⟩
              obtain ⟨v5, hw0⟩ : ∃ v, v4.alloc (ZW) = v := ⟨_, rfl⟩
              have hgA : w1.heap.size ≤ gA := by rw [← hg0]; exact hD.out.size
              have hA : Hid (Box v5 gA 50 zwts) := Lib.hid (by rw [← hw0, ← hg0]; exact box_new _ _ _)
              have hM := Lib.hid (hw0 ▸ hM.out.alloc ZW)
              have hbb : Below v4.heap.size v4 v5 := by rw [← hw0]; exact (Below.refl _ _).alloc (Nat.le_refl _) _
              have hE := Lib.hid (hE.out.bel hbb)
              have hTl := Lib.hid (hTl.out.bel hbb)
              have hHd := Lib.hid (hHd.out.bel hbb)
              have hD := Lib.hid (below_two hD.out hbb)
              have hX : Hid (Box v5 w.heap.size 50 W.cells) := Lib.hid (hw0 ▸ hX2.out)
              have hw1 := hw0
              unfold ZW at hw1
              unfold zwts at hw1
              (try rw [hw1])
              (try rw [hw0])
              (try rw [hg0])
              clear hw0 hw1 hg0 hX2 hbb hHeld
              have hHeld : WtCells v5 w.heap.size W := box_wt hX.out
              refine wpAnyH_ready (rs := [17]) (by kernel_rfl) (by simp) ?_
              refine AllReadyH.cons (o := ⟨none, _, _, _, _, _⟩) rfl (fun K hK => ?_) AllReadyH.nil
              have XA := hA.out
              have XM := hM.out
              have DD := hD.out
              refine wp_store_row 50 _ _ rfl gA (wcells W ge gt gh gM) rfl rfl 50 _ XA (by kernel_rfl) rfl (wcells_one W ge gt gh gM) ?_
              have hAne : w.heap.size ≠ gA := by omega
              have XZ := hX.out.setRow_other (cs' := wcells W ge gt gh gM) hAne
              refine hK.out _ _ ?_ (fun hNew => ?_)
              · ((try dsimp only); exact box_wt XZ)
              clear hK K hHeld
              have hHeld := hNew
              clear hNew
              refine wpAnyH_done (by kernel_rfl) ?_ _
              have hrel : NewRel W w1.heap.size w1 (.pointer (some ⟨gA, 0, none⟩)) (v5.setRow gA (wcells W ge gt gh gM)) := newRel_of XA XM DD hgA hgM hE.out hTl.out hHd.out
              clear hHeld XA XM DD XZ hA hM hD hX hE hTl hHd
              go_wp2_with fail
              go_meet
              case rel => exact hrel
          refine AllReadyH.cons (o := ⟨some 4, _, _, _, _, _⟩) rfl (fun K hK => ?_) AllReadyH.nil
          · go_simp
            have hX2 := Lib.hid (hX.out.alloc (ZW))
            refine hK.out _ _ ?_ (fun hNew => ?_)
            · ((try dsimp only); exact box_wt hX2.out)
            clear hK K hHeld
            have hHeld := hNew
            clear hNew
            try simp only [Act.put, List.setIfInBounds_toArray, List.set_cons_zero, List.set_cons_succ]
            obtain ⟨gA, hg0⟩ : ∃ g, v3.heap.size = g := ⟨_, rfl⟩
            obtain ⟨v6, hw0⟩ : ∃ v, v3.alloc (ZW) = v := ⟨_, rfl⟩
            have hgA : w1.heap.size ≤ gA := by rw [← hg0]; exact hD.out.size
            have hA : Hid (Box v6 gA 50 zwts) := Lib.hid (by rw [← hw0, ← hg0]; exact box_new _ _ _)
            have hM := Lib.hid (hw0 ▸ hM.out.alloc ZW)
            have hbb : Below v3.heap.size v3 v6 := by rw [← hw0]; exact (Below.refl _ _).alloc (Nat.le_refl _) _
            have hE := Lib.hid (hE.out.bel hbb)
            have hTl := Lib.hid (hTl.out.bel hbb)
            have hD := Lib.hid (below_two hD.out hbb)
            have hX : Hid (Box v6 w.heap.size 50 W.cells) := Lib.hid (hw0 ▸ hX2.out)
            have hw1 := hw0
            unfold ZW at hw1
            unfold zwts at hw1
            (try rw [hw1])
            (try rw [hw0])
            (try rw [hg0])
            clear hw0 hw1 hg0 hX2 hbb hHeld
            have hHeld : WtCells v6 w.heap.size W := box_wt hX.out
            refine wpAnyH_ready (rs := [14]) (by kernel_rfl) (by simp) ?_
            refine AllReadyH.cons (o := ⟨some 25, _, _, _, _, _⟩) rfl (fun K hK => ?_) AllReadyH.nil
            · go_simp
              (go_at_call 42; (with_reducible refine (cH _ hD.out).mono ?_); rintro e v7 ⟨⟨gh, rfl, hi, hv, hn, hr, hc, hb⟩, hB⟩)
              have hX := Lib.hid (hX.out.bel hB)
              have hM := Lib.hid (hM.out.bel hB)
              have hA := Lib.hid (hA.out.bel hB)
              have hE := Lib.hid (hE.out.bel hB)
              have hTl := Lib.hid (hTl.out.bel hB)
              have hHd : Hid (CpG W.hd v7 gh w1.heap.size) := Lib.hid ⟨hi, hv, hn, hr, hc, fun x hx => Nat.le_trans hD.out.size (hb x hx)⟩
              have hD := Lib.hid (below_two hD.out hB)
              clear hi hv hn hr hc hb hB
              (try go_wp2_with fail)
              refine hK.out _ _ ?_ (fun hNew => ?_)
              · ((try dsimp only); exact box_wt hX.out)
              clear hK K hHeld
              have hHeld := hNew
              clear hNew
              try simp only [Act.put, List.setIfInBounds_toArray, List.set_cons_zero, List.set_cons_succ]
              refine wpAnyH_take (i := 15) (oi := ⟨some 26, _, _, _, _, _⟩) (v := ?_) rfl (by kernel_rfl) (by kernel_rfl) (by kernel_rfl) (fun _ _ _ h => h) (Or.inl ⟨by rfl, ?hy13⟩) hHeld ?rest13
              case hy13 => (intro W1 hSw; (try dsimp only at hSw); go_simp; (try with_reducible rfl))
              simp only [Act.put, List.setIfInBounds_toArray, List.set_cons_zero, List.set_cons_succ]
              refine wpAnyH_ready (rs := [17]) (by kernel_rfl) (by simp) ?_
              refine AllReadyH.cons (o := ⟨none, _, _, _, _, _⟩) rfl (fun K hK => ?_) AllReadyH.nil
              have XA := hA.out
              have XM := hM.out
              have DD := hD.out
              refine wp_store_row 50 _ _ rfl gA (wcells W ge gt gh gM) rfl rfl 50 _ XA (by kernel_rfl) rfl (wcells_one W ge gt gh gM) ?_
              have hAne : w.heap.size ≠ gA := by omega
              have XZ := hX.out.setRow_other (cs' := wcells W ge gt gh gM) hAne
              refine hK.out _ _ ?_ (fun hNew => ?_)
              · ((try dsimp only); exact box_wt XZ)
              clear hK K hHeld
              have hHeld := hNew
              clear hNew
              refine wpAnyH_done (by kernel_rfl) ?_ _
              have hrel : NewRel W w1.heap.size w1 (.pointer (some ⟨gA, 0, none⟩)) (v7.setRow gA (wcells W ge gt gh gM)) := newRel_of XA XM DD hgA hgM hE.out hTl.out hHd.out
              clear hHeld XA XM DD XZ hA hM hD hX hE hTl hHd
              go_wp2_with fail
              go_meet
              case rel => exact hrel
        refine AllReadyH.cons (o := ⟨some 4, _, _, _, _, _⟩) rfl (fun K hK => ?_) AllReadyH.nil
        · go_simp
          have hX2 := Lib.hid (hX.out.alloc (ZW))
          refine hK.out _ _ ?_ (fun hNew => ?_)
          · ((try dsimp only); exact box_wt hX2.out)
          clear hK K hHeld
          have hHeld := hNew
          clear hNew
          try simp only [Act.put, List.setIfInBounds_toArray, List.set_cons_zero, List.set_cons_succ]
          obtain ⟨gA, hg0⟩ : ∃ g, v2.heap.size = g := ⟨_, rfl⟩
          obtain ⟨v8, hw0⟩ : ∃ v, v2.alloc (ZW) = v := ⟨_, rfl⟩
          have hgA : w1.heap.size ≤ gA := by rw [← hg0]; exact hD.out.size
          have hA : Hid (Box v8 gA 50 zwts) := Lib.hid (by rw [← hw0, ← hg0]; exact box_new _ _ _)
          have hM := Lib.hid (hw0 ▸ hM.out.alloc ZW)
          have hbb : Below v2.heap.size v2 v8 := by rw [← hw0]; exact (Below.refl _ _).alloc (Nat.le_refl _) _
          have hE := Lib.hid (hE.out.bel hbb)
          have hD := Lib.hid (below_two hD.out hbb)
          have hX : Hid (Box v8 w.heap.size 50 W.cells) := Lib.hid (hw0 ▸ hX2.out)
          have hw1 := hw0
          unfold ZW at hw1
          unfold zwts at hw1
          (try rw [hw1])
          (try rw [hw0])
          (try rw [hg0])
          clear hw0 hw1 hg0 hX2 hbb hHeld
          have hHeld : WtCells v8 w.heap.size W := box_wt hX.out
          refine wpAnyH_ready (rs := [11]) (by kernel_rfl) (by simp) ?_
          refine AllReadyH.cons (o := ⟨some 22, _, _, _, _, _⟩) rfl (fun K hK => ?_) AllReadyH.nil
          · go_simp
            (go_at_call 38; (with_reducible refine (cT _ hD.out).mono ?_); rintro e v9 ⟨⟨gt, rfl, hi, hv, hn, hb⟩, hB⟩)
            have hX := Lib.hid (hX.out.bel hB)
            have hM := Lib.hid (hM.out.bel hB)
            have hA := Lib.hid (hA.out.bel hB)
            have hE := Lib.hid (hE.out.bel hB)
            have hTl : Hid (CpR W.t v9 gt w1.heap.size) := Lib.hid ⟨hi, hv, hn, fun x hx => Nat.le_trans hD.out.size (hb x hx)⟩
            have hD := Lib.hid (below_two hD.out hB)
            clear hi hv hn hb hB
            (try go_wp2_with fail)
            refine hK.out _ _ ?_ (fun hNew => ?_)
            · ((try dsimp only); exact box_wt hX.out)
            clear hK K hHeld
            have hHeld := hNew
            clear hNew
            try simp only [Act.put, List.setIfInBounds_toArray, List.set_cons_zero, List.set_cons_succ]
            refine wpAnyH_ready (rs := [14]) (by kernel_rfl) (by simp) ?_
            refine AllReadyH.cons (o := ⟨some 25, _, _, _, _, _⟩) rfl (fun K hK => ?_) AllReadyH.nil
            · go_simp
              (go_at_call 42; (with_reducible refine (cH _ hD.out).mono ?_); rintro e v10 ⟨⟨gh, rfl, hi, hv, hn, hr, hc, hb⟩, hB⟩)
              have hX := Lib.hid (hX.out.bel hB)
              have hM := Lib.hid (hM.out.bel hB)
              have hA := Lib.hid (hA.out.bel hB)
              have hE := Lib.hid (hE.out.bel hB)
              have hTl := Lib.hid (hTl.out.bel hB)
              have hHd : Hid (CpG W.hd v10 gh w1.heap.size) := Lib.hid ⟨hi, hv, hn, hr, hc, fun x hx => Nat.le_trans hD.out.size (hb x hx)⟩
              have hD := Lib.hid (below_two hD.out hB)
              clear hi hv hn hr hc hb hB
              (try go_wp2_with fail)
              refine hK.out _ _ ?_ (fun hNew => ?_)
              · ((try dsimp only); exact box_wt hX.out)
              clear hK K hHeld
              have hHeld := hNew
              clear hNew
              try simp only [Act.put, List.setIfInBounds_toArray, List.set_cons_zero, List.set_cons_succ]
              refine wpAnyH_take (i := 15) (oi := ⟨some 26, _, _, _, _, _⟩) (v := ?_) rfl (by kernel_rfl) (by kernel_rfl) (by kernel_rfl) (fun _ _ _ h => h) (Or.inl ⟨by rfl, ?hy14⟩) hHeld ?rest14
              case hy14 => (intro W1 hSw; (try dsimp only at hSw); go_simp; (try with_reducible rfl))
              simp only [Act.put, List.setIfInBounds_toArray, List.set_cons_zero, List.set_cons_succ]
              refine wpAnyH_ready (rs := [17]) (by kernel_rfl) (by simp) ?_
              refine AllReadyH.cons (o := ⟨none, _, _, _, _, _⟩) rfl (fun K hK => ?_) AllReadyH.nil
              have XA := hA.out
              have XM := hM.out
              have DD := hD.out
              refine wp_store_row 50 _ _ rfl gA (wcells W ge gt gh gM) rfl rfl 50 _ XA (by kernel_rfl) rfl (wcells_one W ge gt gh gM) ?_
              have hAne : w.heap.size ≠ gA := by omega
              have XZ := hX.out.setRow_other (cs' := wcells W ge gt gh gM) hAne
              refine hK.out _ _ ?_ (fun hNew => ?_)
              · ((try dsimp only); exact box_wt XZ)
              clear hK K hHeld
              have hHeld := hNew
              clear hNew
              refine wpAnyH_done (by kernel_rfl) ?_ _
              have hrel : NewRel W w1.heap.size w1 (.pointer (some ⟨gA, 0, none⟩)) (v10.setRow gA (wcells W ge gt gh gM)) := newRel_of XA XM DD hgA hgM hE.out hTl.out hHd.out
              clear hHeld XA XM DD XZ hA hM hD hX hE hTl hHd
              go_wp2_with fail
              go_meet
              case rel => exact hrel
      refine AllReadyH.cons (o := ⟨some 22, _, _, _, _, _⟩) rfl (fun K hK => ?_) ?_
      · go_simp
        (go_at_call 38; (with_reducible refine (cT _ hD.out).mono ?_); rintro e v11 ⟨⟨gt, rfl, hi, hv, hn, hb⟩, hB⟩)
        have hX := Lib.hid (hX.out.bel hB)
        have hE := Lib.hid (hE.out.bel hB)
        have hTl : Hid (CpR W.t v11 gt w1.heap.size) := Lib.hid ⟨hi, hv, hn, fun x hx => Nat.le_trans hD.out.size (hb x hx)⟩
        have hD := Lib.hid (below_two hD.out hB)
        clear hi hv hn hb hB
        (try go_wp2_with fail)
        refine hK.out _ _ ?_ (fun hNew => ?_)
        · ((try dsimp only); exact box_wt hX.out)
        clear hK K hHeld
        have hHeld := hNew
        clear hNew
        try simp only [Act.put, List.setIfInBounds_toArray, List.set_cons_zero, List.set_cons_succ]
        refine wpAnyH_ready (rs := [8, 14, 16]) (by kernel_rfl) (by simp) ?_
        refine AllReadyH.cons (o := ⟨some 19, _, _, _, _, _⟩) rfl (fun K hK => ?_) ?_
        · go_simp
          have hX2 := Lib.hid (hX.out.alloc (ZB W.bn))
          refine hK.out _ _ ?_ (fun hNew => ?_)
          · ((try dsimp only); exact box_wt hX2.out)
          clear hK K hHeld
          have hHeld := hNew
          clear hNew
          try simp only [Act.put, List.setIfInBounds_toArray, List.set_cons_zero, List.set_cons_succ]
          obtain ⟨gM, hg0⟩ : ∃ g, v11.heap.size = g := ⟨_, rfl⟩
          obtain ⟨v12, hw0⟩ : ∃ v, v11.alloc (ZB W.bn) = v := ⟨_, rfl⟩
          have hgM : w1.heap.size ≤ gM := by rw [← hg0]; exact hD.out.size
          have hM : Hid (Box v12 gM 66 (madeCells zblk (W.bn * 20))) := Lib.hid (by rw [← hw0, ← hg0]; exact box_new _ _ _)
          have hbb : Below v11.heap.size v11 v12 := by rw [← hw0]; exact (Below.refl _ _).alloc (Nat.le_refl _) _
          have hE := Lib.hid (hE.out.bel hbb)
          have hTl := Lib.hid (hTl.out.bel hbb)
          have hD := Lib.hid (below_two hD.out hbb)
          have hX : Hid (Box v12 w.heap.size 50 W.cells) := Lib.hid (hw0 ▸ hX2.out)
          have hw1 := hw0
          unfold ZB at hw1
          (try rw [hw1])
          (try rw [hw0])
          (try rw [hg0])
          clear hw0 hw1 hg0 hX2 hbb hHeld
          have hHeld : WtCells v12 w.heap.size W := box_wt hX.out
          refine wpAnyH_ready (rs := [14, 16]) (by kernel_rfl) (by simp) ?_
          refine AllReadyH.cons (o := ⟨some 25, _, _, _, _, _⟩) rfl (fun K hK => ?_) ?_
          · go_simp
            (go_at_call 42; (with_reducible refine (cH _ hD.out).mono ?_); rintro e v13 ⟨⟨gh, rfl, hi, hv, hn, hr, hc, hb⟩, hB⟩)
            have hX := Lib.hid (hX.out.bel hB)
            have hM := Lib.hid (hM.out.bel hB)
            have hE := Lib.hid (hE.out.bel hB)
            have hTl := Lib.hid (hTl.out.bel hB)
            have hHd : Hid (CpG W.hd v13 gh w1.heap.size) := Lib.hid ⟨hi, hv, hn, hr, hc, fun x hx => Nat.le_trans hD.out.size (hb x hx)⟩
            have hD := Lib.hid (below_two hD.out hB)
            clear hi hv hn hr hc hb hB
            (try go_wp2_with fail)
            refine hK.out _ _ ?_ (fun hNew => ?_)
            · ((try dsimp only); exact box_wt hX.out)
            clear hK K hHeld
            have hHeld := hNew
            clear hNew
            try simp only [Act.put, List.setIfInBounds_toArray, List.set_cons_zero, List.set_cons_succ]
            refine wpAnyH_take (i := 15) (oi := ⟨some 26, _, _, _, _, _⟩) (v := ?_) rfl (by kernel_rfl) (by kernel_rfl) (by kernel_rfl) (fun _ _ _ h => h) (Or.inl ⟨by rfl, ?hy15⟩) hHeld ?rest15
            case hy15 => (intro W1 hSw; (try dsimp only at hSw); go_simp; (try with_reducible rfl))
            simp only [Act.put, List.setIfInBounds_toArray, List.set_cons_zero, List.set_cons_succ]
            refine wpAnyH_ready (rs := [16]) (by kernel_rfl) (by simp) ?_
            refine AllReadyH.cons (o := ⟨some 4, _, _, _, _, _⟩) rfl (fun K hK => ?_) AllReadyH.nil
            · go_simp
              have hX2 := Lib.hid (hX.out.alloc (ZW))
              refine hK.out _ _ ?_ (fun hNew => ?_)
              · ((try dsimp only); exact box_wt hX2.out)
              clear hK K hHeld
              have hHeld := hNew
              clear hNew
              try simp only [Act.put, List.setIfInBounds_toArray, List.set_cons_zero, List.set_cons_succ]
              obtain ⟨gA, hg0⟩ : ∃ g, v13.heap.size = g := ⟨_, rfl⟩
              obtain ⟨v14, hw0⟩ : ∃ v, v13.alloc (ZW) = v := ⟨_, rfl⟩
              have hgA : w1.heap.size ≤ gA := by rw [← hg0]; exact hD.out.size
              have hA : Hid (Box v14 gA 50 zwts) := Lib.hid (by rw [← hw0, ← hg0]; exact box_new _ _ _)
              have hM := Lib.hid (hw0 ▸ hM.out.alloc ZW)
              have hbb : Below v13.heap.size v13 v14 := by rw [← hw0]; exact (Below.refl _ _).alloc (Nat.le_refl _) _
              have hE := Lib.hid (hE.out.bel hbb)
              have hTl := Lib.hid (hTl.out.bel hbb)
              have hHd := Lib.hid (hHd.out.bel hbb)
              have hD := Lib.hid (below_two hD.out hbb)
              have hX : Hid (Box v14 w.heap.size 50 W.cells) := Lib.hid (hw0 ▸ hX2.out)
              have hw1 := hw0
              unfold ZW at hw1
              unfold zwts at hw1
              (try rw [hw1])
              (try rw [hw0])
              (try rw [hg0])
              clear hw0 hw1 hg0 hX2 hbb hHeld
              have hHeld : WtCells v14 w.heap.size W := box_wt hX.out
              refine wpAnyH_ready (rs := [17]) (by kernel_rfl) (by simp) ?_
              refine AllReadyH.cons (o := ⟨none, _, _, _, _, _⟩) rfl (fun K hK => ?_) AllReadyH.nil
              have XA := hA.out
              have XM := hM.out
              have DD := hD.out
              refine wp_store_row 50 _ _ rfl gA (wcells W ge gt gh gM) rfl rfl 50 _ XA (by kernel_rfl) rfl (wcells_one W ge gt gh gM) ?_
              have hAne : w.heap.size ≠ gA := by omega
              have XZ := hX.out.setRow_other (cs' := wcells W ge gt gh gM) hAne
              refine hK.out _ _ ?_ (fun hNew => ?_)
              · ((try dsimp only); exact box_wt XZ)
              clear hK K hHeld
              have hHeld := hNew
              clear hNew
              refine wpAnyH_done (by kernel_rfl) ?_ _
              have hrel : NewRel W w1.heap.size w1 (.pointer (some ⟨gA, 0, none⟩)) (v14.setRow gA (wcells W ge gt gh gM)) := newRel_of XA XM DD hgA hgM hE.out hTl.out hHd.out
              clear hHeld XA XM DD XZ hA hM hD hX hE hTl hHd
              go_wp2_with fail
              go_meet
              case rel => exact hrel
          refine AllReadyH.cons (o := ⟨some 4, _, _, _, _, _⟩) rfl (fun K hK => ?_) AllReadyH.nil
          · go_simp
            have hX2 := Lib.hid (hX.out.alloc (ZW))
            refine hK.out _ _ ?_ (fun hNew => ?_)
            · ((try dsimp only); exact box_wt hX2.out)
            clear hK K hHeld
            have hHeld := hNew
            clear hNew
            try simp only [Act.put, List.setIfInBounds_toArray, List.set_cons_zero, List.set_cons_succ]
            obtain ⟨gA, hg0⟩ : ∃ g, v12.heap.size = g := ⟨_, rfl⟩
            obtain ⟨v15, hw0⟩ : ∃ v, v12.alloc (ZW) = v := ⟨_, rfl⟩
            have hgA : w1.heap.size ≤ gA := by rw [← hg0]; exact hD.out.size
            have hA : Hid (Box v15 gA 50 zwts) := Lib.hid (by rw [← hw0, ← hg0]; exact box_new _ _ _)
            have hM := Lib.hid (hw0 ▸ hM.out.alloc ZW)
            have hbb : Below v12.heap.size v12 v15 := by rw [← hw0]; exact (Below.refl _ _).alloc (Nat.le_refl _) _
            have hE := Lib.hid (hE.out.bel hbb)
            have hTl := Lib.hid (hTl.out.bel hbb)
            have hD := Lib.hid (below_two hD.out hbb)
            have hX : Hid (Box v15 w.heap.size 50 W.cells) := Lib.hid (hw0 ▸ hX2.out)
            have hw1 := hw0
            unfold ZW at hw1
            unfold zwts at hw1
            (try rw [hw1])
            (try rw [hw0])
            (try rw [hg0])
            clear hw0 hw1 hg0 hX2 hbb hHeld
            have hHeld : WtCells v15 w.heap.size W := box_wt hX.out
            refine wpAnyH_ready (rs := [14]) (by kernel_rfl) (by simp) ?_
            refine AllReadyH.cons (o := ⟨some 25, _, _, _, _, _⟩) rfl (fun K hK => ?_) AllReadyH.nil
            · go_simp
              (go_at_call 42; (with_reducible refine (cH _ hD.out).mono ?_); rintro e v16 ⟨⟨gh, rfl, hi, hv, hn, hr, hc, hb⟩, hB⟩)
              have hX := Lib.hid (hX.out.bel hB)
              have hM := Lib.hid (hM.out.bel hB)
              have hA := Lib.hid (hA.out.bel hB)
              have hE := Lib.hid (hE.out.bel hB)
              have hTl := Lib.hid (hTl.out.bel hB)
              have hHd : Hid (CpG W.hd v16 gh w1.heap.size) := Lib.hid ⟨hi, hv, hn, hr, hc, fun x hx => Nat.le_trans hD.out.size (hb x hx)⟩
              have hD := Lib.hid (below_two hD.out hB)
              clear hi hv hn hr hc hb hB
              (try go_wp2_with fail)
              refine hK.out _ _ ?_ (fun hNew => ?_)
              · ((try dsimp only); exact box_wt hX.out)
              clear hK K hHeld
              have hHeld := hNew
              clear hNew
              try simp only [Act.put, List.setIfInBounds_toArray, List.set_cons_zero, List.set_cons_succ]
              refine wpAnyH_take (i := 15) (oi := ⟨some 26, _, _, _, _, _⟩) (v := ?_) rfl (by kernel_rfl) (by kernel_rfl) (by kernel_rfl) (fun _ _ _ h => h) (Or.inl ⟨by rfl, ?hy16⟩) hHeld ?rest16
              case hy16 => (intro W1 hSw; (try dsimp only at hSw); go_simp; (try with_reducible rfl))
              simp only [Act.put, List.setIfInBounds_toArray, List.set_cons_zero, List.set_cons_succ]
              refine wpAnyH_ready (rs := [17]) (by kernel_rfl) (by simp) ?_
              refine AllReadyH.cons (o := ⟨none, _, _, _, _, _⟩) rfl (fun K hK => ?_) AllReadyH.nil
              have XA := hA.out
              have XM := hM.out
              have DD := hD.out
              refine wp_store_row 50 _ _ rfl gA (wcells W ge gt gh gM) rfl rfl 50 _ XA (by kernel_rfl) rfl (wcells_one W ge gt gh gM) ?_
              have hAne : w.heap.size ≠ gA := by omega
              have XZ := hX.out.setRow_other (cs' := wcells W ge gt gh gM) hAne
              refine hK.out _ _ ?_ (fun hNew => ?_)
              · ((try dsimp only); exact box_wt XZ)
              clear hK K hHeld
              have hHeld := hNew
              clear hNew
              refine wpAnyH_done (by kernel_rfl) ?_ _
              have hrel : NewRel W w1.heap.size w1 (.pointer (some ⟨gA, 0, none⟩)) (v16.setRow gA (wcells W ge gt gh gM)) := newRel_of XA XM DD hgA hgM hE.out hTl.out hHd.out
              clear hHeld XA XM DD XZ hA hM hD hX hE hTl hHd
              go_wp2_with fail
              go_meet
              case rel => exact hrel
        refine AllReadyH.cons (o := ⟨some 25, _, _, _, _, _⟩) rfl (fun K hK => ?_) ?_
        · go_simp
          (go_at_call 42; (with_reducible refine (cH _ hD.out).mono ?_); rintro e v17 ⟨⟨gh, rfl, hi, hv, hn, hr, hc, hb⟩, hB⟩)
          have hX := Lib.hid (hX.out.bel hB)
          have hE := Lib.hid (hE.out.bel hB)
          have hTl := Lib.hid (hTl.out.bel hB)
          have hHd : Hid (CpG W.hd v17 gh w1.heap.size) := Lib.hid ⟨hi, hv, hn, hr, hc, fun x hx => Nat.le_trans hD.out.size (hb x hx)⟩
          have hD := Lib.hid (below_two hD.out hB)
          clear hi hv hn hr hc hb hB
          (try go_wp2_with fail)
          refine hK.out _ _ ?_ (fun hNew => ?_)
          · ((try dsimp only); exact box_wt hX.out)
          clear hK K hHeld
          have hHeld := hNew
          clear hNew
          try simp only [Act.put, List.setIfInBounds_toArray, List.set_cons_zero, List.set_cons_succ]
          refine wpAnyH_ready (rs := [8, 16]) (by kernel_rfl) (by simp) ?_
          refine AllReadyH.cons (o := ⟨some 19, _, _, _, _, _⟩) rfl (fun K hK => ?_) ?_
          · go_simp
            have hX2 := Lib.hid (hX.out.alloc (ZB W.bn))
            refine hK.out _ _ ?_ (fun hNew => ?_)
            · ((try dsimp only); exact box_wt hX2.out)
            clear hK K hHeld
            have hHeld := hNew
            clear hNew
            try simp only [Act.put, List.setIfInBounds_toArray, List.set_cons_zero, List.set_cons_succ]
            obtain ⟨gM, hg0⟩ : ∃ g, v17.heap.size = g := ⟨_, rfl⟩
            obtain ⟨v18, hw0⟩ : ∃ v, v17.alloc (ZB W.bn) = v := ⟨_, rfl⟩
            have hgM : w1.heap.size ≤ gM := by rw [← hg0]; exact hD.out.size
            have hM : Hid (Box v18 gM 66 (madeCells zblk (W.bn * 20))) := Lib.hid (by rw [← hw0, ← hg0]; exact box_new _ _ _)
            have hbb : Below v17.heap.size v17 v18 := by rw [← hw0]; exact (Below.refl _ _).alloc (Nat.le_refl _) _
            have hE := Lib.hid (hE.out.bel hbb)
            have hTl := Lib.hid (hTl.out.bel hbb)
            have hHd := Lib.hid (hHd.out.bel hbb)
            have hD := Lib.hid (below_two hD.out hbb)
            have hX : Hid (Box v18 w.heap.size 50 W.cells) := Lib.hid (hw0 ▸ hX2.out)
            have hw1 := hw0
            unfold ZB at hw1
            (try rw [hw1])
            (try rw [hw0])
            (try rw [hg0])
            clear hw0 hw1 hg0 hX2 hbb hHeld
            have hHeld : WtCells v18 w.heap.size W := box_wt hX.out
            refine wpAnyH_take (i := 15) (oi := ⟨some 26, _, _, _, _, _⟩) (v := ?_) rfl (by kernel_rfl) (by kernel_rfl) (by kernel_rfl) (fun _ _ _ h => h) (Or.inl ⟨by rfl, ?hy17⟩) hHeld ?rest17
            case hy17 => (intro W1 hSw; (try dsimp only at hSw); go_simp; (try with_reducible rfl))
            simp only [Act.put, List.setIfInBounds_toArray, List.set_cons_zero, List.set_cons_succ]
            refine wpAnyH_ready (rs := [16]) (by kernel_rfl) (by simp) ?_
            refine AllReadyH.cons (o := ⟨some 4, _, _, _, _, _⟩) rfl (fun K hK => ?_) AllReadyH.nil
            · go_simp
              have hX2 := Lib.hid (hX.out.alloc (ZW))
              refine hK.out _ _ ?_ (fun hNew => ?_)
              · ((try dsimp only); exact box_wt hX2.out)
              clear hK K hHeld
              have hHeld := hNew
              clear hNew
              try simp only [Act.put, List.setIfInBounds_toArray, List.set_cons_zero, List.set_cons_succ]
              obtain ⟨gA, hg0⟩ : ∃ g, v18.heap.size = g := ⟨_, rfl⟩
              obtain ⟨v19, hw0⟩ : ∃ v, v18.alloc (ZW) = v := ⟨_, rfl⟩
              have hgA : w1.heap.size ≤ gA := by rw [← hg0]; exact hD.out.size
              have hA : Hid (Box v19 gA 50 zwts) := Lib.hid (by rw [← hw0, ← hg0]; exact box_new _ _ _)
              have hM := Lib.hid (hw0 ▸ hM.out.alloc ZW)
              have hbb : Below v18.heap.size v18 v19 := by rw [← hw0]; exact (Below.refl _ _).alloc (Nat.le_refl _) _
              have hE := Lib.hid (hE.out.bel hbb)
              have hTl := Lib.hid (hTl.out.bel hbb)
              have hHd := Lib.hid (hHd.out.bel hbb)
              have hD := Lib.hid (below_two hD.out hbb)
              have hX : Hid (Box v19 w.heap.size 50 W.cells) := Lib.hid (hw0 ▸ hX2.out)
              have hw1 := hw0
              unfold ZW at hw1
              unfold zwts at hw1
              (try rw [hw1])
              (try rw [hw0])
              (try rw [hg0])
              clear hw0 hw1 hg0 hX2 hbb hHeld
              have hHeld : WtCells v19 w.heap.size W := box_wt hX.out
              refine wpAnyH_ready (rs := [17]) (by kernel_rfl) (by simp) ?_
              refine AllReadyH.cons (o := ⟨none, _, _, _, _, _⟩) rfl (fun K hK => ?_) AllReadyH.nil
              have XA := hA.out
              have XM := hM.out
              have DD := hD.out
              refine wp_store_row 50 _ _ rfl gA (wcells W ge gt gh gM) rfl rfl 50 _ XA (by kernel_rfl) rfl (wcells_one W ge gt gh gM) ?_
              have hAne : w.heap.size ≠ gA := by omega
              have XZ := hX.out.setRow_other (cs' := wcells W ge gt gh gM) hAne
              refine hK.out _ _ ?_ (fun hNew => ?_)
              · ((try dsimp only); exact box_wt XZ)
              clear hK K hHeld
              have hHeld := hNew
              clear hNew
              refine wpAnyH_done (by kernel_rfl) ?_ _
              have hrel : NewRel W w1.heap.size w1 (.pointer (some ⟨gA, 0, none⟩)) (v19.setRow gA (wcells W ge gt gh gM)) := newRel_of XA XM DD hgA hgM hE.out hTl.out hHd.out
              clear hHeld XA XM DD XZ hA hM hD hX hE hTl hHd
              go_wp2_with fail
              go_meet
              case rel => exact hrel
          refine AllReadyH.cons (o := ⟨some 4, _, _, _, _, _⟩) rfl (fun K hK => ?_) AllReadyH.nil
          · go_simp
            have hX2 := Lib.hid (hX.out.alloc (ZW))
            refine hK.out _ _ ?_ (fun hNew => ?_)
            · ((try dsimp only); exact box_wt hX2.out)
            clear hK K hHeld
            have hHeld := hNew
            clear hNew
            try simp only [Act.put, List.setIfInBounds_toArray, List.set_cons_zero, List.set_cons_succ]
            obtain ⟨gA, hg0⟩ : ∃ g, v17.heap.size = g := ⟨_, rfl⟩
            obtain ⟨v20, hw0⟩ : ∃ v, v17.alloc (ZW) = v := ⟨_, rfl⟩
            have hgA : w1.heap.size ≤ gA := by rw [← hg0]; exact hD.out.size
            have hA : Hid (Box v20 gA 50 zwts) := Lib.hid (by rw [← hw0, ← hg0]; exact box_new _ _ _)
            have hbb : Below v17.heap.size v17 v20 := by rw [← hw0]; exact (Below.refl _ _).alloc (Nat.le_refl _) _
            have hE := Lib.hid (hE.out.bel hbb)
            have hTl := Lib.hid (hTl.out.bel hbb)
            have hHd := Lib.hid (hHd.out.bel hbb)
            have hD := Lib.hid (below_two hD.out hbb)
            have hX : Hid (Box v20 w.heap.size 50 W.cells) := Lib.hid (hw0 ▸ hX2.out)
            have hw1 := hw0
            unfold ZW at hw1
            unfold zwts at hw1
            (try rw [hw1])
            (try rw [hw0])
            (try rw [hg0])
            clear hw0 hw1 hg0 hX2 hbb hHeld
            have hHeld : WtCells v20 w.heap.size W := box_wt hX.out
            refine wpAnyH_ready (rs := [8]) (by kernel_rfl) (by simp) ?_
            refine AllReadyH.cons (o := ⟨some 19, _, _, _, _, _⟩) rfl (fun K hK => ?_) AllReadyH.nil
            · go_simp
              have hX2 := Lib.hid (hX.out.alloc (ZB W.bn))
              refine hK.out _ _ ?_ (fun hNew => ?_)
              · ((try dsimp only); exact box_wt hX2.out)
              clear hK K hHeld
              have hHeld := hNew
              clear hNew
              try simp only [Act.put, List.setIfInBounds_toArray, List.set_cons_zero, List.set_cons_succ]
              obtain ⟨gM, hg0⟩ : ∃ g, v20.heap.size = g := ⟨_, rfl⟩
              obtain ⟨v21, hw0⟩ : ∃ v, v20.alloc (ZB W.bn) = v := ⟨_, rfl⟩
              have hgM : w1.heap.size ≤ gM := by rw [← hg0]; exact hD.out.size
              have hM : Hid (Box v21 gM 66 (madeCells zblk (W.bn * 20))) := Lib.hid (by rw [← hw0, ← hg0]; exact box_new _ _ _)
              have hA := Lib.hid (hw0 ▸ hA.out.alloc (ZB W.bn))
              have hbb : Below v20.heap.size v20 v21 := by rw [← hw0]; exact (Below.refl _ _).alloc (Nat.le_refl _) _
              have hE := Lib.hid (hE.out.bel hbb)
              have hTl := Lib.hid (hTl.out.bel hbb)
              have hHd := Lib.hid (hHd.out.bel hbb)
              have hD := Lib.hid (below_two hD.out hbb)
              have hX : Hid (Box v21 w.heap.size 50 W.cells) := Lib.hid (hw0 ▸ hX2.out)
              have hw1 := hw0
              unfold ZB at hw1
              (try rw [hw1])
              (try rw [hw0])
              (try rw [hg0])
              clear hw0 hw1 hg0 hX2 hbb hHeld
              have hHeld : WtCells v21 w.heap.size W := box_wt hX.out
              refine wpAnyH_take (i := 15) (oi := ⟨some 26, _, _, _, _, _⟩) (v := ?_) rfl (by kernel_rfl) (by kernel_rfl) (by kernel_rfl) (fun _ _ _ h => h) (Or.inl ⟨by rfl, ?hy18⟩) hHeld ?rest18
              case hy18 => (intro W1 hSw; (try dsimp only at hSw); go_simp; (try with_reducible rfl))
              simp only [Act.put, List.setIfInBounds_toArray, List.set_cons_zero, List.set_cons_succ]
              refine wpAnyH_ready (rs := [17]) (by kernel_rfl) (by simp) ?_
              refine AllReadyH.cons (o := ⟨none, _, _, _, _, _⟩) rfl (fun K hK => ?_) AllReadyH.nil
              have XA := hA.out
              have XM := hM.out
              have DD := hD.out
              refine wp_store_row 50 _ _ rfl gA (wcells W ge gt gh gM) rfl rfl 50 _ XA (by kernel_rfl) rfl (wcells_one W ge gt gh gM) ?_
              have hAne : w.heap.size ≠ gA := by omega
              have XZ := hX.out.setRow_other (cs' := wcells W ge gt gh gM) hAne
              refine hK.out _ _ ?_ (fun hNew => ?_)
              · ((try dsimp only); exact box_wt XZ)
              clear hK K hHeld
              have hHeld := hNew
              clear hNew
              refine wpAnyH_done (by kernel_rfl) ?_ _
              have hrel : NewRel W w1.heap.size w1 (.pointer (some ⟨gA, 0, none⟩)) (v21.setRow gA (wcells W ge gt gh gM)) := newRel_of XA XM DD hgA hgM hE.out hTl.out hHd.out
              clear hHeld XA XM DD XZ hA hM hD hX hE hTl hHd
              go_wp2_with fail
              go_meet
              case rel => exact hrel
        refine AllReadyH.cons (o := ⟨some 4, _, _, _, _, _⟩) rfl (fun K hK => ?_) AllReadyH.nil
        · go_simp
          have hX2 := Lib.hid (hX.out.alloc (ZW))
          refine hK.out _ _ ?_ (fun hNew => ?_)
          · ((try dsimp only); exact box_wt hX2.out)
          clear hK K hHeld
          have hHeld := hNew
          clear hNew
          try simp only [Act.put, List.setIfInBounds_toArray, List.set_cons_zero, List.set_cons_succ]
          obtain ⟨gA, hg0⟩ : ∃ g, v11.heap.size = g := ⟨_, rfl⟩
          obtain ⟨v22, hw0⟩ : ∃ v, v11.alloc (ZW) = v := ⟨_, rfl⟩
          have hgA : w1.heap.size ≤ gA := by rw [← hg0]; exact hD.out.size
          have hA : Hid (Box v22 gA 50 zwts) := Lib.hid (by rw [← hw0, ← hg0]; exact box_new _ _ _)
          have hbb : Below v11.heap.size v11 v22 := by rw [← hw0]; exact (Below.refl _ _).alloc (Nat.le_refl _) _
          have hE := Lib.hid (hE.out.bel hbb)
          have hTl := Lib.hid (hTl.out.bel hbb)
          have hD := Lib.hid (below_two hD.out hbb)
          have hX : Hid (Box v22 w.heap.size 50 W.cells) := Lib.hid (hw0 ▸ hX2.out)
          have hw1 := hw0
          unfold ZW at hw1
          unfold zwts at hw1
          (try rw [hw1])
          (try rw [hw0])
          (try rw [hg0])
          clear hw0 hw1 hg0 hX2 hbb hHeld
          have hHeld : WtCells v22 w.heap.size W := box_wt hX.out
          refine wpAnyH_ready (rs := [8, 14]) (by kernel_rfl) (by simp) ?_
          refine AllReadyH.cons (o := ⟨some 19, _, _, _, _, _⟩) rfl (fun K hK => ?_) ?_
          · go_simp
            have hX2 := Lib.hid (hX.out.alloc (ZB W.bn))
            refine hK.out _ _ ?_ (fun hNew => ?_)
            · ((try dsimp only); exact box_wt hX2.out)
            clear hK K hHeld
            have hHeld := hNew
            clear hNew
            try simp only [Act.put, List.setIfInBounds_toArray, List.set_cons_zero, List.set_cons_succ]
            obtain ⟨gM, hg0⟩ : ∃ g, v22.heap.size = g := ⟨_, rfl⟩
            obtain ⟨v23, hw0⟩ : ∃ v, v22.alloc (ZB W.bn) = v := ⟨_, rfl⟩
            have hgM : w1.heap.size ≤ gM := by rw [← hg0]; exact hD.out.size
            have hM : Hid (Box v23 gM 66 (madeCells zblk (W.bn * 20))) := Lib.hid (by rw [← hw0, ← hg0]; exact box_new _ _ _)
            have hA := Lib.hid (hw0 ▸ hA.out.alloc (ZB W.bn))
            have hbb : Below v22.heap.size v22 v23 := by rw [← hw0]; exact (Below.refl _ _).alloc (Nat.le_refl _) _
            have hE := Lib.hid (hE.out.bel hbb)
            have hTl := Lib.hid (hTl.out.bel hbb)
            have hD := Lib.hid (below_two hD.out hbb)
            have hX : Hid (Box v23 w.heap.size 50 W.cells) := Lib.hid (hw0 ▸ hX2.out)
            have hw1 := hw0
            unfold ZB at hw1
            (try rw [hw1])
            (try rw [hw0])
            (try rw [hg0])
            clear hw0 hw1 hg0 hX2 hbb hHeld
            have hHeld : WtCells v23 w.heap.size W := box_wt hX.out
            refine wpAnyH_ready (rs := [14]) (by kernel_rfl) (by simp) ?_
            refine AllReadyH.cons (o := ⟨some 25, _, _, _, _, _⟩) rfl (fun K hK => ?_) AllReadyH.nil
            · go_simp
              (go_at_call 42; (with_reducible refine (cH _ hD.out).mono ?_); rintro e v24 ⟨⟨gh, rfl, hi, hv, hn, hr, hc, hb⟩, hB⟩)
              have hX := Lib.hid (hX.out.bel hB)
              have hM := Lib.hid (hM.out.bel hB)
              have hA := Lib.hid (hA.out.bel hB)
              have hE := Lib.hid (hE.out.bel hB)
              have hTl := Lib.hid (hTl.out.bel hB)
              have hHd : Hid (CpG W.hd v24 gh w1.heap.size) := Lib.hid ⟨hi, hv, hn, hr, hc, fun x hx => Nat.le_trans hD.out.size (hb x hx)⟩
              have hD := Lib.hid (below_two hD.out hB)
              clear hi hv hn hr hc hb hB
              (try go_wp2_with fail)
              refine hK.out _ _ ?_ (fun hNew => ?_)
              · ((try dsimp only); exact box_wt hX.out)
              clear hK K hHeld
              have hHeld := hNew
              clear hNew
              try simp only [Act.put, List.setIfInBounds_toArray, List.set_cons_zero, List.set_cons_succ]
              refine wpAnyH_take (i := 15) (oi := ⟨some 26, _, _, _, _, _⟩) (v := ?_) rfl (by kernel_rfl) (by kernel_rfl) (by kernel_rfl) (fun _ _ _ h => h) (Or.inl ⟨by rfl, ?hy19⟩) hHeld ?rest19
              case hy19 => (intro W1 hSw; (try dsimp only at hSw); go_simp; (try with_reducible rfl))
              simp only [Act.put, List.setIfInBounds_toArray, List.set_cons_zero, List.set_cons_succ]
              refine wpAnyH_ready (rs := [17]) (by kernel_rfl) (by simp) ?_
              refine AllReadyH.cons (o := ⟨none, _, _, _, _, _⟩) rfl (fun K hK => ?_) AllReadyH.nil
              have XA := hA.out
              have XM := hM.out
              have DD := hD.out
              refine wp_store_row 50 _ _ rfl gA (wcells W ge gt gh gM) rfl rfl 50 _ XA (by kernel_rfl) rfl (wcells_one W ge gt gh gM) ?_
              have hAne : w.heap.size ≠ gA := by omega
              have XZ := hX.out.setRow_other (cs' := wcells W ge gt gh gM) hAne
              refine hK.out _ _ ?_ (fun hNew => ?_)
              · ((try dsimp only); exact box_wt XZ)
              clear hK K hHeld
              have hHeld := hNew
              clear hNew
              refine wpAnyH_done (by kernel_rfl) ?_ _
              have hrel : NewRel W w1.heap.size w1 (.pointer (some ⟨gA, 0, none⟩)) (v24.setRow gA (wcells W ge gt gh gM)) := newRel_of XA XM DD hgA hgM hE.out hTl.out hHd.out
              clear hHeld XA XM DD XZ hA hM hD hX hE hTl hHd
              go_wp2_with fail
              go_meet
              case rel => exact hrel
          refine AllReadyH.cons (o := ⟨some 25, _, _, _, _, _⟩) rfl (fun K hK => ?_) AllReadyH.nil
          · go_simp
            (go_at_call 42; (with_reducible refine (cH _ hD.out).mono ?_); rintro e v25 ⟨⟨gh, rfl, hi, hv, hn, hr, hc, hb⟩, hB⟩)
            have hX := Lib.hid (hX.out.bel hB)
            have hA := Lib.hid (hA.out.bel hB)
            have hE := Lib.hid (hE.out.bel hB)
            have hTl := Lib.hid (hTl.out.bel hB)
            have hHd : Hid (CpG W.hd v25 gh w1.heap.size) := Lib.hid ⟨hi, hv, hn, hr, hc, fun x hx => Nat.le_trans hD.out.size (hb x hx)⟩
            have hD := Lib.hid (below_two hD.out hB)
            clear hi hv hn hr hc hb hB
            (try go_wp2_with fail)
            refine hK.out _ _ ?_ (fun hNew => ?_)
            · ((try dsimp only); exact box_wt hX.out)
            clear hK K hHeld
            have hHeld := hNew
            clear hNew
            try simp only [Act.put, List.setIfInBounds_toArray, List.set_cons_zero, List.set_cons_succ]
            refine wpAnyH_ready (rs := [8]) (by kernel_rfl) (by simp) ?_
            refine AllReadyH.cons (o := ⟨some 19, _, _, _, _, _⟩) rfl (fun K hK => ?_) AllReadyH.nil
            · go_simp
              have hX2 := Lib.hid (hX.out.alloc (ZB W.bn))
              refine hK.out _ _ ?_ (fun hNew => ?_)
              · ((try dsimp only); exact box_wt hX2.out)
              clear hK K hHeld
              have hHeld := hNew
              clear hNew
              try simp only [Act.put, List.setIfInBounds_toArray, List.set_cons_zero, List.set_cons_succ]
              obtain ⟨gM, hg0⟩ : ∃ g, v25.heap.size = g := ⟨_, rfl⟩
              obtain ⟨v26, hw0⟩ : ∃ v, v25.alloc (ZB W.bn) = v := ⟨_, rfl⟩
              have hgM : w1.heap.size ≤ gM := by rw [← hg0]; exact hD.out.size
              have hM : Hid (Box v26 gM 66 (madeCells zblk (W.bn * 20))) := Lib.hid (by rw [← hw0, ← hg0]; exact box_new _ _ _)
              have hA := Lib.hid (hw0 ▸ hA.out.alloc (ZB W.bn))
              have hbb : Below v25.heap.size v25 v26 := by rw [← hw0]; exact (Below.refl _ _).alloc (Nat.le_refl _) _
              have hE := Lib.hid (hE.out.bel hbb)
              have hTl := Lib.hid (hTl.out.bel hbb)
              have hHd := Lib.hid (hHd.out.bel hbb)
              have hD := Lib.hid (below_two hD.out hbb)
              have hX : Hid (Box v26 w.heap.size 50 W.cells) := Lib.hid (hw0 ▸ hX2.out)
              have hw1 := hw0
              unfold ZB at hw1
              (try rw [hw1])
              (try rw [hw0])
              (try rw [hg0])
              clear hw0 hw1 hg0 hX2 hbb hHeld
              have hHeld : WtCells v26 w.heap.size W := box_wt hX.out
              refine wpAnyH_take (i := 15) (oi := ⟨some 26, _, _, _, _, _⟩) (v := ?_) rfl (by kernel_rfl) (by kernel_rfl) (by kernel_rfl) (fun _ _ _ h => h) (Or.inl ⟨by rfl, ?hy20⟩) hHeld ?rest20
              case hy20 => (intro W1 hSw; (try dsimp only at hSw); go_simp; (try with_reducible rfl))
              simp only [Act.put, List.setIfInBounds_toArray, List.set_cons_zero, List.set_cons_succ]
              refine wpAnyH_ready (rs := [17]) (by kernel_rfl) (by simp) ?_
              refine AllReadyH.cons (o := ⟨none, _, _, _, _, _⟩) rfl (fun K hK => ?_) AllReadyH.nil
              have XA := hA.out
              have XM := hM.out
              have DD := hD.out
              refine wp_store_row 50 _ _ rfl gA (wcells W ge gt gh gM) rfl rfl 50 _ XA (by kernel_rfl) rfl (wcells_one W ge gt gh gM) ?_
              have hAne : w.heap.size ≠ gA := by omega
              have XZ := hX.out.setRow_other (cs' := wcells W ge gt gh gM) hAne
              refine hK.out _ _ ?_ (fun hNew => ?_)
              · ((try dsimp only); exact box_wt XZ)
              clear hK K hHeld
              have hHeld := hNew
              clear hNew
              refine wpAnyH_done (by kernel_rfl) ?_ _
              have hrel : NewRel W w1.heap.size w1 (.pointer (some ⟨gA, 0, none⟩)) (v26.setRow gA (wcells W ge gt gh gM)) := newRel_of XA XM DD hgA hgM hE.out hTl.out hHd.out
              clear hHeld XA XM DD XZ hA hM hD hX hE hTl hHd
              go_wp2_with fail
              go_meet
              case rel => exact hrel
      refine AllReadyH.cons (o := ⟨some 4, _, _, _, _, _⟩) rfl (fun K hK => ?_) AllReadyH.nil
      · go_simp
        have hX2 := Lib.hid (hX.out.alloc (ZW))
        refine hK.out _ _ ?_ (fun hNew => ?_)
        · ((try dsimp only); exact box_wt hX2.out)
        clear hK K hHeld
        have hHeld := hNew
        clear hNew
        try simp only [Act.put, List.setIfInBounds_toArray, List.set_cons_zero, List.set_cons_succ]
        obtain ⟨gA, hg0⟩ : ∃ g, v1.heap.size = g := ⟨_, rfl⟩
        obtain ⟨v27, hw0⟩ : ∃ v, v1.alloc (ZW) = v := ⟨_, rfl⟩
        have hgA : w1.heap.size ≤ gA := by rw [← hg0]; exact hD.out.size
        have hA : Hid (Box v27 gA 50 zwts) := Lib.hid (by rw [← hw0, ← hg0]; exact box_new _ _ _)
        have hbb : Below v1.heap.size v1 v27 := by rw [← hw0]; exact (Below.refl _ _).alloc (Nat.le_refl _) _
        have hE := Lib.hid (hE.out.bel hbb)
        have hD := Lib.hid (below_two hD.out hbb)
        have hX : Hid (Box v27 w.heap.size 50 W.cells) := Lib.hid (hw0 ▸ hX2.out)
        have hw1 := hw0
        unfold ZW at hw1
        unfold zwts at hw1
        (try rw [hw1])
        (try rw [hw0])
        (try rw [hg0])
        clear hw0 hw1 hg0 hX2 hbb hHeld
        have hHeld : WtCells v27 w.heap.size W := box_wt hX.out
        refine wpAnyH_ready (rs := [8, 11]) (by kernel_rfl) (by simp) ?_
        refine AllReadyH.cons (o := ⟨some 19, _, _, _, _, _⟩) rfl (fun K hK => ?_) ?_
        · go_simp
          have hX2 := Lib.hid (hX.out.alloc (ZB W.bn))
          refine hK.out _ _ ?_ (fun hNew => ?_)
          · ((try dsimp only); exact box_wt hX2.out)
          clear hK K hHeld
          have hHeld := hNew
          clear hNew
          try simp only [Act.put, List.setIfInBounds_toArray, List.set_cons_zero, List.set_cons_succ]
          obtain ⟨gM, hg0⟩ : ∃ g, v27.heap.size = g := ⟨_, rfl⟩
          obtain ⟨v28, hw0⟩ : ∃ v, v27.alloc (ZB W.bn) = v := ⟨_, rfl⟩
          have hgM : w1.heap.size ≤ gM := by rw [← hg0]; exact hD.out.size
          have hM : Hid (Box v28 gM 66 (madeCells zblk (W.bn * 20))) := Lib.hid (by rw [← hw0, ← hg0]; exact box_new _ _ _)
          have hA := Lib.hid (hw0 ▸ hA.out.alloc (ZB W.bn))
          have hbb : Below v27.heap.size v27 v28 := by rw [← hw0]; exact (Below.refl _ _).alloc (Nat.le_refl _) _
          have hE := Lib.hid (hE.out.bel hbb)
          have hD := Lib.hid (below_two hD.out hbb)
          have hX : Hid (Box v28 w.heap.size 50 W.cells) := Lib.hid (hw0 ▸ hX2.out)
          have hw1 := hw0
          unfold ZB at hw1
          (try rw [hw1])
          (try rw [hw0])
          (try rw [hg0])
          clear hw0 hw1 hg0 hX2 hbb hHeld
          have hHeld : WtCells v28 w.heap.size W := box_wt hX.out
          refine wpAnyH_ready (rs := [11]) (by kernel_rfl) (by simp) ?_
          refine AllReadyH.cons (o := ⟨some 22, _, _, _, _, _⟩) rfl (fun K hK => ?_) AllReadyH.nil
          · go_simp
            (go_at_call 38; (with_reducible refine (cT _ hD.out).mono ?_); rintro e v29 ⟨⟨gt, rfl, hi, hv, hn, hb⟩, hB⟩)
            have hX := Lib.hid (hX.out.bel hB)
            have hM := Lib.hid (hM.out.bel hB)
            have hA := Lib.hid (hA.out.bel hB)
            have hE := Lib.hid (hE.out.bel hB)
            have hTl : Hid (CpR W.t v29 gt w1.heap.size) := Lib.hid ⟨hi, hv, hn, fun x hx => Nat.le_trans hD.out.size (hb x hx)⟩
            have hD := Lib.hid (below_two hD.out hB)
            clear hi hv hn hb hB
            (try go_wp2_with fail)
            refine hK.out _ _ ?_ (fun hNew => ?_)
            · ((try dsimp only); exact box_wt hX.out)
            clear hK K hHeld
            have hHeld := hNew
            clear hNew
            try simp only [Act.put, List.setIfInBounds_toArray, List.set_cons_zero, List.set_cons_succ]
            refine wpAnyH_ready (rs := [14]) (by kernel_rfl) (by simp) ?_
            refine AllReadyH.cons (o := ⟨some 25, _, _, _, _, _⟩) rfl (fun K hK => ?_) AllReadyH.nil
            · go_simp
              (go_at_call 42; (with_reducible refine (cH _ hD.out).mono ?_); rintro e v30 ⟨⟨gh, rfl, hi, hv, hn, hr, hc, hb⟩, hB⟩)
              have hX := Lib.hid (hX.out.bel hB)
              have hM := Lib.hid (hM.out.bel hB)
              have hA := Lib.hid (hA.out.bel hB)
              have hE := Lib.hid (hE.out.bel hB)
              have hTl := Lib.hid (hTl.out.bel hB)
              have hHd : Hid (CpG W.hd v30 gh w1.heap.size) := Lib.hid ⟨hi, hv, hn, hr, hc, fun x hx => Nat.le_trans hD.out.size (hb x hx)⟩
              have hD := Lib.hid (below_two hD.out hB)
              clear hi hv hn hr hc hb hB
              (try go_wp2_with fail)
              refine hK.out _ _ ?_ (fun hNew => ?_)
              · ((try dsimp only); exact box_wt hX.out)
              clear hK K hHeld
              have hHeld := hNew
              clear hNew
              try simp only [Act.put, List.setIfInBounds_toArray, List.set_cons_zero, List.set_cons_succ]
              refine wpAnyH_take (i := 15) (oi := ⟨some 26, _, _, _, _, _⟩) (v := ?_) rfl (by kernel_rfl) (by kernel_rfl) (by kernel_rfl) (fun _ _ _ h => h) (Or.inl ⟨by rfl, ?hy21⟩) hHeld ?rest21
              case hy21 => (intro W1 hSw; (try dsimp only at hSw); go_simp; (try with_reducible rfl))
              simp only [Act.put, List.setIfInBounds_toArray, List.set_cons_zero, List.set_cons_succ]
              refine wpAnyH_ready (rs := [17]) (by kernel_rfl) (by simp) ?_
              refine AllReadyH.cons (o := ⟨none, _, _, _, _, _⟩) rfl (fun K hK => ?_) AllReadyH.nil
              have XA := hA.out
              have XM := hM.out
              have DD := hD.out
              refine wp_store_row 50 _ _ rfl gA (wcells W ge gt gh gM) rfl rfl 50 _ XA (by kernel_rfl) rfl (wcells_one W ge gt gh gM) ?_
              have hAne : w.heap.size ≠ gA := by omega
              have XZ := hX.out.setRow_other (cs' := wcells W ge gt gh gM) hAne
              refine hK.out _ _ ?_ (fun hNew => ?_)
              · ((try dsimp only); exact box_wt XZ)
              clear hK K hHeld
              have hHeld := hNew
              clear hNew
              refine wpAnyH_done (by kernel_rfl) ?_ _
              have hrel : NewRel W w1.heap.size w1 (.pointer (some ⟨gA, 0, none⟩)) (v30.setRow gA (wcells W ge gt gh gM)) := newRel_of XA XM DD hgA hgM hE.out hTl.out hHd.out
              clear hHeld XA XM DD XZ hA hM hD hX hE hTl hHd
              go_wp2_with fail
              go_meet
              case rel => exact hrel
        refine AllReadyH.cons (o := ⟨some 22, _, _, _, _, _⟩) rfl (fun K hK => ?_) AllReadyH.nil
        · go_simp
          (go_at_call 38; (with_reducible refine (cT _ hD.out).mono ?_); rintro e v31 ⟨⟨gt, rfl, hi, hv, hn, hb⟩, hB⟩)
          have hX := Lib.hid (hX.out.bel hB)
          have hA := Lib.hid (hA.out.bel hB)
          have hE := Lib.hid (hE.out.bel hB)
          have hTl : Hid (CpR W.t v31 gt w1.heap.size) := Lib.hid ⟨hi, hv, hn, fun x hx => Nat.le_trans hD.out.size (hb x hx)⟩
          have hD := Lib.hid (below_two hD.out hB)
          clear hi hv hn hb hB
          (try go_wp2_with fail)
          refine hK.out _ _ ?_ (fun hNew => ?_)
          · ((try dsimp only); exact box_wt hX.out)
          clear hK K hHeld
          have hHeld := hNew
          clear hNew
          try simp only [Act.put, List.setIfInBounds_toArray, List.set_cons_zero, List.set_cons_succ]
          refine wpAnyH_ready (rs := [8, 14]) (by kernel_rfl) (by simp) ?_
          refine AllReadyH.cons (o := ⟨some 19, _, _, _, _, _⟩) rfl (fun K hK => ?_) ?_
          · go_simp
            have hX2 := Lib.hid (hX.out.alloc (ZB W.bn))
            refine hK.out _ _ ?_ (fun hNew => ?_)
            · ((try dsimp only); exact box_wt hX2.out)
            clear hK K hHeld
            have hHeld := hNew
            clear hNew
            try simp only [Act.put, List.setIfInBounds_toArray, List.set_cons_zero, List.set_cons_succ]
            obtain ⟨gM, hg0⟩ : ∃ g, v31.heap.size = g := ⟨_, rfl⟩
            obtain ⟨v32, hw0⟩ : ∃ v, v31.alloc (ZB W.bn) = v := ⟨_, rfl⟩
            have hgM : w1.heap.size ≤ gM := by rw [← hg0]; exact hD.out.size
            have hM : Hid (Box v32 gM 66 (madeCells zblk (W.bn * 20))) := Lib.hid (by rw [← hw0, ← hg0]; exact box_new _ _ _)
            have hA := Lib.hid (hw0 ▸ hA.out.alloc (ZB W.bn))
            have hbb : Below v31.heap.size v31 v32 := by rw [← hw0]; exact (Below.refl _ _).alloc (Nat.le_refl _) _
            have hE := Lib.hid (hE.out.bel hbb)
            have hTl := Lib.hid (hTl.out.bel hbb)
            have hD := Lib.hid (below_two hD.out hbb)
            have hX : Hid (Box v32 w.heap.size 50 W.cells) := Lib.hid (hw0 ▸ hX2.out)
            have hw1 := hw0
            unfold ZB at hw1
            (try rw [hw1])
            (try rw [hw0])
            (try rw [hg0])
            clear hw0 hw1 hg0 hX2 hbb hHeld
            have hHeld : WtCells v32 w.heap.size W := box_wt hX.out
            refine wpAnyH_ready (rs := [14]) (by kernel_rfl) (by simp) ?_
            refine AllReadyH.cons (o := ⟨some 25, _, _, _, _, _⟩) rfl (fun K hK => ?_) AllReadyH.nil
            · go_simp
              (go_at_call 42; (with_reducible refine (cH _ hD.out).mono ?_); rintro e v33 ⟨⟨gh, rfl, hi, hv, hn, hr, hc, hb⟩, hB⟩)
              have hX := Lib.hid (hX.out.bel hB)
              have hM := Lib.hid (hM.out.bel hB)
              have hA := Lib.hid (hA.out.bel hB)
              have hE := Lib.hid (hE.out.bel hB)
              have hTl := Lib.hid (hTl.out.bel hB)
              have hHd : Hid (CpG W.hd v33 gh w1.heap.size) := Lib.hid ⟨hi, hv, hn, hr, hc, fun x hx => Nat.le_trans hD.out.size (hb x hx)⟩
              have hD := Lib.hid (below_two hD.out hB)
              clear hi hv hn hr hc hb hB
              (try go_wp2_with fail)
              refine hK.out _ _ ?_ (fun hNew => ?_)
              · ((try dsimp only); exact box_wt hX.out)
              clear hK K hHeld
              have hHeld := hNew
              clear hNew
              try simp only [Act.put, List.setIfInBounds_toArray, List.set_cons_zero, List.set_cons_succ]
              refine wpAnyH_take (i := 15) (oi := ⟨some 26, _, _, _, _, _⟩) (v := ?_) rfl (by kernel_rfl) (by kernel_rfl) (by kernel_rfl) (fun _ _ _ h => h) (Or.inl ⟨by rfl, ?hy22⟩) hHeld ?rest22
              case hy22 => (intro W1 hSw; (try dsimp only at hSw); go_simp; (try with_reducible rfl))
              simp only [Act.put, List.setIfInBounds_toArray, List.set_cons_zero, List.set_cons_succ]
              refine wpAnyH_ready (rs := [17]) (by kernel_rfl) (by simp) ?_
              refine AllReadyH.cons (o := ⟨none, _, _, _, _, _⟩) rfl (fun K hK => ?_) AllReadyH.nil
              have XA := hA.out
              have XM := hM.out
              have DD := hD.out
              refine wp_store_row 50 _ _ rfl gA (wcells W ge gt gh gM) rfl rfl 50 _ XA (by kernel_rfl) rfl (wcells_one W ge gt gh gM) ?_
              have hAne : w.heap.size ≠ gA := by omega
              have XZ := hX.out.setRow_other (cs' := wcells W ge gt gh gM) hAne
              refine hK.out _ _ ?_ (fun hNew => ?_)
              · ((try dsimp only); exact box_wt XZ)
              clear hK K hHeld
              have hHeld := hNew
              clear hNew
              refine wpAnyH_done (by kernel_rfl) ?_ _
              have hrel : NewRel W w1.heap.size w1 (.pointer (some ⟨gA, 0, none⟩)) (v33.setRow gA (wcells W ge gt gh gM)) := newRel_of XA XM DD hgA hgM hE.out hTl.out hHd.out
              clear hHeld XA XM DD XZ hA hM hD hX hE hTl hHd
              go_wp2_with fail
              go_meet
              case rel => exact hrel
          refine AllReadyH.cons (o := ⟨some 25, _, _, _, _, _⟩) rfl (fun K hK => ?_) AllReadyH.nil
          · go_simp
            (go_at_call 42; (with_reducible refine (cH _ hD.out).mono ?_); rintro e v34 ⟨⟨gh, rfl, hi, hv, hn, hr, hc, hb⟩, hB⟩)
            have hX := Lib.hid (hX.out.bel hB)
            have hA := Lib.hid (hA.out.bel hB)
            have hE := Lib.hid (hE.out.bel hB)
            have hTl := Lib.hid (hTl.out.bel hB)
            have hHd : Hid (CpG W.hd v34 gh w1.heap.size) := Lib.hid ⟨hi, hv, hn, hr, hc, fun x hx => Nat.le_trans hD.out.size (hb x hx)⟩
            have hD := Lib.hid (below_two hD.out hB)
            clear hi hv hn hr hc hb hB
            (try go_wp2_with fail)
            refine hK.out _ _ ?_ (fun hNew => ?_)
            · ((try dsimp only); exact box_wt hX.out)
            clear hK K hHeld
            have hHeld := hNew
            clear hNew
            try simp only [Act.put, List.setIfInBounds_toArray, List.set_cons_zero, List.set_cons_succ]
            refine wpAnyH_ready (rs := [8]) (by kernel_rfl) (by simp) ?_
            refine AllReadyH.cons (o := ⟨some 19, _, _, _, _, _⟩) rfl (fun K hK => ?_) AllReadyH.nil
            · go_simp
              have hX2 := Lib.hid (hX.out.alloc (ZB W.bn))
              refine hK.out _ _ ?_ (fun hNew => ?_)
              · ((try dsimp only); exact box_wt hX2.out)
              clear hK K hHeld
              have hHeld := hNew
              clear hNew
              try simp only [Act.put, List.setIfInBounds_toArray, List.set_cons_zero, List.set_cons_succ]
              obtain ⟨gM, hg0⟩ : ∃ g, v34.heap.size = g := ⟨_, rfl⟩
              obtain ⟨v35, hw0⟩ : ∃ v, v34.alloc (ZB W.bn) = v := ⟨_, rfl⟩
              have hgM : w1.heap.size ≤ gM := by rw [← hg0]; exact hD.out.size
              have hM : Hid (Box v35 gM 66 (madeCells zblk (W.bn * 20))) := Lib.hid (by rw [← hw0, ← hg0]; exact box_new _ _ _)
              have hA := Lib.hid (hw0 ▸ hA.out.alloc (ZB W.bn))
              have hbb : Below v34.heap.size v34 v35 := by rw [← hw0]; exact (Below.refl _ _).alloc (Nat.le_refl _) _
              have hE := Lib.hid (hE.out.bel hbb)
              have hTl := Lib.hid (hTl.out.bel hbb)
              have hHd := Lib.hid (hHd.out.bel hbb)
              have hD := Lib.hid (below_two hD.out hbb)
              have hX : Hid (Box v35 w.heap.size 50 W.cells) := Lib.hid (hw0 ▸ hX2.out)
              have hw1 := hw0
              unfold ZB at hw1
              (try rw [hw1])
              (try rw [hw0])
              (try rw [hg0])
              clear hw0 hw1 hg0 hX2 hbb hHeld
              have hHeld : WtCells v35 w.heap.size W := box_wt hX.out
              refine wpAnyH_take (i := 15) (oi := ⟨some 26, _, _, _, _, _⟩) (v := ?_) rfl (by kernel_rfl) (by kernel_rfl) (by kernel_rfl) (fun _ _ _ h => h) (Or.inl ⟨by rfl, ?hy23⟩) hHeld ?rest23
              case hy23 => (intro W1 hSw; (try dsimp only at hSw); go_simp; (try with_reducible rfl))
              simp only [Act.put, List.setIfInBounds_toArray, List.set_cons_zero, List.set_cons_succ]
              refine wpAnyH_ready (rs := [17]) (by kernel_rfl) (by simp) ?_
              refine AllReadyH.cons (o := ⟨none, _, _, _, _, _⟩) rfl (fun K hK => ?_) AllReadyH.nil
              have XA := hA.out
              have XM := hM.out
              have DD := hD.out
              refine wp_store_row 50 _ _ rfl gA (wcells W ge gt gh gM) rfl rfl 50 _ XA (by kernel_rfl) rfl (wcells_one W ge gt gh gM) ?_
              have hAne : w.heap.size ≠ gA := by omega
              have XZ := hX.out.setRow_other (cs' := wcells W ge gt gh gM) hAne
              refine hK.out _ _ ?_ (fun hNew => ?_)
              · ((try dsimp only); exact box_wt XZ)
              clear hK K hHeld
              have hHeld := hNew
              clear hNew
              refine wpAnyH_done (by kernel_rfl) ?_ _
              have hrel : NewRel W w1.heap.size w1 (.pointer (some ⟨gA, 0, none⟩)) (v35.setRow gA (wcells W ge gt gh gM)) := newRel_of XA XM DD hgA hgM hE.out hTl.out hHd.out
              clear hHeld XA XM DD XZ hA hM hD hX hE hTl hHd
              go_wp2_with fail
              go_meet
              case rel => exact hrel
    refine AllReadyH.cons (o := ⟨some 19, _, _, _, _, _⟩) rfl (fun K hK => ?_) ?_
    · go_simp
      have hX2 := Lib.hid (hX.out.alloc (ZB W.bn))
      refine hK.out _ _ ?_ (fun hNew => ?_)
      · ((try dsimp only); exact box_wt hX2.out)
      clear hK K hHeld
      have hHeld := hNew
      clear hNew
      try simp only [Act.put, List.setIfInBounds_toArray, List.set_cons_zero, List.set_cons_succ]
      obtain ⟨gM, hg0⟩ : ∃ g, wb.heap.size = g := ⟨_, rfl⟩
      obtain ⟨v36, hw0⟩ : ∃ v, wb.alloc (ZB W.bn) = v := ⟨_, rfl⟩
      have hgM : w1.heap.size ≤ gM := by rw [← hg0]; exact hD.out.size
      have hM : Hid (Box v36 gM 66 (madeCells zblk (W.bn * 20))) := Lib.hid (by rw [← hw0, ← hg0]; exact box_new _ _ _)
      have hbb : Below wb.heap.size wb v36 := by rw [← hw0]; exact (Below.refl _ _).alloc (Nat.le_refl _) _
      have hD := Lib.hid (below_two hD.out hbb)
      have hX : Hid (Box v36 w.heap.size 50 W.cells) := Lib.hid (hw0 ▸ hX2.out)
      have hw1 := hw0
      unfold ZB at hw1
      (try rw [hw1])
      (try rw [hw0])
      (try rw [hg0])
      clear hw0 hw1 hg0 hX2 hbb hHeld
      have hHeld : WtCells v36 w.heap.size W := box_wt hX.out
      refine wpAnyH_ready (rs := [4, 16]) (by kernel_rfl) (by simp) ?_
      refine AllReadyH.cons (o := ⟨some 15, _, _, _, _, _⟩) rfl (fun K hK => ?_) ?_
      · go_simp
        (go_at_call 42; (with_reducible refine (cE _ hD.out).mono ?_); rintro e v37 ⟨⟨ge, rfl, hi, hv, hn, hr, hc, hb⟩, hB⟩)
        have hX := Lib.hid (hX.out.bel hB)
        have hM := Lib.hid (hM.out.bel hB)
        have hE : Hid (CpG W.e v37 ge w1.heap.size) := Lib.hid ⟨hi, hv, hn, hr, hc, fun x hx => Nat.le_trans hD.out.size (hb x hx)⟩
        have hD := Lib.hid (below_two hD.out hB)
        clear hi hv hn hr hc hb hB
        (try go_wp2_with fail)
        refine hK.out _ _ ?_ (fun hNew => ?_)
        · ((try dsimp only); exact box_wt hX.out)
        clear hK K hHeld
        have hHeld := hNew
        clear hNew
        try simp only [Act.put, List.setIfInBounds_toArray, List.set_cons_zero, List.set_cons_succ]
        refine wpAnyH_ready (rs := [11, 16]) (by kernel_rfl) (by simp) ?_
        refine AllReadyH.cons (o := ⟨some 22, _, _, _, _, _⟩) rfl (fun K hK => ?_) ?_
        · go_simp
          (go_at_call 38; (with_reducible refine (cT _ hD.out).mono ?_); rintro e v38 ⟨⟨gt, rfl, hi, hv, hn, hb⟩, hB⟩)
          have hX := Lib.hid (hX.out.bel hB)
          have hM := Lib.hid (hM.out.bel hB)
          have hE := Lib.hid (hE.out.bel hB)
          have hTl : Hid (CpR W.t v38 gt w1.heap.size) := Lib.hid ⟨hi, hv, hn, fun x hx => Nat.le_trans hD.out.size (hb x hx)⟩
          have hD := Lib.hid (below_two hD.out hB)
          clear hi hv hn hb hB
          (try go_wp2_with fail)
          refine hK.out _ _ ?_ (fun hNew => ?_)
          · ((try dsimp only); exact box_wt hX.out)
          clear hK K hHeld
          have hHeld := hNew
          clear hNew
          try simp only [Act.put, List.setIfInBounds_toArray, List.set_cons_zero, List.set_cons_succ]
          refine wpAnyH_ready (rs := [14, 16]) (by kernel_rfl) (by simp) ?_
          refine AllReadyH.cons (o := ⟨some 25, _, _, _, _, _⟩) rfl (fun K hK => ?_) ?_
          · go_simp
            (go_at_call 42; (with_reducible refine (cH _ hD.out).mono ?_); rintro e v39 ⟨⟨gh, rfl, hi, hv, hn, hr, hc, hb⟩, hB⟩)
            have hX := Lib.hid (hX.out.bel hB)
            have hM := Lib.hid (hM.out.bel hB)
            have hE := Lib.hid (hE.out.bel hB)
            have hTl := Lib.hid (hTl.out.bel hB)
            have hHd : Hid (CpG W.hd v39 gh w1.heap.size) := Lib.hid ⟨hi, hv, hn, hr, hc, fun x hx => Nat.le_trans hD.out.size (hb x hx)⟩
            have hD := Lib.hid (below_two hD.out hB)
            clear hi hv hn hr hc hb hB
            (try go_wp2_with fail)
            refine hK.out _ _ ?_ (fun hNew => ?_)
            · ((try dsimp only); exact box_wt hX.out)
            clear hK K hHeld
            have hHeld := hNew
            clear hNew
            try simp only [Act.put, List.setIfInBounds_toArray, List.set_cons_zero, List.set_cons_succ]
            refine wpAnyH_take (i := 15) (oi := ⟨some 26, _, _, _, _, _⟩) (v := ?_) rfl (by kernel_rfl) (by kernel_rfl) (by kernel_rfl) (fun _ _ _ h => h) (Or.inl ⟨by rfl, ?hy24⟩) hHeld ?rest24
            case hy24 => (intro W1 hSw; (try dsimp only at hSw); go_simp; (try with_reducible rfl))
            simp only [Act.put, List.setIfInBounds_toArray, List.set_cons_zero, List.set_cons_succ]
            refine wpAnyH_ready (rs := [16]) (by kernel_rfl) (by simp) ?_
            refine AllReadyH.cons (o := ⟨some 4, _, _, _, _, _⟩) rfl (fun K hK => ?_) AllReadyH.nil
            · go_simp
              have hX2 := Lib.hid (hX.out.alloc (ZW))
              refine hK.out _ _ ?_ (fun hNew => ?_)
              · ((try dsimp only); exact box_wt hX2.out)
              clear hK K hHeld
              have hHeld := hNew
              clear hNew
              try simp only [Act.put, List.setIfInBounds_toArray, List.set_cons_zero, List.set_cons_succ]
              obtain ⟨gA, hg0⟩ : ∃ g, v39.heap.size = g := ⟨_, rfl⟩
              obtain ⟨v40, hw0⟩ : ∃ v, v39.alloc (ZW) = v := ⟨_, rfl⟩
              have hgA : w1.heap.size ≤ gA := by rw [← hg0]; exact hD.out.size
              have hA : Hid (Box v40 gA 50 zwts) := Lib.hid (by rw [← hw0, ← hg0]; exact box_new _ _ _)
              have hM := Lib.hid (hw0 ▸ hM.out.alloc ZW)
              have hbb : Below v39.heap.size v39 v40 := by rw [← hw0]; exact (Below.refl _ _).alloc (Nat.le_refl _) _
              have hE := Lib.hid (hE.out.bel hbb)
              have hTl := Lib.hid (hTl.out.bel hbb)
              have hHd := Lib.hid (hHd.out.bel hbb)
              have hD := Lib.hid (below_two hD.out hbb)
              have hX : Hid (Box v40 w.heap.size 50 W.cells) := Lib.hid (hw0 ▸ hX2.out)
              have hw1 := hw0
              unfold ZW at hw1
              unfold zwts at hw1
              (try rw [hw1])
              (try rw [hw0])
              (try rw [hg0])
              clear hw0 hw1 hg0 hX2 hbb hHeld
              have hHeld : WtCells v40 w.heap.size W := box_wt hX.out
              refine wpAnyH_ready (rs := [17]) (by kernel_rfl) (by simp) ?_
              refine AllReadyH.cons (o := ⟨none, _, _, _, _, _⟩) rfl (fun K hK => ?_) AllReadyH.nil
              have XA := hA.out
              have XM := hM.out
              have DD := hD.out
              refine wp_store_row 50 _ _ rfl gA (wcells W ge gt gh gM) rfl rfl 50 _ XA (by kernel_rfl) rfl (wcells_one W ge gt gh gM) ?_
              have hAne : w.heap.size ≠ gA := by omega
              have XZ := hX.out.setRow_other (cs' := wcells W ge gt gh gM) hAne
              refine hK.out _ _ ?_ (fun hNew => ?_)
              · ((try dsimp only); exact box_wt XZ)
              clear hK K hHeld
              have hHeld := hNew
              clear hNew
              refine wpAnyH_done (by kernel_rfl) ?_ _
              have hrel : NewRel W w1.heap.size w1 (.pointer (some ⟨gA, 0, none⟩)) (v40.setRow gA (wcells W ge gt gh gM)) := newRel_of XA XM DD hgA hgM hE.out hTl.out hHd.out
              clear hHeld XA XM DD XZ hA hM hD hX hE hTl hHd
              go_wp2_with fail
              go_meet
              case rel => exact hrel
          refine AllReadyH.cons (o := ⟨some 4, _, _, _, _, _⟩) rfl (fun K hK => ?_) AllReadyH.nil
          · go_simp
            have hX2 := Lib.hid (hX.out.alloc (ZW))
            refine hK.out _ _ ?_ (fun hNew => ?_)
            · ((try dsimp only); exact box_wt hX2.out)
            clear hK K hHeld
            have hHeld := hNew
            clear hNew
            try simp only [Act.put, List.setIfInBounds_toArray, List.set_cons_zero, List.set_cons_succ]
            obtain ⟨gA, hg0⟩ : ∃ g, v38.heap.size = g := ⟨_, rfl⟩
            obtain ⟨v41, hw0⟩ : ∃ v, v38.alloc (ZW) = v := ⟨_, rfl⟩
            have hgA : w1.heap.size ≤ gA := by rw [← hg0]; exact hD.out.size
            have hA : Hid (Box v41 gA 50 zwts) := Lib.hid (by rw [← hw0, ← hg0]; exact box_new _ _ _)
            have hM := Lib.hid (hw0 ▸ hM.out.alloc ZW)
            have hbb : Below v38.heap.size v38 v41 := by rw [← hw0]; exact (Below.refl _ _).alloc (Nat.le_refl _) _
            have hE := Lib.hid (hE.out.bel hbb)
            have hTl := Lib.hid (hTl.out.bel hbb)
            have hD := Lib.hid (below_two hD.out hbb)
            have hX : Hid (Box v41 w.heap.size 50 W.cells) := Lib.hid (hw0 ▸ hX2.out)
            have hw1 := hw0
            unfold ZW at hw1
            unfold zwts at hw1
            (try rw [hw1])
            (try rw [hw0])
            (try rw [hg0])
            clear hw0 hw1 hg0 hX2 hbb hHeld
            have hHeld : WtCells v41 w.heap.size W := box_wt hX.out
            refine wpAnyH_ready (rs := [14]) (by kernel_rfl) (by simp) ?_
            refine AllReadyH.cons (o := ⟨some 25, _, _, _, _, _⟩) rfl (fun K hK => ?_) AllReadyH.nil
            · go_simp
              (go_at_call 42; (with_reducible refine (cH _ hD.out).mono ?_); rintro e v42 ⟨⟨gh, rfl, hi, hv, hn, hr, hc, hb⟩, hB⟩)
              have hX := Lib.hid (hX.out.bel hB)
              have hM := Lib.hid (hM.out.bel hB)
              have hA := Lib.hid (hA.out.bel hB)
              have hE := Lib.hid (hE.out.bel hB)
              have hTl := Lib.hid (hTl.out.bel hB)
              have hHd : Hid (CpG W.hd v42 gh w1.heap.size) := Lib.hid ⟨hi, hv, hn, hr, hc, fun x hx => Nat.le_trans hD.out.size (hb x hx)⟩
              have hD := Lib.hid (below_two hD.out hB)
              clear hi hv hn hr hc hb hB
              (try go_wp2_with fail)
              refine hK.out _ _ ?_ (fun hNew => ?_)
              · ((try dsimp only); exact box_wt hX.out)
              clear hK K hHeld
              have hHeld := hNew
              clear hNew
              try simp only [Act.put, List.setIfInBounds_toArray, List.set_cons_zero, List.set_cons_succ]
              refine wpAnyH_take (i := 15) (oi := ⟨some 26, _, _, _, _, _⟩) (v := ?_) rfl (by kernel_rfl) (by kernel_rfl) (by kernel_rfl) (fun _ _ _ h => h) (Or.inl ⟨by rfl, ?hy25⟩) hHeld ?rest25
              case hy25 => (intro W1 hSw; (try dsimp only at hSw); go_simp; (try with_reducible rfl))
              simp only [Act.put, List.setIfInBounds_toArray, List.set_cons_zero, List.set_cons_succ]
              refine wpAnyH_ready (rs := [17]) (by kernel_rfl) (by simp) ?_
              refine AllReadyH.cons (o := ⟨none, _, _, _, _, _⟩) rfl (fun K hK => ?_) AllReadyH.nil
              have XA := hA.out
              have XM := hM.out
              have DD := hD.out
              refine wp_store_row 50 _ _ rfl gA (wcells W ge gt gh gM) rfl rfl 50 _ XA (by kernel_rfl) rfl (wcells_one W ge gt gh gM) ?_
              have hAne : w.heap.size ≠ gA := by omega
              have XZ := hX.out.setRow_other (cs' := wcells W ge gt gh gM) hAne
              refine hK.out _ _ ?_ (fun hNew => ?_)
              · ((try dsimp only); exact box_wt XZ)
              clear hK K hHeld
              have hHeld := hNew
              clear hNew
              refine wpAnyH_done (by kernel_rfl) ?_ _
              have hrel : NewRel W w1.heap.size w1 (.pointer (some ⟨gA, 0, none⟩)) (v42.setRow gA (wcells W ge gt gh gM)) := newRel_of XA XM DD hgA hgM hE.out hTl.out hHd.out
              clear hHeld XA XM DD XZ hA hM hD hX hE hTl hHd
              go_wp2_with fail
              go_meet
              case rel => exact hrel
        refine AllReadyH.cons (o := ⟨some 4, _, _, _, _, _⟩) rfl (fun K hK => ?_) AllReadyH.nil
        · go_simp
          have hX2 := Lib.hid (hX.out.alloc (ZW))
          refine hK.out _ _ ?_ (fun hNew => ?_)
          · ((try dsimp only); exact box_wt hX2.out)
          clear hK K hHeld
          have hHeld := hNew
          clear hNew
          try simp only [Act.put, List.setIfInBounds_toArray, List.set_cons_zero, List.set_cons_succ]
          obtain ⟨gA, hg0⟩ : ∃ g, v37.heap.size = g := ⟨_, rfl⟩
          obtain ⟨v43, hw0⟩ : ∃ v, v37.alloc (ZW) = v := ⟨_, rfl⟩
          have hgA : w1.heap.size ≤ gA := by rw [← hg0]; exact hD.out.size
          have hA : Hid (Box v43 gA 50 zwts) := Lib.hid (by rw [← hw0, ← hg0]; exact box_new _ _ _)
          have hM := Lib.hid (hw0 ▸ hM.out.alloc ZW)
          have hbb : Below v37.heap.size v37 v43 := by rw [← hw0]; exact (Below.refl _ _).alloc (Nat.le_refl _) _
          have hE := Lib.hid (hE.out.bel hbb)
          have hD := Lib.hid (below_two hD.out hbb)
          have hX : Hid (Box v43 w.heap.size 50 W.cells) := Lib.hid (hw0 ▸ hX2.out)
          have hw1 := hw0
          unfold ZW at hw1
          unfold zwts at hw1
          (try rw [hw1])
          (try rw [hw0])
          (try rw [hg0])
          clear hw0 hw1 hg0 hX2 hbb hHeld
          have hHeld : WtCells v43 w.heap.size W := box_wt hX.out
          refine wpAnyH_ready (rs := [11]) (by kernel_rfl) (by simp) ?_
          refine AllReadyH.cons (o := ⟨some 22, _, _, _, _, _⟩) rfl (fun K hK => ?_) AllReadyH.nil
          · go_simp
            (go_at_call 38; (with_reducible refine (cT _ hD.out).mono ?_); rintro e v44 ⟨⟨gt, rfl, hi, hv, hn, hb⟩, hB⟩)
            have hX := Lib.hid (hX.out.bel hB)
            have hM := Lib.hid (hM.out.bel hB)
            have hA := Lib.hid (hA.out.bel hB)
            have hE := Lib.hid (hE.out.bel hB)
            have hTl : Hid (CpR W.t v44 gt w1.heap.size) := Lib.hid ⟨hi, hv, hn, fun x hx => Nat.le_trans hD.out.size (hb x hx)⟩
            have hD := Lib.hid (below_two hD.out hB)
            clear hi hv hn hb hB
            (try go_wp2_with fail)
            refine hK.out _ _ ?_ (fun hNew => ?_)
            · ((try dsimp only); exact box_wt hX.out)
            clear hK K hHeld
            have hHeld := hNew
            clear hNew
            try simp only [Act.put, List.setIfInBounds_toArray, List.set_cons_zero, List.set_cons_succ]
            refine wpAnyH_ready (rs := [14]) (by kernel_rfl) (by simp) ?_
            refine AllReadyH.cons (o := ⟨some 25, _, _, _, _, _⟩) rfl (fun K hK => ?_) AllReadyH.nil
            · go_simp
              (go_at_call 42; (with_reducible refine (cH _ hD.out).mono ?_); rintro e v45 ⟨⟨gh, rfl, hi, hv, hn, hr, hc, hb⟩, hB⟩)
              have hX := Lib.hid (hX.out.bel hB)
              have hM := Lib.hid (hM.out.bel hB)
              have hA := Lib.hid (hA.out.bel hB)
              have hE := Lib.hid (hE.out.bel hB)
              have hTl := Lib.hid (hTl.out.bel hB)
              have hHd : Hid (CpG W.hd v45 gh w1.heap.size) := Lib.hid ⟨hi, hv, hn, hr, hc, fun x hx => Nat.le_trans hD.out.size (hb x hx)⟩
              have hD := Lib.hid (below_two hD.out hB)
              clear hi hv hn hr hc hb hB
              (try go_wp2_with fail)
              refine hK.out _ _ ?_ (fun hNew => ?_)
              · ((try dsimp only); exact box_wt hX.out)
              clear hK K hHeld
              have hHeld := hNew
              clear hNew
              try simp only [Act.put, List.setIfInBounds_toArray, List.set_cons_zero, List.set_cons_succ]
              refine wpAnyH_take (i := 15) (oi := ⟨some 26, _, _, _, _, _⟩) (v := ?_) rfl (by kernel_rfl) (by kernel_rfl) (by kernel_rfl) (fun _ _ _ h => h) (Or.inl ⟨by rfl, ?hy26⟩) hHeld ?rest26
              case hy26 => (intro W1 hSw; (try dsimp only at hSw); go_simp; (try with_reducible rfl))
              simp only [Act.put, List.setIfInBounds_toArray, List.set_cons_zero, List.set_cons_succ]
              refine wpAnyH_ready (rs := [17]) (by kernel_rfl) (by simp) ?_
              refine AllReadyH.cons (o := ⟨none, _, _, _, _, _⟩) rfl (fun K hK => ?_) AllReadyH.nil
              have XA := hA.out
              have XM := hM.out
              have DD := hD.out
              refine wp_store_row 50 _ _ rfl gA (wcells W ge gt gh gM) rfl rfl 50 _ XA (by kernel_rfl) rfl (wcells_one W ge gt gh gM) ?_
              have hAne : w.heap.size ≠ gA := by omega
              have XZ := hX.out.setRow_other (cs' := wcells W ge gt gh gM) hAne
              refine hK.out _ _ ?_ (fun hNew => ?_)
              · ((try dsimp only); exact box_wt XZ)
              clear hK K hHeld
              have hHeld := hNew
              clear hNew
              refine wpAnyH_done (by kernel_rfl) ?_ _
              have hrel : NewRel W w1.heap.size w1 (.pointer (some ⟨gA, 0, none⟩)) (v45.setRow gA (wcells W ge gt gh gM)) := newRel_of XA XM DD hgA hgM hE.out hTl.out hHd.out
              clear hHeld XA XM DD XZ hA hM hD hX hE hTl hHd
              go_wp2_with fail
              go_meet
              case rel => exact hrel
      refine AllReadyH.cons (o := ⟨some 4, _, _, _, _, _⟩) rfl (fun K hK => ?_) AllReadyH.nil
      · go_simp
        have hX2 := Lib.hid (hX.out.alloc (ZW))
        refine hK.out _ _ ?_ (fun hNew => ?_)
        · ((try dsimp only); exact box_wt hX2.out)
        clear hK K hHeld
        have hHeld := hNew
        clear hNew
        try simp only [Act.put, List.setIfInBounds_toArray, List.set_cons_zero, List.set_cons_succ]
        obtain ⟨gA, hg0⟩ : ∃ g, v36.heap.size = g := ⟨_, rfl⟩
        obtain ⟨v46, hw0⟩ : ∃ v, v36.alloc (ZW) = v := ⟨_, rfl⟩
        have hgA : w1.heap.size ≤ gA := by rw [← hg0]; exact hD.out.size
        have hA : Hid (Box v46 gA 50 zwts) := Lib.hid (by rw [← hw0, ← hg0]; exact box_new _ _ _)
        have hM := Lib.hid (hw0 ▸ hM.out.alloc ZW)
        have hbb : Below v36.heap.size v36 v46 := by rw [← hw0]; exact (Below.refl _ _).alloc (Nat.le_refl _) _
        have hD := Lib.hid (below_two hD.out hbb)
        have hX : Hid (Box v46 w.heap.size 50 W.cells) := Lib.hid (hw0 ▸ hX2.out)
        have hw1 := hw0
        unfold ZW at hw1
        unfold zwts at hw1
        (try rw [hw1])
        (try rw [hw0])
        (try rw [hg0])
        clear hw0 hw1 hg0 hX2 hbb hHeld
        have hHeld : WtCells v46 w.heap.size W := box_wt hX.out
        refine wpAnyH_ready (rs := [4]) (by kernel_rfl) (by simp) ?_
        refine AllReadyH.cons (o := ⟨some 15, _, _, _, _, _⟩) rfl (fun K hK => ?_) AllReadyH.nil
        · go_simp
          (go_at_call 42; (with_reducible refine (cE _ hD.out).mono ?_); rintro e v47 ⟨⟨ge, rfl, hi, hv, hn, hr, hc, hb⟩, hB⟩)
          have hX := Lib.hid (hX.out.bel hB)
          have hM := Lib.hid (hM.out.bel hB)
          have hA := Lib.hid (hA.out.bel hB)
          have hE : Hid (CpG W.e v47 ge w1.heap.size) := Lib.hid ⟨hi, hv, hn, hr, hc, fun x hx => Nat.le_trans hD.out.size (hb x hx)⟩
          have hD := Lib.hid (below_two hD.out hB)
          clear hi hv hn hr hc hb hB
          (try go_wp2_with fail)
          refine hK.out _ _ ?_ (fun hNew => ?_)
          · ((try dsimp only); exact box_wt hX.out)
          clear hK K hHeld
          have hHeld := hNew
          clear hNew
          try simp only [Act.put, List.setIfInBounds_toArray, List.set_cons_zero, List.set_cons_succ]
          refine wpAnyH_ready (rs := [11]) (by kernel_rfl) (by simp) ?_
          refine AllReadyH.cons (o := ⟨some 22, _, _, _, _, _⟩) rfl (fun K hK => ?_) AllReadyH.nil
          · go_simp
            (go_at_call 38; (with_reducible refine (cT _ hD.out).mono ?_); rintro e v48 ⟨⟨gt, rfl, hi, hv, hn, hb⟩, hB⟩)
            have hX := Lib.hid (hX.out.bel hB)
            have hM := Lib.hid (hM.out.bel hB)
            have hA := Lib.hid (hA.out.bel hB)
            have hE := Lib.hid (hE.out.bel hB)
            have hTl : Hid (CpR W.t v48 gt w1.heap.size) := Lib.hid ⟨hi, hv, hn, fun x hx => Nat.le_trans hD.out.size (hb x hx)⟩
            have hD := Lib.hid (below_two hD.out hB)
            clear hi hv hn hb hB
            (try go_wp2_with fail)
            refine hK.out _ _ ?_ (fun hNew => ?_)
            · ((try dsimp only); exact box_wt hX.out)
            clear hK K hHeld
            have hHeld := hNew
            clear hNew
            try simp only [Act.put, List.setIfInBounds_toArray, List.set_cons_zero, List.set_cons_succ]
            refine wpAnyH_ready (rs := [14]) (by kernel_rfl) (by simp) ?_
            refine AllReadyH.cons (o := ⟨some 25, _, _, _, _, _⟩) rfl (fun K hK => ?_) AllReadyH.nil
            · go_simp
              (go_at_call 42; (with_reducible refine (cH _ hD.out).mono ?_); rintro e v49 ⟨⟨gh, rfl, hi, hv, hn, hr, hc, hb⟩, hB⟩)
              have hX := Lib.hid (hX.out.bel hB)
              have hM := Lib.hid (hM.out.bel hB)
              have hA := Lib.hid (hA.out.bel hB)
              have hE := Lib.hid (hE.out.bel hB)
              have hTl := Lib.hid (hTl.out.bel hB)
              have hHd : Hid (CpG W.hd v49 gh w1.heap.size) := Lib.hid ⟨hi, hv, hn, hr, hc, fun x hx => Nat.le_trans hD.out.size (hb x hx)⟩
              have hD := Lib.hid (below_two hD.out hB)
              clear hi hv hn hr hc hb hB
              (try go_wp2_with fail)
              refine hK.out _ _ ?_ (fun hNew => ?_)
              · ((try dsimp only); exact box_wt hX.out)
              clear hK K hHeld
              have hHeld := hNew
              clear hNew
              try simp only [Act.put, List.setIfInBounds_toArray, List.set_cons_zero, List.set_cons_succ]
              refine wpAnyH_take (i := 15) (oi := ⟨some 26, _, _, _, _, _⟩) (v := ?_) rfl (by kernel_rfl) (by kernel_rfl) (by kernel_rfl) (fun _ _ _ h => h) (Or.inl ⟨by rfl, ?hy27⟩) hHeld ?rest27
              case hy27 => (intro W1 hSw; (try dsimp only at hSw); go_simp; (try with_reducible rfl))
              simp only [Act.put, List.setIfInBounds_toArray, List.set_cons_zero, List.set_cons_succ]
              refine wpAnyH_ready (rs := [17]) (by kernel_rfl) (by simp) ?_
              refine AllReadyH.cons (o := ⟨none, _, _, _, _, _⟩) rfl (fun K hK => ?_) AllReadyH.nil
              have XA := hA.out
              have XM := hM.out
              have DD := hD.out
              refine wp_store_row 50 _ _ rfl gA (wcells W ge gt gh gM) rfl rfl 50 _ XA (by kernel_rfl) rfl (wcells_one W ge gt gh gM) ?_
              have hAne : w.heap.size ≠ gA := by omega
              have XZ := hX.out.setRow_other (cs' := wcells W ge gt gh gM) hAne
              refine hK.out _ _ ?_ (fun hNew => ?_)
              · ((try dsimp only); exact box_wt XZ)
              clear hK K hHeld
              have hHeld := hNew
              clear hNew
              refine wpAnyH_done (by kernel_rfl) ?_ _
              have hrel : NewRel W w1.heap.size w1 (.pointer (some ⟨gA, 0, none⟩)) (v49.setRow gA (wcells W ge gt gh gM)) := newRel_of XA XM DD hgA hgM hE.out hTl.out hHd.out
              clear hHeld XA XM DD XZ hA hM hD hX hE hTl hHd
              go_wp2_with fail
              go_meet
              case rel => exact hrel
    refine AllReadyH.cons (o := ⟨some 4, _, _, _, _, _⟩) rfl (fun K hK => ?_) AllReadyH.nil
    · go_simp
      have hX2 := Lib.hid (hX.out.alloc (ZW))
      refine hK.out _ _ ?_ (fun hNew => ?_)
      · ((try dsimp only); exact box_wt hX2.out)
      clear hK K hHeld
      have hHeld := hNew
      clear hNew
      try simp only [Act.put, List.setIfInBounds_toArray, List.set_cons_zero, List.set_cons_succ]
      obtain ⟨gA, hg0⟩ : ∃ g, wb.heap.size = g := ⟨_, rfl⟩
      obtain ⟨v50, hw0⟩ : ∃ v, wb.alloc (ZW) = v := ⟨_, rfl⟩
      have hgA : w1.heap.size ≤ gA := by rw [← hg0]; exact hD.out.size
      have hA : Hid (Box v50 gA 50 zwts) := Lib.hid (by rw [← hw0, ← hg0]; exact box_new _ _ _)
      have hbb : Below wb.heap.size wb v50 := by rw [← hw0]; exact (Below.refl _ _).alloc (Nat.le_refl _) _
      have hD := Lib.hid (below_two hD.out hbb)
      have hX : Hid (Box v50 w.heap.size 50 W.cells) := Lib.hid (hw0 ▸ hX2.out)
      have hw1 := hw0
      unfold ZW at hw1
      unfold zwts at hw1
      (try rw [hw1])
      (try rw [hw0])
      (try rw [hg0])
      clear hw0 hw1 hg0 hX2 hbb hHeld
      have hHeld : WtCells v50 w.heap.size W := box_wt hX.out
      refine wpAnyH_ready (rs := [4, 8]) (by kernel_rfl) (by simp) ?_
      refine AllReadyH.cons (o := ⟨some 15, _, _, _, _, _⟩) rfl (fun K hK => ?_) ?_
      · go_simp
        (go_at_call 42; (with_reducible refine (cE _ hD.out).mono ?_); rintro e v51 ⟨⟨ge, rfl, hi, hv, hn, hr, hc, hb⟩, hB⟩)
        have hX := Lib.hid (hX.out.bel hB)
        have hA := Lib.hid (hA.out.bel hB)
        have hE : Hid (CpG W.e v51 ge w1.heap.size) := Lib.hid ⟨hi, hv, hn, hr, hc, fun x hx => Nat.le_trans hD.out.size (hb x hx)⟩
        have hD := Lib.hid (below_two hD.out hB)
        clear hi hv hn hr hc hb hB
        (try go_wp2_with fail)
        refine hK.out _ _ ?_ (fun hNew => ?_)
        · ((try dsimp only); exact box_wt hX.out)
        clear hK K hHeld
        have hHeld := hNew
        clear hNew
        try simp only [Act.put, List.setIfInBounds_toArray, List.set_cons_zero, List.set_cons_succ]
        refine wpAnyH_ready (rs := [8, 11]) (by kernel_rfl) (by simp) ?_
        refine AllReadyH.cons (o := ⟨some 19, _, _, _, _, _⟩) rfl (fun K hK => ?_) ?_
        · go_simp
          have hX2 := Lib.hid (hX.out.alloc (ZB W.bn))
          refine hK.out _ _ ?_ (fun hNew => ?_)
          · ((try dsimp only); exact box_wt hX2.out)
          clear hK K hHeld
          have hHeld := hNew
          clear hNew
          try simp only [Act.put, List.setIfInBounds_toArray, List.set_cons_zero, List.set_cons_succ]
          obtain ⟨gM, hg0⟩ : ∃ g, v51.heap.size = g := ⟨_, rfl⟩
          obtain ⟨v52, hw0⟩ : ∃ v, v51.alloc (ZB W.bn) = v := ⟨_, rfl⟩
          have hgM : w1.heap.size ≤ gM := by rw [← hg0]; exact hD.out.size
          have hM : Hid (Box v52 gM 66 (madeCells zblk (W.bn * 20))) := Lib.hid (by rw [← hw0, ← hg0]; exact box_new _ _ _)
          have hA := Lib.hid (hw0 ▸ hA.out.alloc (ZB W.bn))
          have hbb : Below v51.heap.size v51 v52 := by rw [← hw0]; exact (Below.refl _ _).alloc (Nat.le_refl _) _
          have hE := Lib.hid (hE.out.bel hbb)
          have hD := Lib.hid (below_two hD.out hbb)
          have hX : Hid (Box v52 w.heap.size 50 W.cells) := Lib.hid (hw0 ▸ hX2.out)
          have hw1 := hw0
          unfold ZB at hw1
          (try rw [hw1])
          (try rw [hw0])
          (try rw [hg0])
          clear hw0 hw1 hg0 hX2 hbb hHeld
          have hHeld : WtCells v52 w.heap.size W := box_wt hX.out
          refine wpAnyH_ready (rs := [11]) (by kernel_rfl) (by simp) ?_
          refine AllReadyH.cons (o := ⟨some 22, _, _, _, _, _⟩) rfl (fun K hK => ?_) AllReadyH.nil
          · go_simp
            (go_at_call 38; (with_reducible refine (cT _ hD.out).mono ?_); rintro e v53 ⟨⟨gt, rfl, hi, hv, hn, hb⟩, hB⟩)
            have hX := Lib.hid (hX.out.bel hB)
            have hM := Lib.hid (hM.out.bel hB)
            have hA := Lib.hid (hA.out.bel hB)
            have hE := Lib.hid (hE.out.bel hB)
            have hTl : Hid (CpR W.t v53 gt w1.heap.size) := Lib.hid ⟨hi, hv, hn, fun x hx => Nat.le_trans hD.out.size (hb x hx)⟩
            have hD := Lib.hid (below_two hD.out hB)
            clear hi hv hn hb hB
            (try go_wp2_with fail)
            refine hK.out _ _ ?_ (fun hNew => ?_)
            · ((try dsimp only); exact box_wt hX.out)
            clear hK K hHeld
            have hHeld := hNew
            clear hNew
            try simp only [Act.put, List.setIfInBounds_toArray, List.set_cons_zero, List.set_cons_succ]
            refine wpAnyH_ready (rs := [14]) (by kernel_rfl) (by simp) ?_
            refine AllReadyH.cons (o := ⟨some 25, _, _, _, _, _⟩) rfl (fun K hK => ?_) AllReadyH.nil
            · go_simp
              (go_at_call 42; (with_reducible refine (cH _ hD.out).mono ?_); rintro e v54 ⟨⟨gh, rfl, hi, hv, hn, hr, hc, hb⟩, hB⟩)
              have hX := Lib.hid (hX.out.bel hB)
              have hM := Lib.hid (hM.out.bel hB)
              have hA := Lib.hid (hA.out.bel hB)
              have hE := Lib.hid (hE.out.bel hB)
              have hTl := Lib.hid (hTl.out.bel hB)
              have hHd : Hid (CpG W.hd v54 gh w1.heap.size) := Lib.hid ⟨hi, hv, hn, hr, hc, fun x hx => Nat.le_trans hD.out.size (hb x hx)⟩
              have hD := Lib.hid (below_two hD.out hB)
              clear hi hv hn hr hc hb hB
              (try go_wp2_with fail)
              refine hK.out _ _ ?_ (fun hNew => ?_)
              · ((try dsimp only); exact box_wt hX.out)
              clear hK K hHeld
              have hHeld := hNew
              clear hNew
              try simp only [Act.put, List.setIfInBounds_toArray, List.set_cons_zero, List.set_cons_succ]
              refine wpAnyH_take (i := 15) (oi := ⟨some 26, _, _, _, _, _⟩) (v := ?_) rfl (by kernel_rfl) (by kernel_rfl) (by kernel_rfl) (fun _ _ _ h => h) (Or.inl ⟨by rfl, ?hy28⟩) hHeld ?rest28
              case hy28 => (intro W1 hSw; (try dsimp only at hSw); go_simp; (try with_reducible rfl))
              simp only [Act.put, List.setIfInBounds_toArray, List.set_cons_zero, List.set_cons_succ]
              refine wpAnyH_ready (rs := [17]) (by kernel_rfl) (by simp) ?_
              refine AllReadyH.cons (o := ⟨none, _, _, _, _, _⟩) rfl (fun K hK => ?_) AllReadyH.nil
              have XA := hA.out
              have XM := hM.out
              have DD := hD.out
              refine wp_store_row 50 _ _ rfl gA (wcells W ge gt gh gM) rfl rfl 50 _ XA (by kernel_rfl) rfl (wcells_one W ge gt gh gM) ?_
              have hAne : w.heap.size ≠ gA := by omega
              have XZ := hX.out.setRow_other (cs' := wcells W ge gt gh gM) hAne
              refine hK.out _ _ ?_ (fun hNew => ?_)
              · ((try dsimp only); exact box_wt XZ)
              clear hK K hHeld
              have hHeld := hNew
              clear hNew
              refine wpAnyH_done (by kernel_rfl) ?_ _
              have hrel : NewRel W w1.heap.size w1 (.pointer (some ⟨gA, 0, none⟩)) (v54.setRow gA (wcells W ge gt gh gM)) := newRel_of XA XM DD hgA hgM hE.out hTl.out hHd.out
              clear hHeld XA XM DD XZ hA hM hD hX hE hTl hHd
              go_wp2_with fail
              go_meet
              case rel => exact hrel
        refine AllReadyH.cons (o := ⟨some 22, _, _, _, _, _⟩) rfl (fun K hK => ?_) AllReadyH.nil
        · go_simp
          (go_at_call 38; (with_reducible refine (cT _ hD.out).mono ?_); rintro e v55 ⟨⟨gt, rfl, hi, hv, hn, hb⟩, hB⟩)
          have hX := Lib.hid (hX.out.bel hB)
          have hA := Lib.hid (hA.out.bel hB)
          have hE := Lib.hid (hE.out.bel hB)
          have hTl : Hid (CpR W.t v55 gt w1.heap.size) := Lib.hid ⟨hi, hv, hn, fun x hx => Nat.le_trans hD.out.size (hb x hx)⟩
          have hD := Lib.hid (below_two hD.out hB)
          clear hi hv hn hb hB
          (try go_wp2_with fail)
          refine hK.out _ _ ?_ (fun hNew => ?_)
          · ((try dsimp only); exact box_wt hX.out)
          clear hK K hHeld
          have hHeld := hNew
          clear hNew
          try simp only [Act.put, List.setIfInBounds_toArray, List.set_cons_zero, List.set_cons_succ]
          refine wpAnyH_ready (rs := [8, 14]) (by kernel_rfl) (by simp) ?_
          refine AllReadyH.cons (o := ⟨some 19, _, _, _, _, _⟩) rfl (fun K hK => ?_) ?_
          · go_simp
            have hX2 := Lib.hid (hX.out.alloc (ZB W.bn))
            refine hK.out _ _ ?_ (fun hNew => ?_)
            · ((try dsimp only); exact box_wt hX2.out)
            clear hK K hHeld
            have hHeld := hNew
            clear hNew
            try simp only [Act.put, List.setIfInBounds_toArray, List.set_cons_zero, List.set_cons_succ]
            obtain ⟨gM, hg0⟩ : ∃ g, v55.heap.size = g := ⟨_, rfl⟩
            obtain ⟨v56, hw0⟩ : ∃ v, v55.alloc (ZB W.bn) = v := ⟨_, rfl⟩
            have hgM : w1.heap.size ≤ gM := by rw [← hg0]; exact hD.out.size
            have hM : Hid (Box v56 gM 66 (madeCells zblk (W.bn * 20))) := Lib.hid (by rw [← hw0, ← hg0]; exact box_new _ _ _)
            have hA := Lib.hid (hw0 ▸ hA.out.alloc (ZB W.bn))
            have hbb : Below v55.heap.size v55 v56 := by rw [← hw0]; exact (Below.refl _ _).alloc (Nat.le_refl _) _
            have hE := Lib.hid (hE.out.bel hbb)
            have hTl := Lib.hid (hTl.out.bel hbb)
            have hD := Lib.hid (below_two hD.out hbb)
            have hX : Hid (Box v56 w.heap.size 50 W.cells) := Lib.hid (hw0 ▸ hX2.out)
            have hw1 := hw0
            unfold ZB at hw1
            (try rw [hw1])
            (try rw [hw0])
            (try rw [hg0])
            clear hw0 hw1 hg0 hX2 hbb hHeld
            have hHeld : WtCells v56 w.heap.size W := box_wt hX.out
            refine wpAnyH_ready (rs := [14]) (by kernel_rfl) (by simp) ?_
            refine AllReadyH.cons (o := ⟨some 25, _, _, _, _, _⟩) rfl (fun K hK => ?_) AllReadyH.nil
            · go_simp
              (go_at_call 42; (with_reducible refine (cH _ hD.out).mono ?_); rintro e v57 ⟨⟨gh, rfl, hi, hv, hn, hr, hc, hb⟩, hB⟩)
              have hX := Lib.hid (hX.out.bel hB)
              have hM := Lib.hid (hM.out.bel hB)
              have hA := Lib.hid (hA.out.bel hB)
              have hE := Lib.hid (hE.out.bel hB)
              have hTl := Lib.hid (hTl.out.bel hB)
              have hHd : Hid (CpG W.hd v57 gh w1.heap.size) := Lib.hid ⟨hi, hv, hn, hr, hc, fun x hx => Nat.le_trans hD.out.size (hb x hx)⟩
              have hD := Lib.hid (below_two hD.out hB)
              clear hi hv hn hr hc hb hB
              (try go_wp2_with fail)
              refine hK.out _ _ ?_ (fun hNew => ?_)
              · ((try dsimp only); exact box_wt hX.out)
              clear hK K hHeld
              have hHeld := hNew
              clear hNew
              try simp only [Act.put, List.setIfInBounds_toArray, List.set_cons_zero, List.set_cons_succ]
              refine wpAnyH_take (i := 15) (oi := ⟨some 26, _, _, _, _, _⟩) (v := ?_) rfl (by kernel_rfl) (by kernel_rfl) (by kernel_rfl) (fun _ _ _ h => h) (Or.inl ⟨by rfl, ?hy29⟩) hHeld ?rest29
              case hy29 => (intro W1 hSw; (try dsimp only at hSw); go_simp; (try with_reducible rfl))
              simp only [Act.put, List.setIfInBounds_toArray, List.set_cons_zero, List.set_cons_succ]
              refine wpAnyH_ready (rs := [17]) (by kernel_rfl) (by simp) ?_
              refine AllReadyH.cons (o := ⟨none, _, _, _, _, _⟩) rfl (fun K hK => ?_) AllReadyH.nil
              have XA := hA.out
              have XM := hM.out
              have DD := hD.out
              refine wp_store_row 50 _ _ rfl gA (wcells W ge gt gh gM) rfl rfl 50 _ XA (by kernel_rfl) rfl (wcells_one W ge gt gh gM) ?_
              have hAne : w.heap.size ≠ gA := by omega
              have XZ := hX.out.setRow_other (cs' := wcells W ge gt gh gM) hAne
              refine hK.out _ _ ?_ (fun hNew => ?_)
              · ((try dsimp only); exact box_wt XZ)
              clear hK K hHeld
              have hHeld := hNew
              clear hNew
              refine wpAnyH_done (by kernel_rfl) ?_ _
              have hrel : NewRel W w1.heap.size w1 (.pointer (some ⟨gA, 0, none⟩)) (v57.setRow gA (wcells W ge gt gh gM)) := newRel_of XA XM DD hgA hgM hE.out hTl.out hHd.out
              clear hHeld XA XM DD XZ hA hM hD hX hE hTl hHd
              go_wp2_with fail
              go_meet
              case rel => exact hrel
          refine AllReadyH.cons (o := ⟨some 25, _, _, _, _, _⟩) rfl (fun K hK => ?_) AllReadyH.nil
          · go_simp
            (go_at_call 42; (with_reducible refine (cH _ hD.out).mono ?_); rintro e v58 ⟨⟨gh, rfl, hi, hv, hn, hr, hc, hb⟩, hB⟩)
            have hX := Lib.hid (hX.out.bel hB)
            have hA := Lib.hid (hA.out.bel hB)
            have hE := Lib.hid (hE.out.bel hB)
            have hTl := Lib.hid (hTl.out.bel hB)
            have hHd : Hid (CpG W.hd v58 gh w1.heap.size) := Lib.hid ⟨hi, hv, hn, hr, hc, fun x hx => Nat.le_trans hD.out.size (hb x hx)⟩
            have hD := Lib.hid (below_two hD.out hB)
            clear hi hv hn hr hc hb hB
            (try go_wp2_with fail)
            refine hK.out _ _ ?_ (fun hNew => ?_)
            · ((try dsimp only); exact box_wt hX.out)
            clear hK K hHeld
            have hHeld := hNew
            clear hNew
            try simp only [Act.put, List.setIfInBounds_toArray, List.set_cons_zero, List.set_cons_succ]
            refine wpAnyH_ready (rs := [8]) (by kernel_rfl) (by simp) ?_
            refine AllReadyH.cons (o := ⟨some 19, _, _, _, _, _⟩) rfl (fun K hK => ?_) AllReadyH.nil
            · go_simp
              have hX2 := Lib.hid (hX.out.alloc (ZB W.bn))
              refine hK.out _ _ ?_ (fun hNew => ?_)
              · ((try dsimp only); exact box_wt hX2.out)
              clear hK K hHeld
              have hHeld := hNew
              clear hNew
              try simp only [Act.put, List.setIfInBounds_toArray, List.set_cons_zero, List.set_cons_succ]
              obtain ⟨gM, hg0⟩ : ∃ g, v58.heap.size = g := ⟨_, rfl⟩
              obtain ⟨v59, hw0⟩ : ∃ v, v58.alloc (ZB W.bn) = v := ⟨_, rfl⟩
              have hgM : w1.heap.size ≤ gM := by rw [← hg0]; exact hD.out.size
              have hM : Hid (Box v59 gM 66 (madeCells zblk (W.bn * 20))) := Lib.hid (by rw [← hw0, ← hg0]; exact box_new _ _ _)
              have hA := Lib.hid (hw0 ▸ hA.out.alloc (ZB W.bn))
              have hbb : Below v58.heap.size v58 v59 := by rw [← hw0]; exact (Below.refl _ _).alloc (Nat.le_refl _) _
              have hE := Lib.hid (hE.out.bel hbb)
              have hTl := Lib.hid (hTl.out.bel hbb)
              have hHd := Lib.hid (hHd.out.bel hbb)
              have hD := Lib.hid (below_two hD.out hbb)
              have hX : Hid (Box v59 w.heap.size 50 W.cells) := Lib.hid (hw0 ▸ hX2.out)
              have hw1 := hw0
              unfold ZB at hw1
              (try rw [hw1])
              (try rw [hw0])
              (try rw [hg0])
              clear hw0 hw1 hg0 hX2 hbb hHeld
              have hHeld : WtCells v59 w.heap.size W := box_wt hX.out
              refine wpAnyH_take (i := 15) (oi := ⟨some 26, _, _, _, _, _⟩) (v := ?_) rfl (by kernel_rfl) (by kernel_rfl) (by kernel_rfl) (fun _ _ _ h => h) (Or.inl ⟨by rfl, ?hy30⟩) hHeld ?rest30
              case hy30 => (intro W1 hSw; (try dsimp only at hSw); go_simp; (try with_reducible rfl))
              simp only [Act.put, List.setIfInBounds_toArray, List.set_cons_zero, List.set_cons_succ]
              refine wpAnyH_ready (rs := [17]) (by kernel_rfl) (by simp) ?_
              refine AllReadyH.cons (o := ⟨none, _, _, _, _, _⟩) rfl (fun K hK => ?_) AllReadyH.nil
              have XA := hA.out
              have XM := hM.out
              have DD := hD.out
              refine wp_store_row 50 _ _ rfl gA (wcells W ge gt gh gM) rfl rfl 50 _ XA (by kernel_rfl) rfl (wcells_one W ge gt gh gM) ?_
              have hAne : w.heap.size ≠ gA := by omega
              have XZ := hX.out.setRow_other (cs' := wcells W ge gt gh gM) hAne
              refine hK.out _ _ ?_ (fun hNew => ?_)
              · ((try dsimp only); exact box_wt XZ)
              clear hK K hHeld
              have hHeld := hNew
              clear hNew
              refine wpAnyH_done (by kernel_rfl) ?_ _
              have hrel : NewRel W w1.heap.size w1 (.pointer (some ⟨gA, 0, none⟩)) (v59.setRow gA (wcells W ge gt gh gM)) := newRel_of XA XM DD hgA hgM hE.out hTl.out hHd.out
              clear hHeld XA XM DD XZ hA hM hD hX hE hTl hHd
              go_wp2_with fail
              go_meet
              case rel => exact hrel
      refine AllReadyH.cons (o := ⟨some 19, _, _, _, _, _⟩) rfl (fun K hK => ?_) AllReadyH.nil
      · go_simp
        have hX2 := Lib.hid (hX.out.alloc (ZB W.bn))
        refine hK.out _ _ ?_ (fun hNew => ?_)
        · ((try dsimp only); exact box_wt hX2.out)
        clear hK K hHeld
        have hHeld := hNew
        clear hNew
        try simp only [Act.put, List.setIfInBounds_toArray, List.set_cons_zero, List.set_cons_succ]
        obtain ⟨gM, hg0⟩ : ∃ g, v50.heap.size = g := ⟨_, rfl⟩
        obtain ⟨v60, hw0⟩ : ∃ v, v50.alloc (ZB W.bn) = v := ⟨_, rfl⟩
        have hgM : w1.heap.size ≤ gM := by rw [← hg0]; exact hD.out.size
        have hM : Hid (Box v60 gM 66 (madeCells zblk (W.bn * 20))) := Lib.hid (by rw [← hw0, ← hg0]; exact box_new _ _ _)
        have hA := Lib.hid (hw0 ▸ hA.out.alloc (ZB W.bn))
        have hbb : Below v50.heap.size v50 v60 := by rw [← hw0]; exact (Below.refl _ _).alloc (Nat.le_refl _) _
        have hD := Lib.hid (below_two hD.out hbb)
        have hX : Hid (Box v60 w.heap.size 50 W.cells) := Lib.hid (hw0 ▸ hX2.out)
        have hw1 := hw0
        unfold ZB at hw1
        (try rw [hw1])
        (try rw [hw0])
        (try rw [hg0])
        clear hw0 hw1 hg0 hX2 hbb hHeld
        have hHeld : WtCells v60 w.heap.size W := box_wt hX.out
        refine wpAnyH_ready (rs := [4]) (by kernel_rfl) (by simp) ?_
        refine AllReadyH.cons (o := ⟨some 15, _, _, _, _, _⟩) rfl (fun K hK => ?_) AllReadyH.nil
        · go_simp
          (go_at_call 42; (with_reducible refine (cE _ hD.out).mono ?_); rintro e v61 ⟨⟨ge, rfl, hi, hv, hn, hr, hc, hb⟩, hB⟩)
          have hX := Lib.hid (hX.out.bel hB)
          have hM := Lib.hid (hM.out.bel hB)
          have hA := Lib.hid (hA.out.bel hB)
          have hE : Hid (CpG W.e v61 ge w1.heap.size) := Lib.hid ⟨hi, hv, hn, hr, hc, fun x hx => Nat.le_trans hD.out.size (hb x hx)⟩
          have hD := Lib.hid (below_two hD.out hB)
          clear hi hv hn hr hc hb hB
          (try go_wp2_with fail)
          refine hK.out _ _ ?_ (fun hNew => ?_)
          · ((try dsimp only); exact box_wt hX.out)
          clear hK K hHeld
          have hHeld := hNew
          clear hNew
          try simp only [Act.put, List.setIfInBounds_toArray, List.set_cons_zero, List.set_cons_succ]
          refine wpAnyH_ready (rs := [11]) (by kernel_rfl) (by simp) ?_
          refine AllReadyH.cons (o := ⟨some 22, _, _, _, _, _⟩) rfl (fun K hK => ?_) AllReadyH.nil
          · go_simp
            (go_at_call 38; (with_reducible refine (cT _ hD.out).mono ?_); rintro e v62 ⟨⟨gt, rfl, hi, hv, hn, hb⟩, hB⟩)
            have hX := Lib.hid (hX.out.bel hB)
            have hM := Lib.hid (hM.out.bel hB)
            have hA := Lib.hid (hA.out.bel hB)
            have hE := Lib.hid (hE.out.bel hB)
            have hTl : Hid (CpR W.t v62 gt w1.heap.size) := Lib.hid ⟨hi, hv, hn, fun x hx => Nat.le_trans hD.out.size (hb x hx)⟩
            have hD := Lib.hid (below_two hD.out hB)
            clear hi hv hn hb hB
            (try go_wp2_with fail)
            refine hK.out _ _ ?_ (fun hNew => ?_)
            · ((try dsimp only); exact box_wt hX.out)
            clear hK K hHeld
            have hHeld := hNew
            clear hNew
            try simp only [Act.put, List.setIfInBounds_toArray, List.set_cons_zero, List.set_cons_succ]
            refine wpAnyH_ready (rs := [14]) (by kernel_rfl) (by simp) ?_
            refine AllReadyH.cons (o := ⟨some 25, _, _, _, _, _⟩) rfl (fun K hK => ?_) AllReadyH.nil
            · go_simp
              (go_at_call 42; (with_reducible refine (cH _ hD.out).mono ?_); rintro e v63 ⟨⟨gh, rfl, hi, hv, hn, hr, hc, hb⟩, hB⟩)
              have hX := Lib.hid (hX.out.bel hB)
              have hM := Lib.hid (hM.out.bel hB)
              have hA := Lib.hid (hA.out.bel hB)
              have hE := Lib.hid (hE.out.bel hB)
              have hTl := Lib.hid (hTl.out.bel hB)
              have hHd : Hid (CpG W.hd v63 gh w1.heap.size) := Lib.hid ⟨hi, hv, hn, hr, hc, fun x hx => Nat.le_trans hD.out.size (hb x hx)⟩
              have hD := Lib.hid (below_two hD.out hB)
              clear hi hv hn hr hc hb hB
              (try go_wp2_with fail)
              refine hK.out _ _ ?_ (fun hNew => ?_)
              · ((try dsimp only); exact box_wt hX.out)
              clear hK K hHeld
              have hHeld := hNew
              clear hNew
              try simp only [Act.put, List.setIfInBounds_toArray, List.set_cons_zero, List.set_cons_succ]
              refine wpAnyH_take (i := 15) (oi := ⟨some 26, _, _, _, _, _⟩) (v := ?_) rfl (by kernel_rfl) (by kernel_rfl) (by kernel_rfl) (fun _ _ _ h => h) (Or.inl ⟨by rfl, ?hy31⟩) hHeld ?rest31
              case hy31 => (intro W1 hSw; (try dsimp only at hSw); go_simp; (try with_reducible rfl))
              simp only [Act.put, List.setIfInBounds_toArray, List.set_cons_zero, List.set_cons_succ]
              refine wpAnyH_ready (rs := [17]) (by kernel_rfl) (by simp) ?_
              refine AllReadyH.cons (o := ⟨none, _, _, _, _, _⟩) rfl (fun K hK => ?_) AllReadyH.nil
              have XA := hA.out
              have XM := hM.out
              have DD := hD.out
              refine wp_store_row 50 _ _ rfl gA (wcells W ge gt gh gM) rfl rfl 50 _ XA (by kernel_rfl) rfl (wcells_one W ge gt gh gM) ?_
              have hAne : w.heap.size ≠ gA := by omega
              have XZ := hX.out.setRow_other (cs' := wcells W ge gt gh gM) hAne
              refine hK.out _ _ ?_ (fun hNew => ?_)
              · ((try dsimp only); exact box_wt XZ)
              clear hK K hHeld
              have hHeld := hNew
              clear hNew
              refine wpAnyH_done (by kernel_rfl) ?_ _
              have hrel : NewRel W w1.heap.size w1 (.pointer (some ⟨gA, 0, none⟩)) (v63.setRow gA (wcells W ge gt gh gM)) := newRel_of XA XM DD hgA hgM hE.out hTl.out hHd.out
              clear hHeld XA XM DD XZ hA hM hD hX hE hTl hHd
              go_wp2_with fail
              go_meet
              case rel => exact hrel
  case rest =>
    obtain ⟨ge, gh, gt, gA, gM, rfl, hA, hM, hne, XA, XM, hE, hTl, hHd, hD⟩ := hcut
    have hc9 := (box_wt (XW1.out.bel hD.out)).2.2.2.2.2.2.2.2.2.1
    have HBK := Lib.hid (HIN1.out.2.2.2.1.bel hD.out)
    have C0 := Lib.hid (cop_start XM.out)
    have hbn16 : W.bn ≤ 16 := by rw [HBN.out]; exact hl16
    obtain ⟨bn, hbne⟩ : ∃ bn, W.bn = bn := ⟨_, rfl⟩
    have HBNE := Lib.hid hbne
    rw [hbne] at hc9 hbn16
    clear XM hbne cE cH cT hmk
    have hAw : w1.heap.size ≤ gA := hA
    go_wp2_with fail
    go_loopw [30] (fun i wr => ∃ (k : Nat) (cs : Array Value) (ds : List Bk7), k ≤ bn ∧ i = .int .i64 k ∧ Hid (Cop W wr gM k cs ds) ∧ Hid (Box wr gA 50 (wcells W ge gt gh gM)) ∧ Hid (CpG W.e wr ge w1.heap.size) ∧ Hid (CpR W.t wr gt w1.heap.size) ∧ Hid (CpG W.hd wr gh w1.heap.size) ∧ Hid (Below w1.heap.size w1 wr) ∧ Hid (∀ c ∈ ds, Bk7.Own w1.heap.size c)) (fun i _ => bn - (intOf i).toNat)
    case atStart => exact ⟨0, _, [], by omega, rfl, C0, XA, hE, hTl, hHd, hD, Lib.hid (by simp)⟩
    case round =>
      clear XA hE hTl hHd hD C0 hc9 HBK
      obtain ⟨k, cs, ds, hk, rfl, hC, XA, hE, hTl, hHd, hD, hOw⟩ := hrel
      have hbs := HIN1.out.2.2.2.1.bel hD.out
      have HC0lt := hC.out.box.lt
      have z9 : wr.cell? ⟨gA, 9, none⟩ = some (.slice (some ⟨gM, 0, none⟩) bn bn) := by rw [← HBNE.out]; exact XA.out.cell 9
      by_cases hlt : k < bn
      · obtain ⟨bg, bo, b, hba, hbg, hcb, hbk, hinr⟩ := hbs.at_ (i := k) (by rw [HBNE.out]; exact hlt)
        have hbm : b ∈ W.bs := by
          rw [← hbk.out, List.getD_eq_getElem?_getD, List.getElem?_eq_getElem (by rw [hbs.1, HBNE.out]; exact hlt)]
          exact List.getElem_mem _
        have HSM := Lib.hid (small_of OK.out (HBKS.out b hbm))
        have HCB := Lib.hid hcb
        have HGA : wr.heap.size > gA := XA.out.lt
        rw [hba]
        clear hcb hbm hbs
        go_upto_region 7 with (first
          | (refine wpList_load_part (o := ⟨some 34, _, _, _, _, _⟩) rfl 66 _ rfl bg (bo + k * 20) rfl b.cells _ HCB.out Tryz.underlying66 rfl (by kernel_rfl) ?_)
          | (refine wpList_store_row (o := ⟨none, .store _ _ _, _, _, _, _⟩) rfl 66 _ _ rfl wr.heap.size b.cells rfl rfl 66 _ (box_new _ _ _) (by kernel_rfl) rfl (bk_one b) ?_))
        simp only [Act.put]
        generalize hwA : World.setRow _ _ _ = wA
        have XB : Box wA wr.heap.size 66 b.cells := by rw [← hwA]; exact (box_new _ _ _).setRow
        have hbA : Below wr.heap.size wr wA := by rw [← hwA]; exact below_setRow ((Below.refl _ _).alloc (Nat.le_refl _) _) (Nat.le_refl _) (by simp)
        clear hwA
        have hbd : Below wr.heap.size wr wA.drew := hbA.drew
        have XBd : Box wA.drew wr.heap.size 66 b.cells := XB
        have R0 : wA.drew.rangeAt wr.heap.size 0 b.cells.toList := rangeAt_box XBd
        have S0 : wA.drew.cell? ⟨gA, 9, none⟩ = some (.slice (some ⟨gM, 0, none⟩) bn bn) := cell_kept6 hbd z9
        have cB := block8 b wA.drew (hinr.bel hbd) HSM.out
        have HC := Lib.hid (hC.out.bel hbd)
        have HXA := Lib.hid (XA.out.bel hbd)
        have HE := Lib.hid (hE.out.bel hbd)
        have HT := Lib.hid (hTl.out.bel hbd)
        have HH := Lib.hid (hHd.out.bel hbd)
        have HD := Lib.hid (below_two hD.out hbd)
        clear XB hbA hbd hinr hC XA hE hTl hHd hD
        refine wp_region_held_drew (S := fun w' => w'.cell? ⟨gA, 9, none⟩ = some (.slice (some ⟨gM, 0, none⟩) bn bn) ∧ w'.rangeAt wr.heap.size 0 b.cells.toList) (by kernel_rfl) ?_ (fun hHeld => ?_)
        · exact ⟨S0, R0⟩
        refine wpAnyH_take (i := 0) (oi := ⟨some 35, _, _, _, _, _⟩) (v := ?_) rfl (by kernel_rfl) (by kernel_rfl) (by kernel_rfl) (fun _ _ _ h => h) (Or.inl ⟨by rfl, ?hy101⟩) hHeld ?rest101
        case hy101 => (intro W1 hSw; (try dsimp only at hSw); go_simp; (try with_reducible rfl))
        simp only [Act.put, List.setIfInBounds_toArray, List.set_cons_zero, List.set_cons_succ]
        refine wpAnyH_take (i := 1) (oi := ⟨some 36, _, _, _, _, _⟩) (v := ?_) rfl (by kernel_rfl) (by kernel_rfl) (by kernel_rfl) (fun _ _ _ h => h) (Or.inl ⟨by rfl, ?hy102⟩) hHeld ?rest102
        case hy102 => (intro W1 hSw; (try dsimp only at hSw); go_simp; (try with_reducible rfl))
        simp only [Act.put, List.setIfInBounds_toArray, List.set_cons_zero, List.set_cons_succ]
        refine wpAnyH_take (i := 2) (oi := ⟨some 37, _, _, _, _, _⟩) (v := ?_) rfl (by kernel_rfl) (by kernel_rfl) (by kernel_rfl) (fun _ _ _ h => h) (Or.inl ⟨by rfl, ?hy103⟩) hHeld ?rest103
        case hy103 => (intro W1 hSw; (try dsimp only at hSw); go_simp; (try with_reducible rfl))
        simp only [Act.put, List.setIfInBounds_toArray, List.set_cons_zero, List.set_cons_succ]
        refine wpAnyH_take (i := 3) (oi := ⟨some 38, _, _, _, _, _⟩) (v := .agg b.cells) rfl (by kernel_rfl) (by kernel_rfl) (by kernel_rfl) (fun _ _ _ h => h) (yieldsIf_load_box (by rfl) 66 _ rfl wr.heap.size rfl b.cells (fun _ h => h.2) Tryz.underlying66 rfl (by kernel_rfl)) hHeld ?_
        simp only [Act.put, List.setIfInBounds_toArray, List.set_cons_zero, List.set_cons_succ]
        refine wpAnyH_ready (rs := [4]) (by kernel_rfl) (by simp) ?_
        refine AllReadyH.cons (o := ⟨some 39, _, _, _, _, _⟩) rfl (fun K hK => ?_) AllReadyH.nil
        go_simp
        (go_at_call 43; (with_reducible refine cB.mono ?_); rintro e wb ⟨⟨a, rfl, hia, hsa, hoa⟩, hb1⟩)
        have R1 := rangeAt_box (XBd.bel hb1)
        have S1 := cell_kept6 hb1 S0
        have HIA := Lib.hid hia
        have HOW : Hid (∀ c ∈ ds ++ [a], Bk7.Own w1.heap.size c) := Lib.hid (fun c hc => by
          rcases List.mem_append.1 hc with h1 | h1
          · exact hOw.out c h1
          · obtain rfl := List.mem_singleton.1 h1
            exact Bk7.Own.mono hoa HD.out.size)
        clear hOw
        have HSA := Lib.hid hsa
        have HC := Lib.hid (HC.out.bel hb1)
        have HXA := Lib.hid (HXA.out.bel hb1)
        have HE := Lib.hid (HE.out.bel hb1)
        have HT := Lib.hid (HT.out.bel hb1)
        have HH := Lib.hid (HH.out.bel hb1)
        have HD := Lib.hid (below_two HD.out hb1)
        have XBb := XBd.bel hb1
        clear hia hsa hoa hb1 cB
        (try go_wp2_with fail)
        refine hK.out _ _ ?_ (fun hNew => ?_)
        · ((try dsimp only); first | exact ⟨S0, R0⟩ | exact ⟨S1, R1⟩ | exact ⟨S2, R2⟩)
        clear hK K hHeld
        have hHeld := hNew
        clear hNew
        try simp only [Act.put, List.setIfInBounds_toArray, List.set_cons_zero, List.set_cons_succ]
        refine wpAnyH_take (i := 5) (oi := ⟨some 40, _, _, _, _, _⟩) (v := ?_) rfl (by kernel_rfl) (by kernel_rfl) (by kernel_rfl) (fun _ _ _ h => h) (Or.inl ⟨by rfl, ?hy105⟩) hHeld ?rest105
        case hy105 => (intro W1 hSw; (try dsimp only at hSw); go_simp; (try with_reducible rfl))
        simp only [Act.put, List.setIfInBounds_toArray, List.set_cons_zero, List.set_cons_succ]
        refine wpAnyH_ready (rs := [6]) (by kernel_rfl) (by simp) ?_
        refine AllReadyH.cons (o := ⟨none, _, _, _, _, _⟩) rfl (fun K hK => ?_) AllReadyH.nil
        rw [if_pos (by rfl)]
        have hfit : k * 20 + a.cells.size ≤ cs.size := by rw [HC.out.size, HBNE.out]; show k * 20 + 20 ≤ bn * 20; omega
        refine wp_store_part 66 _ _ rfl gM (k * 20) a.cells rfl rfl 66 cs HC.out.box (by kernel_rfl) hfit (bk_one _) ?_
        have hbut : But gM wb (wb.setRow gM (mid cs (k * 20) a.cells)) := fun i hi hne => (grownBy_setRow wb gM _).block i hi (by simpa using hne)
        have HC2 := Lib.hid (HC.out.step (by rw [HBNE.out]; exact hlt) HIA.out (by rw [hbk.out]; exact HSA.out))
        have HX2 := Lib.hid (HXA.out.setRow_other (g' := gM) (cs' := mid cs (k * 20) a.cells) hne)
        have HE2 : Hid (CpG W.e (wb.setRow gM (mid cs (k * 20) a.cells)) ge w1.heap.size) := Lib.hid ⟨gr_but HC.out.box HC.out.no8 hbut HE.out.1, HE.out.2⟩
        have HT2 : Hid (CpR W.t (wb.setRow gM (mid cs (k * 20) a.cells)) gt w1.heap.size) := Lib.hid ⟨rw_but HC.out.box HC.out.no8 hbut HT.out.1, HT.out.2⟩
        have HH2 : Hid (CpG W.hd (wb.setRow gM (mid cs (k * 20) a.cells)) gh w1.heap.size) := Lib.hid ⟨gr_but HC.out.box HC.out.no8 hbut HH.out.1, HH.out.2⟩
        have HD2 := Lib.hid (below_setRow (g := gM) (cs := mid cs (k * 20) a.cells) HD.out hM HD.out.size)
        have hgne : wr.heap.size ≠ gM := by have := HC0lt; omega
        have R2 := rangeAt_box (XBb.setRow_other (g' := gM) (cs' := mid cs (k * 20) a.cells) hgne)
        have S2 : (wb.setRow gM (mid cs (k * 20) a.cells)).cell? ⟨gA, 9, none⟩ = some (.slice (some ⟨gM, 0, none⟩) bn bn) := by rw [← HBNE.out]; exact HX2.out.cell 9
        refine hK.out _ _ ?_ (fun hNew => ?_)
        · ((try dsimp only); first | exact ⟨S0, R0⟩ | exact ⟨S1, R1⟩ | exact ⟨S2, R2⟩)
        clear hK K hHeld hNew
        refine wpAnyH_done (by kernel_rfl) ?_ _
        clear R0 R1 R2 S0 S1 S2 XBd XBb HC HXA HE HT HH HD HIA HSA hfit hbut hgne
        go_wp2
        go_roundw
        case rel => exact ⟨k + 1, _, ds ++ [a], by omega, by go_num, HC2, HX2, HE2, HT2, HH2, HD2, HOW⟩
        case measure => simp [intOf]; omega
      · obtain rfl : k = bn := by omega
        have hall : ds.length = W.bs.length := by rw [hC.out.len, hbs.1, HBNE.out]
        have hwt : wtB s (newW W ge gh gt gM ds) = true := newW_wt hall (fun i hi => hC.out.same i (by rw [← hC.out.len]; exact hi)) HW.out hE.out hTl.out hHd.out
        have hnums : (newW W ge gh gt gM ds).nums s = W.nums s := by
          unfold Wt7.nums newW
          rw [hE.out.2.1, hTl.out.2.1, hHd.out.2.1, same_map hall (fun i hi => hC.out.same i (by rw [← hC.out.len]; exact hi))]
        have hbk : BksAt wr (some ⟨gM, 0, none⟩) W.bn ds := ⟨by rw [hC.out.len, HBNE.out], by rw [HBNE.out]; omega, hC.out.inn, fun _ => ⟨gM, 0, rfl, hC.out.box.lt, fun i hi j hj => by
          rw [Nat.zero_add, hC.out.box.cell]; exact hC.out.cells i (by rw [← HBNE.out]; exact hi) j hj⟩⟩
        have hin : (newW W ge gh gt gM ds).In wr := ⟨hE.out.1, hHd.out.1, hTl.out.1, hbk, Nat.le_refl _, by show W.bn ≤ _; rw [HBNE.out]; omega, HIN1.out.2.2.2.2.2.2⟩
        have HFR : Hid (WFresh w1.heap.size (newW W ge gh gt gM ds)) := Lib.hid ⟨hE.out.2.2.2.2.2, hHd.out.2.2.2.2.2, hTl.out.2.2.2, fun x hx => by cases hx; exact hM, hOw.out⟩
        have HWT := Lib.hid hwt
        have HNU := Lib.hid hnums
        have HIN2 := Lib.hid hin
        have XA2 := XA.out
        unfold wcells at XA2
        have HD := Lib.hid hD.out
        clear hall hwt hnums hbk hin hC hE hTl hHd hD hbs XA z9
        go_wp2_with (refine wpList_load_row (o := ⟨some 42, _, _, _, _, _⟩) rfl 50 _ rfl gA rfl 50 _ (0, 0) _ XA2 Tryz.underlying50 rfl (by kernel_rfl) ?_)
        go_ret2
        obtain ⟨q1, q2, q3, q4, q5, q6⟩ := H6.out
        have hB9 := below_two HB1.out HD.out
        exact ⟨⟨wr.heap.size, newW W ge gh gt gM ds, rfl, hB9.size, ⟨box_new wr _ _, HIN2.out.bel ((Below.refl _ _).alloc (Nat.le_refl _) _), q1, q2, q3, q4, q5, q6, HWT.out⟩, HNU.out, HFR.out.mono HB1.out.size⟩, hB9.alloc hB9.size _⟩

end Go.Proofs.YtoeihigdndkjeaaGreatDoor
