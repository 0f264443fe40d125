/-
  The document's Tick: contract.
-/
import Derived.Test.YtkinbngikmcpeaaDRaw16
import Derived.Test.YtkinbngikmcpeaaEpW16
import Derived.Deep.CutRange
namespace Go.Proofs.Ytkinbngikmcpeaa
open Go.RowKit Go.Maps
set_option linter.unusedVariables false

/-- Tick's loop, k bodies through -/
def DTickI (w : World) (db base : Nat) (vo ve : Value) (ys : List Dy16) (W Sp R : Nat) (st : Lk16) (k : Nat) (v : Value) (wr : World) : Prop :=
  ∃ ss xs, SegsAt wr w.heap.size v ss ∧ ss.map sgOf = segsL st.ep st.acked st.got (sends W Sp (st.out.take k)) ∧ ss.length ≤ k ∧ DRaw wr db base vo ve W Sp R (midSt W Sp st k) xs ys ∧ MovesD w wr db
/-- a body one tick older -/
def age1 (x : Wt16) : Int := if x.s < 0 then x.s else x.s + 1
/-- the same, the body itself one tick older -/
def DAged (w : World) (db base : Nat) (vo ve : Value) (ys : List Dy16) (W Sp R : Nat) (st : Lk16) (k : Nat) (v : Value) (wr : World) : Prop :=
  ∃ ss xs, ∃ hk : k < st.out.length, SegsAt wr w.heap.size v ss ∧ ss.map sgOf = segsL st.ep st.acked st.got (sends W Sp (st.out.take k)) ∧ ss.length ≤ k ∧ DRaw wr db base vo ve W Sp R { midSt W Sp st k with out := (midSt W Sp st k).out.set k ⟨age1 st.out[k], st.out[k].b⟩ } xs ys ∧ MovesD w wr db
theorem DAged.bel {w wr w' : World} {db base : Nat} {vo ve : Value} {ys : List Dy16} {W Sp R : Nat} {st : Lk16} {k : Nat} {v : Value} (h : DAged w db base vo ve ys W Sp R st k v wr) (hb : Below wr.heap.size wr w') : DAged w db base vo ve ys W Sp R st k v w' := by
  obtain ⟨ss, xs, hk, h1, h2, h3, h4, h5⟩ := h
  exact ⟨ss, xs, hk, h1.bel hb, h2, h3, h4.bel hb, h5.trans (MovesD.of_below hb (by have := h4.lt; omega))⟩
theorem step_age1 {W Sp k : Nat} {x : Wt16} (hg : goes16 W Sp k x = false) : (step16 W Sp k x).s = age1 x := by
  unfold step16 age1
  rw [if_neg (by rw [hg]; simp)]
  split <;> rfl
theorem mid_all {W Sp : Nat} {st : Lk16} : { midSt W Sp st st.out.length with owes := false } = (tickE W Sp st).2 := by
  unfold tickE midSt
  simp only [List.take_length, List.drop_length, List.append_nil]
  rw [← tickL_len W Sp st.out, List.take_length]
theorem dtick_fin {w : World} {db base : Nat} {vo ve : Value} {W Sp R : Nat} {st : Lk16} {xs : List Db16} {ys : List Dy16} (hg : Good16 W Sp R st) (h : DRaw w db base vo ve W Sp R (midSt W Sp st st.out.length) xs ys) : DLk (w.setCell ⟨db, 10, none⟩ (.bool false)) db base W Sp R (tickE W Sp st).2 ∧ MovesD w (w.setCell ⟨db, 10, none⟩ (.bool false)) db := by
  obtain ⟨h1, h2⟩ := h.own (w' := w.setCell ⟨db, 10, none⟩ (.bool false)) (st' := { midSt W Sp st st.out.length with owes := false }) (h.box.set 10 _) (grown_set _ _ _ _) rfl rfl rfl
  rw [mid_all] at h1
  exact ⟨⟨vo, ve, xs, ys, h1.done hg.tick⟩, h2⟩
def DTickE (w : World) (db base W Sp R : Nat) (st : Lk16) (e : Ending) (w' : World) : Prop := ∃ v xs, e = .returned v ∧ SegsAt w' w.heap.size v xs ∧ xs.map sgOf = (tickE W Sp st).1 ∧ DLk w' db base W Sp R (tickE W Sp st).2 ∧ MovesD w w' db
set_option maxHeartbeats 1600000 in
set_option maxRecDepth 100000 in
theorem dtick16 {w : World} {db base : Nat} {W Sp R : Nat} {st : Lk16} (hd : DLk w db base W Sp R st) (hbd : st.acked + st.out.length ≤ 1000000000) :
    Calls Try.prog 15 #[.pointer (some ⟨db, 0, none⟩)] w fun e w' => DTickE w db base W Sp R st e w' := by
  obtain ⟨vo, ve, xs, ys, h⟩ := hd
  obtain ⟨⟨va, vc, hvo⟩, ea, ec, hve⟩ := h.shape
  rw [h.lens.1] at hvo
  have H0 := Lib.hid h
  have HVO := Lib.hid hvo
  have HBD := Lib.hid hbd
  have HG := Lib.hid h.good
  obtain ⟨n, hn⟩ : ∃ n, st.out.length = n := ⟨_, rfl⟩
  have HN := Lib.hid hn
  have hn9 : n ≤ 1000000000 := by omega
  have HI0 : Hid (DTickI w db base vo ve ys W Sp R st 0 (.slice none 0 0) w) := Lib.hid ⟨[], xs, segs_nil _ _, by simp [sends, segsL], Nat.le_refl _, by rw [mid_zero]; exact H0.out.raw, MovesD.of_below (Below.refl _ _) (by have := H0.out.lt; omega)⟩
  have HC : Hid (∀ k, k ≤ n → ∀ v wr, DTickI w db base vo ve ys W Sp R st k v wr → wr.cell? ⟨db, 8, none⟩ = some (.slice va n vc)) := Lib.hid (fun k hk v wr hI => by
    obtain ⟨_, xs1, _, _, _, hR, _⟩ := hI
    have := hR.box.cell 8
    rw [← HN.out, ← HVO.out]
    exact this)
  clear h hvo hve hbd hn
  go_enter Try.func15, Try.ntmps15
  go_wp2_with fail
  go_loopw [4, 3] (fun i v wr => ∃ k : Nat, k ≤ n ∧ i = .int .i64 k ∧ Hid (DTickI w db base vo ve ys W Sp R st k v wr)) (fun i _ _ => n - (intOf i).toNat)
  case atStart => exact ⟨0, by omega, rfl, HI0⟩
  case round =>
    obtain ⟨k, hk, rfl, HJ⟩ := hrel
    have c8 := HC.out k hk _ _ HJ.out
    by_cases hlt : k < n
    · have hlt2 : (k : Int) < (n : Int) := by omega
      have hkn : k < st.out.length := by have := HN.out; omega
      obtain ⟨ss, xs1, hS, hss, hsl, hR, hM⟩ := HJ.out
      have hml := mid_len (W := W) (Sp := Sp) (st := st) (k := k) (by omega)
      obtain ⟨g, c, q, hv, hc1, hc2, hqi, hqn, hqv, z0, z1, z2, zf, hgb⟩ := hR.body (k := k) (by omega)
      have hat : (midSt W Sp st k).out[k]'(by omega) = st.out[k] := (midS_at (by omega) hkn).trans (if_neg (by omega))
      rw [hat] at z1 hqv
      have hvv := hv
      rw [HVO.out, hml, HN.out] at hvv
      simp only [Value.slice.injEq] at hvv
      obtain ⟨rfl, -, rfl⟩ := hvv
      have hages := HG.out.ages k hkn
      have hsp := HG.out.pm.2.1
      have hw5 : wr.cell? ⟨db, 5, none⟩ = some (.int .i64 st.acked) := hR.box.cell 5
      have hw0 : wr.cell? ⟨db, 0, none⟩ = some (.int .i64 W) := hR.box.cell 0
      have hw1 : wr.cell? ⟨db, 1, none⟩ = some (.int .i64 Sp) := hR.box.cell 1
      have hst : Hid (DRaw wr db base vo ve W Sp R (midSt W Sp st k) xs1 ys ∧ (∃ hl : k < (midSt W Sp st k).out.length, (midSt W Sp st k).out[k] = st.out[k]) ∧ vo = .slice (some ⟨g, 0, none⟩) (midSt W Sp st k).out.length vc) := Lib.hid ⟨hR, ⟨by omega, hat⟩, hv⟩
      have HSX := Lib.hid (And.intro hS (And.intro hss (And.intro hsl hM)))
      have HQ := Lib.hid (And.intro hqi (And.intro hqn hqv))
      have hnc : n ≤ vc := by rw [hml] at hc1; have := HN.out; omega
      clear hS hss hsl hR hM hml hv hqi hqn hqv hat HJ hc1
      obtain ⟨x, hx⟩ : ∃ x, st.out[k] = x := ⟨_, rfl⟩
      have HX : Hid (∃ hk : k < st.out.length, st.out[k] = x) := Lib.hid ⟨hkn, hx⟩
      rw [hx] at z1 hages
      obtain ⟨s, hs⟩ : ∃ s, x.s = s := ⟨_, rfl⟩
      have HSS := Lib.hid hs
      rw [hs] at z1 hages
      clear hx hs
      go_upto_if 22 with fail
      go_cut [] from 5 to 141 (fun wx => Hid (DAged w db base vo ve ys W Sp R st k u3 wx))
      case first =>
        by_cases hneg : s < 0
        · have h0 : decide (0 ≤ s) = false := decide_eq_false (by omega)
          have HAG : Hid (DAged w db base vo ve ys W Sp R st k u3 wr) := Lib.hid (by
            obtain ⟨hk', hx⟩ := HX.out
            obtain ⟨hR, ⟨hl, hat⟩, hv⟩ := hst.out
            obtain ⟨hS, hss, hsl, hM⟩ := HSX.out
            refine ⟨ss, xs1, hk', hS, hss, hsl, ?_, hM⟩
            have e : (midSt W Sp st k).out.set k ⟨age1 st.out[k], st.out[k].b⟩ = (midSt W Sp st k).out := by
              have e2 : (⟨age1 st.out[k], st.out[k].b⟩ : Wt16) = (midSt W Sp st k).out[k] := by
                rw [hat, hx]; unfold age1; rw [if_pos (by rw [HSS.out]; exact hneg)]
              rw [e2, List.set_getElem_self]
            rw [e]
            exact hR)
          clear hneg hages hsp
          simp only [h0]
          go_wp2_with fail
          go_meet
          case rel => exact HAG
        · have h0 : 0 ≤ s := by omega
          have hwr : IntKind.i64.wrap (s + 1) = s + 1 := IntWalk.i64_in _ (by omega)
          have HAG : Hid (DAged w db base vo ve ys W Sp R st k u3 (wr.setCell ⟨g, k * 3 + 1, none⟩ (.int .i64 (s + 1))).drew) := Lib.hid (by
            refine DAged.bel ?_ (Below.refl _ _).drew
            obtain ⟨hk', hx⟩ := HX.out
            obtain ⟨hR, ⟨hl, hat⟩, hv⟩ := hst.out
            obtain ⟨hS, hss, hsl, hM⟩ := HSX.out
            obtain ⟨⟨xs2, h1⟩, h2⟩ := hR.age hl hv (s + 1)
            have e2 : age1 st.out[k] = s + 1 := by rw [hx]; unfold age1; rw [if_neg (by rw [HSS.out]; exact hneg), HSS.out]
            refine ⟨ss, xs2, hk', hS.movedD h2, hss, hsl, ?_, hM.trans h2⟩
            rw [hat] at h1
            rw [e2]
            exact h1)
          have h0d : decide (0 ≤ s) = true := decide_eq_true h0
          clear hneg hages hsp h0
          simp only [h0d]
          go_upto_region 6 with fail
          refine wp_region_noPanic ?_
          refine wp_region_Z (S := (fun W_ => W_.cell? ⟨db, 8, none⟩ = some (.slice (some ⟨g, 0, none⟩) n vc) ∧ W_.cell? ⟨g, k * 3 + 1, none⟩ = some (.int .i64 s))) 16 (by kernel_rfl) ?_ (fun hHeld => ?_)
          · (first | go_keep | (go_split_ands; refine ⟨?_, ?_⟩ <;> assumption))
          refine wpAnyZ_take (i := 0) (oi := ⟨some 23, _, _, _, _, _⟩) (v := ?_) rfl (by kernel_rfl) (by kernel_rfl) (by kernel_rfl) (by kernel_rfl) (fun _ _ _ h => h) (Or.inl ⟨by rfl, ?hy1⟩) hHeld ?rest1
          case hy1 => (intro W hSw; (try dsimp only at hSw); go_simp; (try with_reducible rfl))
          simp only [Act.put, List.setIfInBounds_toArray, List.set_cons_zero, List.set_cons_succ]
          refine wpAnyZ_take (i := 1) (oi := ⟨some 24, _, _, _, _, _⟩) (v := ?_) rfl (by kernel_rfl) (by kernel_rfl) (by kernel_rfl) (by kernel_rfl) (fun _ _ _ h => h) (Or.inl ⟨by rfl, ?hy2⟩) hHeld ?rest2
          case hy2 => (intro W hSw; (try dsimp only at hSw); go_simp; (try with_reducible rfl))
          simp only [Act.put, List.setIfInBounds_toArray, List.set_cons_zero, List.set_cons_succ]
          refine wpAnyZ_take (i := 2) (oi := ⟨some 25, _, _, _, _, _⟩) (v := ?_) rfl (by kernel_rfl) (by kernel_rfl) (by kernel_rfl) (by kernel_rfl) (fun _ _ _ h => h) (Or.inl ⟨by rfl, ?hy3⟩) hHeld ?rest3
          case hy3 => (intro W hSw; (try dsimp only at hSw); go_simp; (try with_reducible rfl))
          simp only [Act.put, List.setIfInBounds_toArray, List.set_cons_zero, List.set_cons_succ]
          refine wpAnyZ_take (i := 3) (oi := ⟨some 26, _, _, _, _, _⟩) (v := ?_) rfl (by kernel_rfl) (by kernel_rfl) (by kernel_rfl) (by kernel_rfl) (fun _ _ _ h => h) (Or.inl ⟨by rfl, ?hy4⟩) hHeld ?rest4
          case hy4 => (intro W hSw; (try dsimp only at hSw); go_simp; (try with_reducible rfl))
          simp only [Act.put, List.setIfInBounds_toArray, List.set_cons_zero, List.set_cons_succ]
          refine wpAnyZ_take (i := 4) (oi := ⟨some 27, _, _, _, _, _⟩) (v := ?_) rfl (by kernel_rfl) (by kernel_rfl) (by kernel_rfl) (by kernel_rfl) (fun _ _ _ h => h) (Or.inl ⟨by rfl, ?hy5⟩) hHeld ?rest5
          case hy5 => (intro W hSw; (try dsimp only at hSw); go_simp; (try with_reducible rfl))
          simp only [Act.put, List.setIfInBounds_toArray, List.set_cons_zero, List.set_cons_succ]
          refine wpAnyZ_take (i := 5) (oi := ⟨some 28, _, _, _, _, _⟩) (v := ?_) rfl (by kernel_rfl) (by kernel_rfl) (by kernel_rfl) (by kernel_rfl) (fun _ _ _ h => h) (Or.inl ⟨by rfl, ?hy6⟩) hHeld ?rest6
          case hy6 => (intro W hSw; (try dsimp only at hSw); go_simp; (try with_reducible rfl))
          simp only [Act.put, List.setIfInBounds_toArray, List.set_cons_zero, List.set_cons_succ]
          refine wpAnyZ_take (i := 6) (oi := ⟨some 29, _, _, _, _, _⟩) (v := ?_) rfl (by kernel_rfl) (by kernel_rfl) (by kernel_rfl) (by kernel_rfl) (fun _ _ _ h => h) (Or.inl ⟨by rfl, ?hy7⟩) hHeld ?rest7
          case hy7 => (intro W hSw; (try dsimp only at hSw); go_simp; (try with_reducible rfl))
          simp only [Act.put, List.setIfInBounds_toArray, List.set_cons_zero, List.set_cons_succ]
          refine wpAnyZ_take (i := 7) (oi := ⟨some 30, _, _, _, _, _⟩) (v := ?_) rfl (by kernel_rfl) (by kernel_rfl) (by kernel_rfl) (by kernel_rfl) (fun _ _ _ h => h) (Or.inl ⟨by rfl, ?hy8⟩) hHeld ?rest8
          case hy8 => (intro W hSw; (try dsimp only at hSw); go_simp; (try with_reducible rfl))
          simp only [Act.put, List.setIfInBounds_toArray, List.set_cons_zero, List.set_cons_succ]
          refine wpAnyZ_take (i := 8) (oi := ⟨some 31, _, _, _, _, _⟩) (v := ?_) rfl (by kernel_rfl) (by kernel_rfl) (by kernel_rfl) (by kernel_rfl) (fun _ _ _ h => h) (Or.inl ⟨by rfl, ?hy9⟩) hHeld ?rest9
          case hy9 => (intro W hSw; (try dsimp only at hSw); go_simp; (try with_reducible rfl))
          simp only [Act.put, List.setIfInBounds_toArray, List.set_cons_zero, List.set_cons_succ]
          refine wpAnyZ_take (i := 9) (oi := ⟨some 32, _, _, _, _, _⟩) (v := ?_) rfl (by kernel_rfl) (by kernel_rfl) (by kernel_rfl) (by kernel_rfl) (fun _ _ _ h => h) (Or.inl ⟨by rfl, ?hy10⟩) hHeld ?rest10
          case hy10 => (intro W hSw; (try dsimp only at hSw); go_simp; (try with_reducible rfl))
          simp only [Act.put, List.setIfInBounds_toArray, List.set_cons_zero, List.set_cons_succ]
          refine wpAnyZ_take (i := 10) (oi := ⟨some 33, _, _, _, _, _⟩) (v := ?_) rfl (by kernel_rfl) (by kernel_rfl) (by kernel_rfl) (by kernel_rfl) (fun _ _ _ h => h) (Or.inl ⟨by rfl, ?hy11⟩) hHeld ?rest11
          case hy11 => (intro W hSw; (try dsimp only at hSw); go_simp; (try with_reducible rfl))
          simp only [Act.put, List.setIfInBounds_toArray, List.set_cons_zero, List.set_cons_succ]
          refine wpAnyZ_take (i := 11) (oi := ⟨some 34, _, _, _, _, _⟩) (v := ?_) rfl (by kernel_rfl) (by kernel_rfl) (by kernel_rfl) (by kernel_rfl) (fun _ _ _ h => h) (Or.inl ⟨by rfl, ?hy12⟩) hHeld ?rest12
          case hy12 => (intro W hSw; (try dsimp only at hSw); go_simp; (try with_reducible rfl))
          simp only [Act.put, List.setIfInBounds_toArray, List.set_cons_zero, List.set_cons_succ]
          refine wpAnyZ_take (i := 12) (oi := ⟨some 35, _, _, _, _, _⟩) (v := ?_) rfl (by kernel_rfl) (by kernel_rfl) (by kernel_rfl) (by kernel_rfl) (fun _ _ _ h => h) (Or.inl ⟨by rfl, ?hy13⟩) hHeld ?rest13
          case hy13 => (intro W hSw; (try dsimp only at hSw); go_simp; (try with_reducible rfl))
          simp only [Act.put, List.setIfInBounds_toArray, List.set_cons_zero, List.set_cons_succ]
          refine wpAnyZ_take (i := 13) (oi := ⟨some 36, _, _, _, _, _⟩) (v := ?_) rfl (by kernel_rfl) (by kernel_rfl) (by kernel_rfl) (by kernel_rfl) (fun _ _ _ h => h) (Or.inl ⟨by rfl, ?hy14⟩) hHeld ?rest14
          case hy14 => (intro W hSw; (try dsimp only at hSw); go_simp; (try with_reducible rfl))
          simp only [Act.put, List.setIfInBounds_toArray, List.set_cons_zero, List.set_cons_succ]
          refine wpAnyZ_ready (rs := [14]) (by kernel_rfl) (by simp) ?_
          refine (AllReadyZ.cons (o := ⟨some 37, _, _, _, _, _⟩) rfl (fun K hK => ?_) AllReadyZ.nil)
          go_simp
          refine hK.out _ _ ?_ (fun hNew => ?_)
          · ((try dsimp only); (first | go_keep | (go_split_ands; refine ⟨?_, ?_⟩ <;> assumption)))
          clear hK K hHeld
          have hHeld := hNew
          clear hNew
          try simp only [Act.put, List.setIfInBounds_toArray, List.set_cons_zero, List.set_cons_succ]
          refine wpAnyZ_take (i := 15) (oi := ⟨some 38, _, _, _, _, _⟩) (v := ?_) rfl (by kernel_rfl) (by kernel_rfl) (by kernel_rfl) (by kernel_rfl) (fun _ _ _ h => h) (Or.inl ⟨by rfl, ?hy15⟩) hHeld ?rest15
          case hy15 => (intro W hSw; (try dsimp only at hSw); go_simp; (try with_reducible rfl))
          simp only [Act.put, List.setIfInBounds_toArray, List.set_cons_zero, List.set_cons_succ]
          refine wpAnyZ_ready (rs := [16]) (by kernel_rfl) (by simp) ?_
          refine AllReadyZ.last (o := ⟨none, _, _, _, _, _⟩) rfl (fun K hK => ?_) AllReadyZ.nil
          go_simp
          refine hK.out _ _ ?_
          clear hK K hHeld
          try simp only [Act.put]
          refine wpAnyZ_done (by kernel_rfl) ?_ _
          refine NoPanic.normal ?_
          go_wp2_with fail
          go_meet
          case rel => exact HAG
      case rest =>
        clear z0 z1 z2 zf hw5 hw0 hw1 hages hsp c8
        obtain ⟨ss2, xs2, hk2, hS, hss, hsl, hR, hM⟩ := hcut.out
        have hlx : k < ((midSt W Sp st k).out.set k ⟨age1 st.out[k], st.out[k].b⟩).length := by rw [List.length_set, mid_len (by omega)]; exact hk2
        obtain ⟨g3, c3, q3, hv3, _, _, hqi, hqn, hqv, z0, z1, z2, zf, hgb3⟩ := hR.body (k := k) hlx
        have hg3 : g3 = g := by
          have := hst.out.2.2.symm.trans hv3
          simp only [Value.slice.injEq, Option.some.injEq, Addr.mk.injEq] at this
          exact this.1.1.symm
        subst hg3
        have hx2 : st.out[k] = x := HX.out.2
        have e1 : ((midSt W Sp st k).out.set k ⟨age1 st.out[k], st.out[k].b⟩)[k]'hlx = ⟨age1 x, x.b⟩ := by rw [List.getElem_set_self, hx2]
        simp only [e1] at z1 hqv
        obtain ⟨s1, hs1⟩ : ∃ s1, age1 x = s1 := ⟨_, rfl⟩
        rw [hs1] at z1
        obtain ⟨N1, hN1⟩ : ∃ N1, st.acked + 1 + k = N1 := ⟨_, rfl⟩
        have z0' : wc.cell? ⟨g3, k * 3, none⟩ = some (.int .i64 (N1 : Int)) := by rw [← hN1]; exact z0
        have c8 : wc.cell? ⟨db, 8, none⟩ = some (.slice (some ⟨g3, 0, none⟩) n vc) := by
          have := hR.box.cell 8
          rw [HVO.out, HN.out] at this
          exact this
        have hw5 : wc.cell? ⟨db, 5, none⟩ = some (.int .i64 st.acked) := hR.box.cell 5
        have hw0 : wc.cell? ⟨db, 0, none⟩ = some (.int .i64 W) := hR.box.cell 0
        have hw1 : wc.cell? ⟨db, 1, none⟩ = some (.int .i64 Sp) := hR.box.cell 1
        have hwa : IntKind.i64.wrap ((st.acked : Int) + (W : Int)) = (st.acked : Int) + (W : Int) := IntWalk.i64_in _ (by have := HBD.out; have := HG.out.pm.1; omega)
        have HGO : Hid (goes16 W Sp k x = decide (k < W ∧ (x.s < 0 ∨ (Sp : Int) ≤ x.s + 1)) ∧ s1 = (if x.s < 0 then x.s else x.s + 1) ∧ st.acked + 1 + k = N1 ∧ 1 ≤ Sp) := Lib.hid ⟨rfl, by rw [← hs1]; rfl, hN1, HG.out.pm.2.1.1⟩
        have HQ3 := Lib.hid (And.intro hqi (And.intro hqn hqv))
        clear hS hss hsl hR hM z0 hlx hv3 hqi hqn hqv hs1 hN1 e1 hx2 hst HSX HQ
        have HDA := hcut
        clear hcut
        obtain ⟨b, hb⟩ : ∃ b, goes16 W Sp k x = b := ⟨_, rfl⟩
        have HBB := Lib.hid hb
        clear hb
        go_upto_region 7 with fail
        go_cut [82] from 5 to 141 (fun v wx => v = .bool (!b) ∧ Hid (Below wc.heap.size wc wx))
        case first =>
          by_cases hA : W ≤ k
          · have hgt : (st.acked : Int) + (W : Int) < (N1 : Int) := by have := HGO.out; omega
            have hbf : b = false := by rw [← HBB.out, HGO.out.1]; exact decide_eq_false (by omega)
            subst hbf
            clear hA
            go_quiet (fail)
            go_wp2_with fail
            go_meet
            case rel => exact ⟨rfl, Lib.hid (below_drewN (Below.refl _ _) _)⟩
          · have hgt : decide ((st.acked : Int) + (W : Int) < (N1 : Int)) = false := decide_eq_false (by have := HGO.out; omega)
            by_cases hB : x.s < 0
            · have h0 : decide (0 ≤ s1) = false := decide_eq_false (by have := HGO.out.2.1; rw [if_pos hB] at this; omega)
              have hbt : b = true := by rw [← HBB.out, HGO.out.1]; exact decide_eq_true (by omega)
              subst hbt
              clear hA hB
              go_quiet (fail)
              go_wp2_with fail
              go_meet
              case rel => exact ⟨rfl, Lib.hid (below_drewN (Below.refl _ _) _)⟩
            · have hs1 : s1 = x.s + 1 := by have := HGO.out.2.1; rwa [if_neg hB] at this
              have h0 : decide (0 ≤ s1) = true := decide_eq_true (by omega)
              by_cases hC : s1 < (Sp : Int)
              · have h5 : decide (s1 < (Sp : Int)) = true := decide_eq_true hC
                have hbf : b = false := by rw [← HBB.out, HGO.out.1]; exact decide_eq_false (by omega)
                subst hbf
                clear hA hB hC hs1
                go_quiet (fail)
                go_wp2_with fail
                go_meet
                case rel => exact ⟨rfl, Lib.hid (below_drewN (Below.refl _ _) _)⟩
              · have h5 : decide (s1 < (Sp : Int)) = false := decide_eq_false hC
                have hbt : b = true := by rw [← HBB.out, HGO.out.1]; exact decide_eq_true (by omega)
                subst hbt
                clear hA hB hC hs1
                go_quiet (fail)
                go_wp2_with fail
                go_meet
                case rel => exact ⟨rfl, Lib.hid (below_drewN (Below.refl _ _) _)⟩
        case rest =>
          obtain ⟨rfl, HB2⟩ := hcut
          replace HDA := Lib.hid (HDA.out.bel HB2.out)
          obtain ⟨ss3, xs3, hk3, hS, hss, hsl, hR, hM⟩ := HDA.out
          have hkd : ((midSt W Sp st k).out[k]'(by rw [mid_len (by omega)]; exact hk3)) = st.out[k] := (midS_at (by omega) hk3).trans (if_neg (by omega))
          have hlm : k < (midSt W Sp st k).out.length := by rw [mid_len (by omega)]; exact hk3
          cases b with
          | false =>
            have HFIN : Hid (DTickI w db base vo ve ys W Sp R st (k + 1) u3 wc) := Lib.hid (by
              have hgo : goes16 W Sp k st.out[k] = false := by rw [HX.out.2]; exact HBB.out
              have e3 := mid_next hk3 hlm (s := age1 st.out[k]) (step_age1 hgo) (if_neg (fun h => Bool.noConfusion (hgo.symm.trans h)))
              refine ⟨ss3, xs3, hS, ?_, by omega, ?_, hM⟩
              · rw [hss, sends_no hk3 hgo]
              · rw [e3, hkd]
                exact hR)
            clear hS hss hsl hR hM hkd hlm HDA HB2 c8 hw5 hw0 hw1 hwa z1 z2 z0'
            go_wp2_with fail
            go_roundw
            case rel => exact ⟨k + 1, by omega, by go_num, HFIN⟩
            case measure => simp [intOf]; omega
          | true =>
            have hlx : k < ((midSt W Sp st k).out.set k ⟨age1 st.out[k], st.out[k].b⟩).length := by rw [List.length_set]; exact hlm
            have hvo3 : vo = .slice (some ⟨g3, 0, none⟩) ((midSt W Sp st k).out.set k ⟨age1 st.out[k], st.out[k].b⟩).length vc := by rw [List.length_set, mid_len (by omega), HVO.out]
            obtain ⟨⟨xs4, hR4⟩, hM4⟩ := hR.age hlx hvo3 0
            have c8 : wc.cell? ⟨db, 8, none⟩ = some (.slice (some ⟨g3, 0, none⟩) n vc) := cell_keep c8 HB2.out
            obtain ⟨ga, ca, qa, hva, -, -, -, -, -, -, z1x, -, zf, -⟩ := hR.body hlx
            replace z1x := (⟨_, z1x⟩ : ∃ u, wc.cell? ⟨ga, k * 3 + 1, none⟩ = some u)
            obtain ⟨u1x, z1x⟩ := z1x
            have hga : ga = g3 := by
              have := hva.symm.trans hvo3
              simp only [Value.slice.injEq, Option.some.injEq, Addr.mk.injEq] at this
              exact this.1.1
            subst hga
            obtain ⟨w8, hw8⟩ : ∃ w8, wc.setCell ⟨ga, k * 3 + 1, none⟩ (.int .i64 0) = w8 := ⟨_, rfl⟩
            rw [hw8] at hR4 hM4
            simp only [List.set_set, List.getElem_set_self] at hR4
            have hl4 : k < ((midSt W Sp st k).out.set k ⟨0, st.out[k].b⟩).length := by rw [List.length_set]; exact hlm
            obtain ⟨gb, cb, q4, hvb, -, -, q4i, q4n, q4v, y0, -, y2, -, -⟩ := hR4.body hl4
            have hgb : gb = ga := by
              have := hvb.symm.trans hva
              simp only [Value.slice.injEq, Option.some.injEq, Addr.mk.injEq] at this
              exact this.1.1
            subst hgb
            simp only [List.getElem_set_self] at q4v
            obtain ⟨S1, hS1⟩ : ∃ S1, (midSt W Sp st k).sent = S1 := ⟨_, rfl⟩
            have y0' : w8.cell? ⟨gb, k * 3, none⟩ = some (.int .i64 (N1 : Int)) := by rw [← HGO.out.2.2.1]; exact y0
            have d8 : w8.cell? ⟨db, 8, none⟩ = some (.slice (some ⟨gb, 0, none⟩) n vc) := by
              have := hR4.box.cell 8
              rw [HVO.out, HN.out] at this
              exact this
            have d6 : w8.cell? ⟨db, 6, none⟩ = some (.int .i64 S1) := by have := hR4.box.cell 6; rw [← hS1]; exact this
            have f6 : w8.frozen? ⟨db, 6, none⟩ = false := hR4.box.frozen 6
            have H8 := Lib.hid (And.intro hR4 (And.intro (hM.trans hM4) (hS.movedD hM4)))
            have HSS3 := Lib.hid (And.intro hss (And.intro hsl (And.intro hS1 (And.intro hk3 hlm))))
            have HQ4 := Lib.hid (And.intro q4i (And.intro q4n q4v))
            clear hR4 hM4 hR hM hS hss hsl hva hvb hvo3 hlx hl4 y0 y2 q4i q4n q4v hS1 hkd HDA HB2 hw5 hw0 hw1 hwa z1 z2
            go_upto_region 9 with fail
            try rw [hw8]
            clear hw8 zf c8 z0' z1x
            go_quiet (fail)
            go_upto_if 102 with fail
            go_cut [] from 5 to 141 (fun wx => Hid (DRaw wx db base vo ve W Sp R (midSt W Sp st (k + 1)) xs4 ys ∧ MovesD w wx db ∧ SegsAt wx w.heap.size u3 ss3))
            case first =>
              have HE3 : Hid (midSt W Sp st (k + 1) = { midSt W Sp st k with out := (midSt W Sp st k).out.set k ⟨0, st.out[k].b⟩, sent := max S1 N1 }) := Lib.hid (by
                have hgo : goes16 W Sp k st.out[k] = true := by rw [HX.out.2]; exact HBB.out
                have hlm := HSS3.out.2.2.2.2
                have hkd : (midSt W Sp st k).out[k] = st.out[k] := (midS_at (by omega) hk2).trans (if_neg (by omega))
                have e3 := mid_next hk2 hlm (s := 0) (step_yes hgo) (if_pos hgo)
                rw [e3, hkd, HSS3.out.2.2.1, HGO.out.2.2.1])
              by_cases hSN : S1 < N1
              · have hSNd : decide ((S1 : Int) < (N1 : Int)) = true := decide_eq_true (by omega)
                have hSNn : decide (S1 < N1) = true := decide_eq_true hSN
                have HF : Hid (∀ wq, (∃ nq, wq = w8.drewN nq) → DRaw (wq.setCell ⟨db, 6, none⟩ (.int .i64 (N1 : Int))) db base vo ve W Sp R (midSt W Sp st (k + 1)) xs4 ys ∧ MovesD w (wq.setCell ⟨db, 6, none⟩ (.int .i64 (N1 : Int))) db ∧ SegsAt (wq.setCell ⟨db, 6, none⟩ (.int .i64 (N1 : Int))) w.heap.size u3 ss3) := Lib.hid (fun wq hwq => by
                  obtain ⟨h1, h2, h3⟩ := H8.out
                  have hbq : Below w8.heap.size w8 wq := hwq.elim (fun nq e => by rw [e]; exact below_drewN (Below.refl _ _) _)
                  have h1q := h1.bel hbq
                  have h2q := h2.trans (MovesD.of_below hbq (by have := h1.lt; omega))
                  have h3q := h3.bel hbq
                  have hm : max S1 N1 = N1 := by omega
                  obtain ⟨h4, h5⟩ := h1q.own (w' := wq.setCell ⟨db, 6, none⟩ (.int .i64 (N1 : Int))) (st' := midSt W Sp st (k + 1)) (by rw [HE3.out, hm]; exact h1q.box.set 6 _) (grown_set _ _ _ _) (by rw [HE3.out]) (by rw [HE3.out]) (by rw [HE3.out])
                  exact ⟨h4, h2q.trans h5, h3q.movedD h5⟩)
                clear hSN
                simp only [hSNn]
                go_wp2_with fail
                go_meet
                case rel => exact Lib.hid (HF.out _ ⟨_, rfl⟩)
              · have hSNd : decide ((S1 : Int) < (N1 : Int)) = false := decide_eq_false (by omega)
                have hSNn : decide (S1 < N1) = false := decide_eq_false hSN
                have HF : Hid (DRaw w8 db base vo ve W Sp R (midSt W Sp st (k + 1)) xs4 ys ∧ MovesD w w8 db ∧ SegsAt w8 w.heap.size u3 ss3) := Lib.hid (by
                  have hm : max S1 N1 = (midSt W Sp st k).sent := by have := HSS3.out.2.2.1; omega
                  rw [HE3.out, hm]
                  exact H8.out)
                have HF2 : Hid (∀ wq, (∃ nq, wq = w8.drewN nq) → DRaw wq db base vo ve W Sp R (midSt W Sp st (k + 1)) xs4 ys ∧ MovesD w wq db ∧ SegsAt wq w.heap.size u3 ss3) := Lib.hid (fun wq hwq => by
                  have hbq : Below w8.heap.size w8 wq := hwq.elim (fun nq e => by rw [e]; exact below_drewN (Below.refl _ _) _)
                  obtain ⟨h1, h2, h3⟩ := HF.out
                  exact ⟨h1.bel hbq, h2.trans (MovesD.of_below hbq (by have := h1.lt; omega)), h3.bel hbq⟩)
                clear hSN
                simp only [hSNn]
                go_wp2_with fail
                go_meet
                case rel => exact Lib.hid (HF2.out _ ⟨_, rfl⟩)
            case rest =>
              clear y0' d8 d6 f6 H8
              obtain ⟨h1, h2, h3⟩ := hcut.out
              have hlk : k < (midSt W Sp st (k + 1)).out.length := by rw [mid_len (by omega)]; exact hk2
              obtain ⟨gc, cc, q5, hvc, -, -, q5i, q5n, q5v, y0, -, y2, -, -⟩ := h1.body hlk
              have hgc : gc = gb := by
                have := hvc.symm.trans HVO.out
                simp only [Value.slice.injEq, Option.some.injEq, Addr.mk.injEq] at this
                exact this.1.1
              subst hgc
              have hwzb : Below wc.heap.size wc wc.drew := (Below.refl _ _).drew
              have hdbl : db < wc.heap.size := by have := h1.lt; omega
              have h1z := h1.bel hwzb
              have h2z := h2.trans (MovesD.of_below hwzb (Nat.le_of_lt hdbl))
              have h3z := h3.bel hwzb
              have hkW : k < W := by
                have hg := HGO.out.1
                rw [HBB.out] at hg
                exact (of_decide_eq_true hg.symm).1
              have hl64 : ss3.length ≤ 64 := by have := HSS3.out.2.1; have := HG.out.pm.1; omega
              obtain ⟨gr, cap, w5, hrun, hS5, hg5, hv5, hr5⟩ := h3z.next (by omega) h2z.size ⟨st.ep, (N1 : Int), st.got, q5⟩ (q5i.below hwzb) q5n
              have hR5 := h1z.seg hg5 (fun b e => (hv5 b e).2) hr5
              have hM5 : MovesD w w5 db := h2z.new hg5 (by have := H0.out.lt; omega) (fun b e => (hv5 b e).1) hr5
              have hq5 : q5.v = st.out[k].b := by
                rw [q5v, midS_at (by omega) hk2, if_pos (by omega), step16_b]
              have HFIN : Hid (DTickI w db base vo ve ys W Sp R st (k + 1) (.slice (some ⟨gr, 0, none⟩) (ss3.length + 1) cap) w5) := Lib.hid (by
                have hgo : goes16 W Sp k st.out[k] = true := by rw [HX.out.2]; exact HBB.out
                refine ⟨_, xs4, hS5, ?_, by have := HSS3.out.2.1; simp; omega, hR5, hM5⟩
                rw [List.map_append, HSS3.out.1, sends_yes hk2 hgo, segsL, segsL, List.map_append]
                simp only [List.map_cons, List.map_nil, sgOf, hq5, ← HGO.out.2.2.1])
              have e3 : wc.cell? ⟨db, 3, none⟩ = some (.int .i64 st.ep) := h1.box.cell 3
              have e7 : wc.cell? ⟨db, 7, none⟩ = some (.int .i64 st.got) := h1.box.cell 7
              have e8 : wc.cell? ⟨db, 8, none⟩ = some (.slice (some ⟨gc, 0, none⟩) n vc) := by
                have := h1.box.cell 8
                rw [HVO.out, HN.out] at this
                exact this
              have e0 : wc.cell? ⟨gc, k * 3, none⟩ = some (.int .i64 (N1 : Int)) := by rw [← HGO.out.2.2.1]; exact y0
              have e2 : wc.cell? ⟨gc, k * 3 + 2, none⟩ = some (.slice q5.a q5.n q5.cap) := y2
              obtain ⟨gd, cd, q6, hvd, -, -, -, -, -, y06, -, y26, -, -⟩ := hR5.body hlk
              have hne : db ≠ gc := by have := hgb3; have := H0.out.lt; omega
              have n3 : w5.cell? ⟨db, 3, none⟩ = some (.int .i64 st.ep) := hR5.box.cell 3
              have n7 : w5.cell? ⟨db, 7, none⟩ = some (.int .i64 st.got) := hR5.box.cell 7
              have n8 : w5.cell? ⟨db, 8, none⟩ = some (.slice (some ⟨gc, 0, none⟩) n vc) := by
                have := hR5.box.cell 8
                rw [HVO.out, HN.out] at this
                exact this
              have hgrow : w5.heap[gc]? = wc.heap[gc]? := by
                obtain ⟨cs, hb, _⟩ := h1z.out.all gc (by rw [HVO.out]; rfl)
                refine (hg5.block gc hb.lt (fun e => ?_)).trans rfl
                obtain ⟨c2, k2, _⟩ := (hv5 gc e.symm).2
                have := hb.symm.trans k2
                simp at this
              have n0 : w5.cell? ⟨gc, k * 3, none⟩ = some (.int .i64 (N1 : Int)) := by rw [World.cell?_of_block (w := wc) (a := ⟨gc, k * 3, none⟩) hgrow]; exact e0
              have n2 : w5.cell? ⟨gc, k * 3 + 2, none⟩ = some (.slice q5.a q5.n q5.cap) := by rw [World.cell?_of_block (w := wc) (a := ⟨gc, k * 3 + 2, none⟩) hgrow]; exact e2
              obtain ⟨XL, hXL⟩ : ∃ XL, ss3.length = XL := ⟨_, rfl⟩
              rw [hXL] at hrun HFIN
              clear hvd y06 y26 hvc q5i q5n q5v y0 y2 h1 h2 h3 h1z h2z h3z hS5 hg5 hv5 hr5 hR5 hM5 hq5 hkW hl64 hwzb hgrow hXL hcut
              go_upto_region 11 with fail
              refine wp_region_held_drew (S := (fun W_ => W_.cell? ⟨db, 3, none⟩ = some (.int .i64 st.ep) ∧ W_.cell? ⟨db, 7, none⟩ = some (.int .i64 st.got) ∧ W_.cell? ⟨db, 8, none⟩ = some (.slice (some ⟨gc, 0, none⟩) n vc) ∧ W_.cell? ⟨gc, k * 3, none⟩ = some (.int .i64 (N1 : Int)) ∧ W_.cell? ⟨gc, k * 3 + 2, none⟩ = some (.slice q5.a q5.n q5.cap))) (by kernel_rfl) ?_ (fun hHeld => ?_)
              · (first | go_keep | (go_split_ands; refine ⟨?_, ?_, ?_, ?_, ?_⟩ <;> assumption))
              refine wpAnyH_take (i := 0) (oi := ⟨some 114, _, _, _, _, _⟩) (v := ?_) rfl (by kernel_rfl) (by kernel_rfl) (by kernel_rfl) (fun _ _ _ h => h) (Or.inl ⟨by rfl, ?hy16⟩) hHeld ?rest16
              case hy16 => (intro W hSw; (try dsimp only at hSw); go_simp; (try with_reducible rfl))
              simp only [Act.put, List.setIfInBounds_toArray, List.set_cons_zero, List.set_cons_succ]
              refine wpAnyH_take (i := 1) (oi := ⟨some 115, _, _, _, _, _⟩) (v := ?_) rfl (by kernel_rfl) (by kernel_rfl) (by kernel_rfl) (fun _ _ _ h => h) (Or.inl ⟨by rfl, ?hy17⟩) hHeld ?rest17
              case hy17 => (intro W hSw; (try dsimp only at hSw); go_simp; (try with_reducible rfl))
              simp only [Act.put, List.setIfInBounds_toArray, List.set_cons_zero, List.set_cons_succ]
              refine wpAnyH_take (i := 2) (oi := ⟨some 116, _, _, _, _, _⟩) (v := ?_) rfl (by kernel_rfl) (by kernel_rfl) (by kernel_rfl) (fun _ _ _ h => h) (Or.inl ⟨by rfl, ?hy18⟩) hHeld ?rest18
              case hy18 => (intro W hSw; (try dsimp only at hSw); go_simp; (try with_reducible rfl))
              simp only [Act.put, List.setIfInBounds_toArray, List.set_cons_zero, List.set_cons_succ]
              refine wpAnyH_take (i := 3) (oi := ⟨some 117, _, _, _, _, _⟩) (v := ?_) rfl (by kernel_rfl) (by kernel_rfl) (by kernel_rfl) (fun _ _ _ h => h) (Or.inl ⟨by rfl, ?hy19⟩) hHeld ?rest19
              case hy19 => (intro W hSw; (try dsimp only at hSw); go_simp; (try with_reducible rfl))
              simp only [Act.put, List.setIfInBounds_toArray, List.set_cons_zero, List.set_cons_succ]
              refine wpAnyH_take (i := 4) (oi := ⟨some 118, _, _, _, _, _⟩) (v := ?_) rfl (by kernel_rfl) (by kernel_rfl) (by kernel_rfl) (fun _ _ _ h => h) (Or.inl ⟨by rfl, ?hy20⟩) hHeld ?rest20
              case hy20 => (intro W hSw; (try dsimp only at hSw); go_simp; (try with_reducible rfl))
              simp only [Act.put, List.setIfInBounds_toArray, List.set_cons_zero, List.set_cons_succ]
              refine wpAnyH_take (i := 5) (oi := ⟨some 119, _, _, _, _, _⟩) (v := ?_) rfl (by kernel_rfl) (by kernel_rfl) (by kernel_rfl) (fun _ _ _ h => h) (Or.inl ⟨by rfl, ?hy21⟩) hHeld ?rest21
              case hy21 => (intro W hSw; (try dsimp only at hSw); go_simp; (try with_reducible rfl))
              simp only [Act.put, List.setIfInBounds_toArray, List.set_cons_zero, List.set_cons_succ]
              refine wpAnyH_take (i := 6) (oi := ⟨some 120, _, _, _, _, _⟩) (v := ?_) rfl (by kernel_rfl) (by kernel_rfl) (by kernel_rfl) (fun _ _ _ h => h) (Or.inl ⟨by rfl, ?hy22⟩) hHeld ?rest22
              case hy22 => (intro W hSw; (try dsimp only at hSw); go_simp; (try with_reducible rfl))
              simp only [Act.put, List.setIfInBounds_toArray, List.set_cons_zero, List.set_cons_succ]
              refine wpAnyH_take (i := 7) (oi := ⟨some 121, _, _, _, _, _⟩) (v := ?_) rfl (by kernel_rfl) (by kernel_rfl) (by kernel_rfl) (fun _ _ _ h => h) (Or.inl ⟨by rfl, ?hy23⟩) hHeld ?rest23
              case hy23 => (intro W hSw; (try dsimp only at hSw); go_simp; (try with_reducible rfl))
              simp only [Act.put, List.setIfInBounds_toArray, List.set_cons_zero, List.set_cons_succ]
              refine wpAnyH_take (i := 8) (oi := ⟨some 122, _, _, _, _, _⟩) (v := ?_) rfl (by kernel_rfl) (by kernel_rfl) (by kernel_rfl) (fun _ _ _ h => h) (Or.inl ⟨by rfl, ?hy24⟩) hHeld ?rest24
              case hy24 => (intro W hSw; (try dsimp only at hSw); go_simp; (try with_reducible rfl))
              simp only [Act.put, List.setIfInBounds_toArray, List.set_cons_zero, List.set_cons_succ]
              refine wpAnyH_take (i := 9) (oi := ⟨some 123, _, _, _, _, _⟩) (v := ?_) rfl (by kernel_rfl) (by kernel_rfl) (by kernel_rfl) (fun _ _ _ h => h) (Or.inl ⟨by rfl, ?hy25⟩) hHeld ?rest25
              case hy25 => (intro W hSw; (try dsimp only at hSw); go_simp; (try with_reducible rfl))
              simp only [Act.put, List.setIfInBounds_toArray, List.set_cons_zero, List.set_cons_succ]
              refine wpAnyH_take (i := 10) (oi := ⟨some 124, _, _, _, _, _⟩) (v := ?_) rfl (by kernel_rfl) (by kernel_rfl) (by kernel_rfl) (fun _ _ _ h => h) (Or.inl ⟨by rfl, ?hy26⟩) hHeld ?rest26
              case hy26 => (intro W hSw; (try dsimp only at hSw); go_simp; (try with_reducible rfl))
              simp only [Act.put, List.setIfInBounds_toArray, List.set_cons_zero, List.set_cons_succ]
              refine wpAnyH_take (i := 11) (oi := ⟨some 125, _, _, _, _, _⟩) (v := ?_) rfl (by kernel_rfl) (by kernel_rfl) (by kernel_rfl) (fun _ _ _ h => h) (Or.inl ⟨by rfl, ?hy27⟩) hHeld ?rest27
              case hy27 => (intro W hSw; (try dsimp only at hSw); go_simp; (try with_reducible rfl))
              simp only [Act.put, List.setIfInBounds_toArray, List.set_cons_zero, List.set_cons_succ]
              refine wpAnyH_take (i := 12) (oi := ⟨some 126, _, _, _, _, _⟩) (v := ?_) rfl (by kernel_rfl) (by kernel_rfl) (by kernel_rfl) (fun _ _ _ h => h) (Or.inl ⟨by rfl, ?hy28⟩) hHeld ?rest28
              case hy28 => (intro W hSw; (try dsimp only at hSw); go_simp; (try with_reducible rfl))
              simp only [Act.put, List.setIfInBounds_toArray, List.set_cons_zero, List.set_cons_succ]
              refine wpAnyH_take (i := 13) (oi := ⟨some 127, _, _, _, _, _⟩) (v := ?_) rfl (by kernel_rfl) (by kernel_rfl) (by kernel_rfl) (fun _ _ _ h => h) (Or.inl ⟨by rfl, ?hy29⟩) hHeld ?rest29
              case hy29 => (intro W hSw; (try dsimp only at hSw); go_simp; (try with_reducible rfl))
              simp only [Act.put, List.setIfInBounds_toArray, List.set_cons_zero, List.set_cons_succ]
              refine wpAnyH_take (i := 14) (oi := ⟨some 128, _, _, _, _, _⟩) (v := ?_) rfl (by kernel_rfl) (by kernel_rfl) (by kernel_rfl) (fun _ _ _ h => h) (Or.inl ⟨by rfl, ?hy30⟩) hHeld ?rest30
              case hy30 => (intro W hSw; (try dsimp only at hSw); go_simp; (try with_reducible rfl))
              simp only [Act.put, List.setIfInBounds_toArray, List.set_cons_zero, List.set_cons_succ]
              refine wpAnyH_take (i := 15) (oi := ⟨some 129, _, _, _, _, _⟩) (v := ?_) rfl (by kernel_rfl) (by kernel_rfl) (by kernel_rfl) (fun _ _ _ h => h) (Or.inl ⟨by rfl, ?hy31⟩) hHeld ?rest31
              case hy31 => (intro W hSw; (try dsimp only at hSw); go_simp; (try with_reducible rfl))
              simp only [Act.put, List.setIfInBounds_toArray, List.set_cons_zero, List.set_cons_succ]
              refine wpAnyH_take (i := 16) (oi := ⟨some 130, _, _, _, _, _⟩) (v := ?_) rfl (by kernel_rfl) (by kernel_rfl) (by kernel_rfl) (fun _ _ _ h => h) (Or.inl ⟨by rfl, ?hy32⟩) hHeld ?rest32
              case hy32 => (intro W hSw; (try dsimp only at hSw); go_simp; (try with_reducible rfl))
              simp only [Act.put, List.setIfInBounds_toArray, List.set_cons_zero, List.set_cons_succ]
              refine wpAnyH_take (i := 17) (oi := ⟨some 131, _, _, _, _, _⟩) (v := ?_) rfl (by kernel_rfl) (by kernel_rfl) (by kernel_rfl) (fun _ _ _ h => h) (Or.inl ⟨by rfl, ?hy33⟩) hHeld ?rest33
              case hy33 => (intro W hSw; (try dsimp only at hSw); go_simp; (try with_reducible rfl))
              simp only [Act.put, List.setIfInBounds_toArray, List.set_cons_zero, List.set_cons_succ]
              refine wpAnyH_take (i := 18) (oi := ⟨some 132, _, _, _, _, _⟩) (v := ?_) rfl (by kernel_rfl) (by kernel_rfl) (by kernel_rfl) (fun _ _ _ h => h) (Or.inl ⟨by rfl, ?hy34⟩) hHeld ?rest34
              case hy34 => (intro W hSw; (try dsimp only at hSw); go_simp; (try with_reducible rfl))
              simp only [Act.put, List.setIfInBounds_toArray, List.set_cons_zero, List.set_cons_succ]
              refine wpAnyH_take (i := 19) (oi := ⟨some 133, _, _, _, _, _⟩) (v := ?_) rfl (by kernel_rfl) (by kernel_rfl) (by kernel_rfl) (fun _ _ _ h => h) (Or.inl ⟨by rfl, ?hy35⟩) hHeld ?rest35
              case hy35 => (intro W hSw; (try dsimp only at hSw); go_simp; (try with_reducible rfl))
              simp only [Act.put, List.setIfInBounds_toArray, List.set_cons_zero, List.set_cons_succ]
              refine wpAnyH_take (i := 20) (oi := ⟨some 134, _, _, _, _, _⟩) (v := ?_) rfl (by kernel_rfl) (by kernel_rfl) (by kernel_rfl) (fun _ _ _ h => h) (Or.inl ⟨by rfl, ?hy36⟩) hHeld ?rest36
              case hy36 => (intro W hSw; (try dsimp only at hSw); go_simp; (try with_reducible rfl))
              simp only [Act.put, List.setIfInBounds_toArray, List.set_cons_zero, List.set_cons_succ]
              refine wpAnyH_take (i := 21) (oi := ⟨some 135, _, _, _, _, _⟩) (v := ?_) rfl (by kernel_rfl) (by kernel_rfl) (by kernel_rfl) (fun _ _ _ h => h) (Or.inl ⟨by rfl, ?hy37⟩) hHeld ?rest37
              case hy37 => (intro W hSw; (try dsimp only at hSw); go_simp; (try with_reducible rfl))
              simp only [Act.put, List.setIfInBounds_toArray, List.set_cons_zero, List.set_cons_succ]
              refine wpAnyH_take (i := 22) (oi := ⟨some 136, _, _, _, _, _⟩) (v := ?_) rfl (by kernel_rfl) (by kernel_rfl) (by kernel_rfl) (fun _ _ _ h => h) (Or.inl ⟨by rfl, ?hy38⟩) hHeld ?rest38
              case hy38 => (intro W hSw; (try dsimp only at hSw); go_simp; (try with_reducible rfl))
              simp only [Act.put, List.setIfInBounds_toArray, List.set_cons_zero, List.set_cons_succ]
              refine wpAnyH_take (i := 23) (oi := ⟨some 137, _, _, _, _, _⟩) (v := ?_) rfl (by kernel_rfl) (by kernel_rfl) (by kernel_rfl) (fun _ _ _ h => h) (Or.inl ⟨by rfl, ?hy39⟩) hHeld ?rest39
              case hy39 => (intro W hSw; (try dsimp only at hSw); go_simp; (try with_reducible rfl))
              simp only [Act.put, List.setIfInBounds_toArray, List.set_cons_zero, List.set_cons_succ]
              refine wpAnyH_take (i := 24) (oi := ⟨some 138, _, _, _, _, _⟩) (v := ?_) rfl (by kernel_rfl) (by kernel_rfl) (by kernel_rfl) (fun _ _ _ h => h) (Or.inl ⟨by rfl, ?hy40⟩) hHeld ?rest40
              case hy40 => (intro W hSw; (try dsimp only at hSw); go_simp; (try with_reducible rfl))
              simp only [Act.put, List.setIfInBounds_toArray, List.set_cons_zero, List.set_cons_succ]
              refine wpAnyH_take (i := 25) (oi := ⟨some 139, _, _, _, _, _⟩) (v := ?_) rfl (by kernel_rfl) (by kernel_rfl) (by kernel_rfl) (fun _ _ _ h => h) (Or.inl ⟨by rfl, ?hy41⟩) hHeld ?rest41
              case hy41 => (intro W hSw; (try dsimp only at hSw); go_simp; (try with_reducible rfl))
              simp only [Act.put, List.setIfInBounds_toArray, List.set_cons_zero, List.set_cons_succ]
              refine wpAnyH_ready (rs := [26]) (by kernel_rfl) (by simp) ?_
              refine AllReadyH.cons (o := ⟨some 140, _, _, _, _, _⟩) rfl (fun K hK => ?_) AllReadyH.nil
              go_simp
              refine hK.out _ _ ?_ (fun hNew => ?_)
              · ((try dsimp only); (first | go_keep | (go_split_ands; refine ⟨?_, ?_, ?_, ?_, ?_⟩ <;> assumption)))
              clear hK K hHeld
              have hHeld := hNew
              clear hNew
              try simp only [Act.put, List.setIfInBounds_toArray, List.set_cons_zero, List.set_cons_succ]
              refine wpAnyH_ready (rs := [27]) (by kernel_rfl) (by simp) ?_
              refine AllReadyH.cons (o := ⟨some 141, _, _, _, _, _⟩) rfl (fun K hK => ?_) AllReadyH.nil
              ((with_reducible refine step_append_run ?_ (.tmp 114) (.tmp 140) 45 ?_ _ _ ?_ ?_ hrun ?_); rfl; rfl; rfl; rfl)
              refine hK.out _ _ ?_ (fun hNew => ?_)
              · ((try dsimp only); (first | go_keep | (go_split_ands; refine ⟨?_, ?_, ?_, ?_, ?_⟩ <;> assumption)))
              clear hK K hHeld
              have hHeld := hNew
              clear hNew
              try simp only [Act.put, List.setIfInBounds_toArray, List.set_cons_zero, List.set_cons_succ]
              refine wpAnyH_ready (rs := [28]) (by kernel_rfl) (by simp) ?_
              refine AllReadyH.cons (o := ⟨some 3, _, _, _, _, _⟩) rfl (fun K hK => ?_) AllReadyH.nil
              go_simp
              refine hK.out _ _ ?_ (fun hNew => ?_)
              · ((try dsimp only); (first | go_keep | (go_split_ands; refine ⟨?_, ?_, ?_, ?_, ?_⟩ <;> assumption)))
              clear hK K hHeld
              have hHeld := hNew
              clear hNew
              try simp only [Act.put, List.setIfInBounds_toArray, List.set_cons_zero, List.set_cons_succ]
              refine wpAnyH_done (by kernel_rfl) ?_ _
              go_wp2_with fail
              go_roundw
              case rel => exact ⟨k + 1, by omega, by go_num, HFIN⟩
              case measure => simp [intOf]; omega
    · obtain rfl : k = n := by omega
      obtain ⟨ss, xs1, hS, hss, hsl, hR, hM⟩ := HJ.out
      have hss2 : ss.map sgOf = segsL st.ep st.acked st.got (sends W Sp st.out) := by rw [hss, ← HN.out, List.take_length]
      obtain ⟨sa, sc, rfl⟩ := hS.row.shape
      have hlen : ss.length = (sends W Sp st.out).length := by
        have := congrArg List.length hss2
        simpa [segsL] using this
      have o10 : wr.cell? ⟨db, 10, none⟩ = some (.bool st.owes) := hR.box.cell 10
      have f10 : wr.frozen? ⟨db, 10, none⟩ = false := hR.box.frozen 10
      have HR : Hid (DRaw wr db base vo ve W Sp R (midSt W Sp st st.out.length) xs1 ys) := Lib.hid (by rw [HN.out]; exact hR)
      have HM := Lib.hid hM
      have HX := Lib.hid (And.intro hS hss2)
      by_cases h0 : ss.length = 0
      · cases how : st.owes with
        | false =>
          have HFIN : Hid (DTickE w db base W Sp R st (Ending.returned (Value.slice sa ss.length sc)) (wr.setCell ⟨db, 10, none⟩ (.bool false))) := Lib.hid (by
            obtain ⟨h1, h2⟩ := dtick_fin HG.out HR.out
            refine ⟨_, ss, rfl, HX.out.1.movedD h2, ?_, h1, HM.out.trans h2⟩
            rw [List.length_eq_zero_iff.1 h0]
            unfold tickE
            rw [if_pos (by omega), how]
            rfl)
          rw [how] at o10
          rw [h0] at HFIN ⊢
          clear hS hss hss2 hsl hR hM hlen how h0 HJ
          go_wp2_with fail
          go_ret
          exact HFIN.out
        | true =>
          have HZ : Hid (ss = [] ∧ (tickE W Sp st).1 = [⟨st.ep, 0, st.got, []⟩]) := Lib.hid ⟨List.length_eq_zero_iff.1 h0, by unfold tickE; rw [if_pos (by omega), how]; rfl⟩
          have HOW := Lib.hid how
          rw [how] at o10
          rw [h0]
          have hwzb : Below wr.heap.size wr wr.drew := (Below.refl _ _).drew
          have hdbl : db < wr.heap.size := by have := hR.lt; omega
          have h1z := HR.out.bel hwzb
          have h2z := hM.trans (MovesD.of_below hwzb (Nat.le_of_lt hdbl))
          have h3z := hS.bel hwzb
          rw [HZ.out.1] at h3z
          obtain ⟨gr, cap, w5, hrun, hS5, hg5, hv5, hr5⟩ := h3z.next (by simp) h2z.size ⟨st.ep, 0, st.got, ⟨none, 0, 0, []⟩⟩ ⟨Elems.nil_ _ _ _, Nat.le_refl _, by show 0 ≤ _; omega, ⟨fun _ => rfl, fun x e _ => by cases e⟩⟩ (by show 0 ≤ _; omega)
          have hR5 := h1z.seg hg5 (fun b e => (hv5 b e).2) hr5
          have hM5 : MovesD w w5 db := h2z.new hg5 (by have := H0.out.lt; omega) (fun b e => (hv5 b e).1) hr5
          have e3 : wr.cell? ⟨db, 3, none⟩ = some (.int .i64 st.ep) := hR.box.cell 3
          have e7 : wr.cell? ⟨db, 7, none⟩ = some (.int .i64 st.got) := hR.box.cell 7
          have n3 : w5.cell? ⟨db, 3, none⟩ = some (.int .i64 st.ep) := hR5.box.cell 3
          have n7 : w5.cell? ⟨db, 7, none⟩ = some (.int .i64 st.got) := hR5.box.cell 7
          have q10 : w5.cell? ⟨db, 10, none⟩ = some (.bool true) := by have h9 := hR5.box.cell 10; have h8 : (midSt W Sp st st.out.length).owes = true := HOW.out; simp only [dCells] at h9; rw [h8] at h9; exact h9
          have g10 : w5.frozen? ⟨db, 10, none⟩ = false := hR5.box.frozen 10
          have HFIN : Hid (DTickE w db base W Sp R st (Ending.returned (Value.slice (some ⟨gr, 0, none⟩) (0 + 1) cap)) (w5.setCell ⟨db, 10, none⟩ (.bool false))) := Lib.hid (by
            obtain ⟨h1, h2⟩ := dtick_fin HG.out hR5
            refine ⟨_, _, rfl, hS5.movedD h2, ?_, h1, hM5.trans h2⟩
            rw [HZ.out.2]
            simp [sgOf])
          simp only [List.length_nil] at hrun
          clear hS hss hss2 hsl hR hM hlen how h0 HJ h1z h2z h3z hS5 hg5 hv5 hr5 hR5 hM5 hwzb hdbl f10
          go_upto_region 13 with fail
          refine wp_region_held_drew (S := (fun W_ => W_.cell? ⟨db, 3, none⟩ = some (.int .i64 st.ep) ∧ W_.cell? ⟨db, 7, none⟩ = some (.int .i64 st.got))) (by kernel_rfl) ?_ (fun hHeld => ?_)
          · (first | go_keep | (go_split_ands; refine ⟨?_, ?_⟩ <;> assumption))
          refine wpAnyH_take (i := 0) (oi := ⟨some 151, _, _, _, _, _⟩) (v := ?_) rfl (by kernel_rfl) (by kernel_rfl) (by kernel_rfl) (fun _ _ _ h => h) (Or.inl ⟨by rfl, ?hy45⟩) hHeld ?rest45
          case hy45 => (intro W hSw; (try dsimp only at hSw); go_simp; (try with_reducible rfl))
          simp only [Act.put, List.setIfInBounds_toArray, List.set_cons_zero, List.set_cons_succ]
          refine wpAnyH_take (i := 1) (oi := ⟨some 152, _, _, _, _, _⟩) (v := ?_) rfl (by kernel_rfl) (by kernel_rfl) (by kernel_rfl) (fun _ _ _ h => h) (Or.inl ⟨by rfl, ?hy46⟩) hHeld ?rest46
          case hy46 => (intro W hSw; (try dsimp only at hSw); go_simp; (try with_reducible rfl))
          simp only [Act.put, List.setIfInBounds_toArray, List.set_cons_zero, List.set_cons_succ]
          refine wpAnyH_take (i := 2) (oi := ⟨some 153, _, _, _, _, _⟩) (v := ?_) rfl (by kernel_rfl) (by kernel_rfl) (by kernel_rfl) (fun _ _ _ h => h) (Or.inl ⟨by rfl, ?hy47⟩) hHeld ?rest47
          case hy47 => (intro W hSw; (try dsimp only at hSw); go_simp; (try with_reducible rfl))
          simp only [Act.put, List.setIfInBounds_toArray, List.set_cons_zero, List.set_cons_succ]
          refine wpAnyH_take (i := 3) (oi := ⟨some 154, _, _, _, _, _⟩) (v := ?_) rfl (by kernel_rfl) (by kernel_rfl) (by kernel_rfl) (fun _ _ _ h => h) (Or.inl ⟨by rfl, ?hy48⟩) hHeld ?rest48
          case hy48 => (intro W hSw; (try dsimp only at hSw); go_simp; (try with_reducible rfl))
          simp only [Act.put, List.setIfInBounds_toArray, List.set_cons_zero, List.set_cons_succ]
          refine wpAnyH_take (i := 4) (oi := ⟨some 155, _, _, _, _, _⟩) (v := ?_) rfl (by kernel_rfl) (by kernel_rfl) (by kernel_rfl) (fun _ _ _ h => h) (Or.inl ⟨by rfl, ?hy49⟩) hHeld ?rest49
          case hy49 => (intro W hSw; (try dsimp only at hSw); go_simp; (try with_reducible rfl))
          simp only [Act.put, List.setIfInBounds_toArray, List.set_cons_zero, List.set_cons_succ]
          refine wpAnyH_take (i := 5) (oi := ⟨some 156, _, _, _, _, _⟩) (v := ?_) rfl (by kernel_rfl) (by kernel_rfl) (by kernel_rfl) (fun _ _ _ h => h) (Or.inl ⟨by rfl, ?hy50⟩) hHeld ?rest50
          case hy50 => (intro W hSw; (try dsimp only at hSw); go_simp; (try with_reducible rfl))
          simp only [Act.put, List.setIfInBounds_toArray, List.set_cons_zero, List.set_cons_succ]
          refine wpAnyH_take (i := 6) (oi := ⟨some 157, _, _, _, _, _⟩) (v := ?_) rfl (by kernel_rfl) (by kernel_rfl) (by kernel_rfl) (fun _ _ _ h => h) (Or.inl ⟨by rfl, ?hy51⟩) hHeld ?rest51
          case hy51 => (intro W hSw; (try dsimp only at hSw); go_simp; (try with_reducible rfl))
          simp only [Act.put, List.setIfInBounds_toArray, List.set_cons_zero, List.set_cons_succ]
          refine wpAnyH_take (i := 7) (oi := ⟨some 158, _, _, _, _, _⟩) (v := ?_) rfl (by kernel_rfl) (by kernel_rfl) (by kernel_rfl) (fun _ _ _ h => h) (Or.inl ⟨by rfl, ?hy52⟩) hHeld ?rest52
          case hy52 => (intro W hSw; (try dsimp only at hSw); go_simp; (try with_reducible rfl))
          simp only [Act.put, List.setIfInBounds_toArray, List.set_cons_zero, List.set_cons_succ]
          refine wpAnyH_take (i := 8) (oi := ⟨some 159, _, _, _, _, _⟩) (v := ?_) rfl (by kernel_rfl) (by kernel_rfl) (by kernel_rfl) (fun _ _ _ h => h) (Or.inl ⟨by rfl, ?hy53⟩) hHeld ?rest53
          case hy53 => (intro W hSw; (try dsimp only at hSw); go_simp; (try with_reducible rfl))
          simp only [Act.put, List.setIfInBounds_toArray, List.set_cons_zero, List.set_cons_succ]
          refine wpAnyH_take (i := 9) (oi := ⟨some 160, _, _, _, _, _⟩) (v := ?_) rfl (by kernel_rfl) (by kernel_rfl) (by kernel_rfl) (fun _ _ _ h => h) (Or.inl ⟨by rfl, ?hy54⟩) hHeld ?rest54
          case hy54 => (intro W hSw; (try dsimp only at hSw); go_simp; (try with_reducible rfl))
          simp only [Act.put, List.setIfInBounds_toArray, List.set_cons_zero, List.set_cons_succ]
          refine wpAnyH_ready (rs := [10]) (by kernel_rfl) (by simp) ?_
          refine AllReadyH.cons (o := ⟨some 161, _, _, _, _, _⟩) rfl (fun K hK => ?_) AllReadyH.nil
          go_simp
          refine hK.out _ _ ?_ (fun hNew => ?_)
          · ((try dsimp only); (first | go_keep | (go_split_ands; refine ⟨?_, ?_⟩ <;> assumption)))
          clear hK K hHeld
          have hHeld := hNew
          clear hNew
          try simp only [Act.put, List.setIfInBounds_toArray, List.set_cons_zero, List.set_cons_succ]
          refine wpAnyH_ready (rs := [11]) (by kernel_rfl) (by simp) ?_
          refine AllReadyH.cons (o := ⟨some 162, _, _, _, _, _⟩) rfl (fun K hK => ?_) AllReadyH.nil
          ((with_reducible refine step_append_run ?_ (.tmp 151) (.tmp 161) 45 ?_ _ _ ?_ ?_ hrun ?_); rfl; rfl; rfl; rfl)
          refine hK.out _ _ ?_ (fun hNew => ?_)
          · ((try dsimp only); (first | go_keep | (go_split_ands; refine ⟨?_, ?_⟩ <;> assumption)))
          clear hK K hHeld
          have hHeld := hNew
          clear hNew
          try simp only [Act.put, List.setIfInBounds_toArray, List.set_cons_zero, List.set_cons_succ]
          refine wpAnyH_ready (rs := [12]) (by kernel_rfl) (by simp) ?_
          refine AllReadyH.cons (o := ⟨some 3, _, _, _, _, _⟩) rfl (fun K hK => ?_) AllReadyH.nil
          go_simp
          refine hK.out _ _ ?_ (fun hNew => ?_)
          · ((try dsimp only); (first | go_keep | (go_split_ands; refine ⟨?_, ?_⟩ <;> assumption)))
          clear hK K hHeld
          have hHeld := hNew
          clear hNew
          try simp only [Act.put, List.setIfInBounds_toArray, List.set_cons_zero, List.set_cons_succ]
          refine wpAnyH_done (by kernel_rfl) ?_ _
          go_wp2_with fail
          go_ret
          exact HFIN.out
      · have HFIN : Hid (DTickE w db base W Sp R st (Ending.returned (Value.slice sa ss.length sc)) (wr.setCell ⟨db, 10, none⟩ (.bool false))) := Lib.hid (by
          obtain ⟨h1, h2⟩ := dtick_fin HG.out HR.out
          refine ⟨_, ss, rfl, HX.out.1.movedD h2, ?_, h1, HM.out.trans h2⟩
          unfold tickE
          rw [if_neg (by omega), HX.out.2])
        have hne : ((ss.length : Int) == 0) = false := by simp; intro e; exact h0 (by rw [e]; rfl)
        generalize ss.length = XL at *
        clear hS hss hss2 hsl hR hM hlen HJ
        go_wp2_with fail
        go_ret
        exact HFIN.out

end Go.Proofs.Ytkinbngikmcpeaa
