/-
  The code's release: the bodies that the other side has are let go.
-/
import Derived.Test.YtkinbngikmcpeaaDel16
namespace Go.Proofs.Ytkinbngikmcpeaa
open Go.RowKit Go.Maps
set_option linter.unusedVariables false

theorem ackE_same {st : Lk16} {k : Int} (h : k ≤ st.acked) : ackE st k = st := by
  have e1 : max st.acked k.toNat = st.acked := by omega
  have e2 : k.toNat - st.acked = 0 := by omega
  unfold ackE
  rw [e1, e2]
  rfl
theorem flat_dropW (Sp : Nat) (es : List We16) (k : Nat) : (es.drop k).flatMap (weCells Sp) = (es.flatMap (weCells Sp)).drop (k * 2) := by
  induction es generalizing k with
  | nil => simp
  | cons x es ih =>
    cases k with
    | zero => simp
    | succ k =>
      rw [List.drop_succ_cons, List.flatMap_cons, ih, show (k + 1) * 2 = k * 2 + 1 + 1 by omega]
      rfl
theorem we_one (Sp : Nat) (es : List We16) : ∀ u ∈ es.flatMap (weCells Sp), u.oneCell' = true := by
  intro u hu
  obtain ⟨x, _, hx⟩ := List.mem_flatMap.1 hu
  simp only [weCells, List.mem_cons, List.not_mem_nil, or_false] at hx
  rcases hx with rfl | rfl <;> rfl
/-- the row of bodies, known whole -/
theorem LinkAt.block {w : World} {f : Foot} {W Sp R : Nat} {st : Lk16} (h : LinkAt w f W Sp R st) (h0 : 0 < st.out.length) : ∃ g vc cur es, f.va = .slice (some ⟨g, 0, none⟩) st.out.length vc ∧ Box w g 82 cur ∧ st.out.length ≤ vc ∧ vc ≤ 9223372036854775807 ∧ cur.size = vc * 2 ∧ (∀ u ∈ cur.toList, NoU u) ∧ outOf es = st.out ∧ cur.toList.take (st.out.length * 2) = es.flatMap (weCells Sp) ∧ ∀ x ∈ es, x.q.In .u8 w ∧ x.q.n ≤ 65536 := by
  obtain ⟨es, h1, h2, h3⟩ := h.left
  rcases h2.own.2 with ⟨_, h5⟩ | ⟨g, cap, cur, h4, h5, h6, h7, h8, h9, h10⟩
  · omega
  · obtain ⟨cs, hb, hu⟩ := h2.all g (by rw [h4]; rfl)
    have e : cs = cur := by
      have := hb.symm.trans h6
      simpa using this
    subst e
    exact ⟨g, cap, cs, es, h4, hb, h7, h8, h9, hu, h1, h10, h3⟩
theorem rel_fin {w w2 : World} {f : Foot} {W Sp R : Nat} {st : Lk16} (h : LinkAt w f W Sp R st) {g vc a k : Nat} {cur : Array Value} {es : List We16} (hv : f.va = .slice (some ⟨g, 0, none⟩) st.out.length vc) (hc : st.out.length ≤ vc ∧ vc ≤ 9223372036854775807) (he : outOf es = st.out) (hin : ∀ x ∈ es, x.q.In .u8 w ∧ x.q.n ≤ 65536)
    (ha : st.acked < a ∧ a ≤ st.sent) (hk : k = a - st.acked) (hg : w.grownBy w2 (some g)) (hX : Box w2 g 82 cur) (hs : cur.size = vc * 2) (hU : ∀ u ∈ cur.toList, NoU u) (ht : cur.toList.take ((st.out.length - k) * 2) = (es.flatMap (weCells Sp)).drop (k * 2)) :
    LinkAt ((w2.setCell ⟨f.lb, 4, none⟩ (.slice (some ⟨g, 0, none⟩) (st.out.length - k) vc)).setCell ⟨f.lb, 5, none⟩ (.int .i64 a)) ⟨f.lb, f.mb, .slice (some ⟨g, 0, none⟩) (st.out.length - k) vc⟩ W Sp R (ackE st a) ∧
      Moves w ((w2.setCell ⟨f.lb, 4, none⟩ (.slice (some ⟨g, 0, none⟩) (st.out.length - k) vc)).setCell ⟨f.lb, 5, none⟩ (.int .i64 a)) f := by
  have hh : f.has g := .inr (.inr (by rw [hv]; rfl))
  have hap := h.apart
  have hap2 := hap.2 g (by rw [hv]; rfl)
  have hb2 : Box w2 f.lb 77 (linkCells W Sp R st f.va f.mb) := h.box.kept hg (fun e => hap2.1 (Option.some.inj e).symm)
  obtain ⟨w3, hw3⟩ : ∃ w3, w2.setCell ⟨f.lb, 4, none⟩ (.slice (some ⟨g, 0, none⟩) (st.out.length - k) vc) = w3 := ⟨_, rfl⟩
  obtain ⟨w4, hw4⟩ : ∃ w4, w3.setCell ⟨f.lb, 5, none⟩ (.int .i64 a) = w4 := ⟨_, rfl⟩
  have hb3 : Box w3 f.lb 77 ((linkCells W Sp R st f.va f.mb).setIfInBounds 4 (.slice (some ⟨g, 0, none⟩) (st.out.length - k) vc)) := by rw [← hw3]; exact hb2.set 4 _
  have hb4 := hb3.set 5 (.int .i64 a)
  rw [hw4] at hb4
  have g3 : w2.grownBy w3 (some f.lb) := by rw [← hw3]; exact grown_set _ _ _ _
  have g4 : w3.grownBy w4 (some f.lb) := by rw [← hw4]; exact grown_set _ _ _ _
  have m1 : Moves w w2 f := Moves.of_row hg (fun b hb => by cases hb; exact ⟨hh, h.ok _ hh⟩)
  have m2 : Moves w2 w3 f := Moves.of_row g3 (fun b hb => by cases hb; exact ⟨.inl rfl, blkOk_box hb2 (linkCells_noU (by rw [hv]; exact noU_slice _ _ _))⟩)
  have m3 : Moves w3 w4 f := Moves.of_row g4 (fun b hb => by cases hb; exact ⟨.inl rfl, blkOk_box hb3 (fun u hu => linkCells_noU (W := W) (Sp := Sp) (R := R) (st := st) (va := .slice (some ⟨g, 0, none⟩) (st.out.length - k) vc) (mb := f.mb) (noU_slice _ _ _) u hu)⟩)
  have hm : Moves w w4 f := (m1.trans (FootTo.refl _ _) m2).trans (FootTo.refl _ _) m3
  have hng : g ≠ f.lb := hap2.1
  have hX4 : Box w4 g 82 cur := (hX.kept g3 (fun e => hng (Option.some.inj e))).kept g4 (fun e => hng (Option.some.inj e))
  obtain ⟨F, hF, hFit⟩ := h.map
  have hgd := h.good.ack (k := (a : Int)) (by omega)
  have hl : es.length = st.out.length := by rw [← he, outOf_len]
  have hol : (ackE st a).out.length = st.out.length - k := by simp [ackE, hk]
  rw [hw3, hw4]
  refine ⟨⟨?_, ⟨es.drop k, ?_, ?_, fun x hx => ?_⟩, ⟨F, ?_, hFit.1, fun n x hx => let ⟨q, a, b, c⟩ := hFit.2 n x hx; ⟨q, a, hm.rows _ b, c⟩⟩, hgd⟩, hm⟩
  · have e1 : (max st.acked (a : Int).toNat) = a := by omega
    have : (ackE st a).acked = a := e1
    simp only [linkCells] at hb4 ⊢
    rw [this]
    exact hb4
  · have : (ackE st a).out = st.out.drop k := by simp [ackE, hk]
    rw [this, ← he, outOf, outOf, List.map_drop]
  · rw [hol]
    refine ⟨⟨?_, .inr ⟨g, vc, cur, rfl, Nat.zero_le _, hX4, by omega, by unfold maxLen; omega, hs, ?_⟩⟩, fun g' e => ?_⟩
    · rw [flat_len (weCells Sp) 2 (weCells_len Sp), List.length_drop]; omega
    · rw [ht, flat_dropW]
    · simp only [Value.ownBlock, Option.some.injEq] at e
      subst e
      exact ⟨cur, hX4, hU⟩
  · have := hin x (List.mem_of_mem_drop hx)
    exact ⟨hm.rows _ this.1, this.2⟩
  · exact ((hF.kept hg (fun e => hap2.2 (Option.some.inj e).symm)).kept g3 (fun e => hap.1 (Option.some.inj e).symm)).kept g4 (fun e => hap.1 (Option.some.inj e).symm)

set_option maxHeartbeats 1600000 in
set_option maxRecDepth 100000 in
theorem release16 {w : World} {f : Foot} {W Sp R : Nat} {st : Lk16} (h : LinkAt w f W Sp R st) (a : Nat) (ha : a ≤ st.sent) (hbd : st.acked + st.out.length ≤ 1000000000) :
    Calls Try.prog 36 #[.pointer (some ⟨f.lb, 0, none⟩), .int .i64 a] w fun e w' => e = .returned (.tuple #[]) ∧ Ends w w' f W Sp R (ackE st a) := by
  have c5 : w.cell? ⟨f.lb, 5, none⟩ = some (.int .i64 st.acked) := h.box.cell 5
  have H0 := Lib.hid h
  by_cases hlt : st.acked < a
  · have hlt2 : (st.acked : Int) < (a : Int) := by omega
    have hso := h.good.sent
    obtain ⟨k, hk⟩ : ∃ k, k = a - st.acked := ⟨_, rfl⟩
    have hw : IntKind.i64.wrap ((a : Int) - (st.acked : Int)) = (k : Int) := by rw [IntWalk.i64_in _ (by omega)]; omega
    obtain ⟨g, vc, cur, es, hv, hX, hc1, hc2, hs, hU, he, ht, hin⟩ := h.block (by omega)
    have D1 := delete16 w.drew g st.out.length k vc cur hX.drew hU (fun u hu => by rw [ht] at hu; exact we_one Sp es u hu) (by omega) hc1 hc2 hs
    have c4 : w.cell? ⟨f.lb, 4, none⟩ = some (.slice (some ⟨g, 0, none⟩) st.out.length vc) := by rw [← hv]; exact h.box.cell 4
    have HK := Lib.hid (And.intro hk (And.intro hlt (And.intro hv (And.intro hc1 (And.intro hc2 (And.intro he (And.intro ht hin)))))))
    have HB0 := Lib.hid (h.apart.2 g (by rw [hv]; rfl)).1
    have HA := Lib.hid ha
    clear h hso hk hX hU hs he ht hin hlt hbd ha hc1 hc2 hv
    generalize hN : st.out.length = N at *
    have HN := Lib.hid hN
    clear hN
    go_enter Try.func36, Try.ntmps36
    go_upto_region 1 with fail
    refine wp_region_noPanic ?_
    refine wp_region_Z (S := (fun W => W.cell? ⟨f.lb, 4, none⟩ = some (.slice (some ⟨g, 0, none⟩) N vc) ∧ W.cell? ⟨f.lb, 5, none⟩ = some (.int .i64 st.acked))) 14 (by kernel_rfl) ?_ (fun hHeld => ?_)
    · (first | go_keep | (go_split_ands; refine ⟨?_, ?_⟩ <;> assumption))
    refine wpAnyZ_take (i := 0) (oi := ⟨some 10, _, _, _, _, _⟩) (v := ?_) rfl (by kernel_rfl) (by kernel_rfl) (by kernel_rfl) (by kernel_rfl) (fun _ _ _ h => h) (Or.inl ⟨by rfl, ?hy1⟩) hHeld ?rest1
    case hy1 => (intro W hSw; (try dsimp only at hSw); go_simp; (try with_reducible rfl))
    simp only [Act.put, List.setIfInBounds_toArray, List.set_cons_zero, List.set_cons_succ]
    refine wpAnyZ_take (i := 1) (oi := ⟨some 11, _, _, _, _, _⟩) (v := ?_) rfl (by kernel_rfl) (by kernel_rfl) (by kernel_rfl) (by kernel_rfl) (fun _ _ _ h => h) (Or.inl ⟨by rfl, ?hy2⟩) hHeld ?rest2
    case hy2 => (intro W hSw; (try dsimp only at hSw); go_simp; (try with_reducible rfl))
    simp only [Act.put, List.setIfInBounds_toArray, List.set_cons_zero, List.set_cons_succ]
    refine wpAnyZ_take (i := 2) (oi := ⟨some 12, _, _, _, _, _⟩) (v := ?_) rfl (by kernel_rfl) (by kernel_rfl) (by kernel_rfl) (by kernel_rfl) (fun _ _ _ h => h) (Or.inl ⟨by rfl, ?hy3⟩) hHeld ?rest3
    case hy3 => (intro W hSw; (try dsimp only at hSw); go_simp; (try with_reducible rfl))
    simp only [Act.put, List.setIfInBounds_toArray, List.set_cons_zero, List.set_cons_succ]
    refine wpAnyZ_take (i := 3) (oi := ⟨some 13, _, _, _, _, _⟩) (v := ?_) rfl (by kernel_rfl) (by kernel_rfl) (by kernel_rfl) (by kernel_rfl) (fun _ _ _ h => h) (Or.inl ⟨by rfl, ?hy4⟩) hHeld ?rest4
    case hy4 => (intro W hSw; (try dsimp only at hSw); go_simp; (try with_reducible rfl))
    simp only [Act.put, List.setIfInBounds_toArray, List.set_cons_zero, List.set_cons_succ]
    refine wpAnyZ_take (i := 4) (oi := ⟨some 14, _, _, _, _, _⟩) (v := ?_) rfl (by kernel_rfl) (by kernel_rfl) (by kernel_rfl) (by kernel_rfl) (fun _ _ _ h => h) (Or.inl ⟨by rfl, ?hy5⟩) hHeld ?rest5
    case hy5 => (intro W hSw; (try dsimp only at hSw); go_simp; (try with_reducible rfl))
    simp only [Act.put, List.setIfInBounds_toArray, List.set_cons_zero, List.set_cons_succ]
    refine wpAnyZ_take (i := 5) (oi := ⟨some 15, _, _, _, _, _⟩) (v := ?_) rfl (by kernel_rfl) (by kernel_rfl) (by kernel_rfl) (by kernel_rfl) (fun _ _ _ h => h) (Or.inl ⟨by rfl, ?hy6⟩) hHeld ?rest6
    case hy6 => (intro W hSw; (try dsimp only at hSw); go_simp; (try with_reducible rfl))
    simp only [Act.put, List.setIfInBounds_toArray, List.set_cons_zero, List.set_cons_succ]
    refine wpAnyZ_take (i := 6) (oi := ⟨some 16, _, _, _, _, _⟩) (v := ?_) rfl (by kernel_rfl) (by kernel_rfl) (by kernel_rfl) (by kernel_rfl) (fun _ _ _ h => h) (Or.inl ⟨by rfl, ?hy7⟩) hHeld ?rest7
    case hy7 => (intro W hSw; (try dsimp only at hSw); go_simp; (try with_reducible rfl))
    simp only [Act.put, List.setIfInBounds_toArray, List.set_cons_zero, List.set_cons_succ]
    refine wpAnyZ_take (i := 7) (oi := ⟨some 17, _, _, _, _, _⟩) (v := ?_) rfl (by kernel_rfl) (by kernel_rfl) (by kernel_rfl) (by kernel_rfl) (fun _ _ _ h => h) (Or.inl ⟨by rfl, ?hy8⟩) hHeld ?rest8
    case hy8 => (intro W hSw; (try dsimp only at hSw); go_simp; (try with_reducible rfl))
    simp only [Act.put, List.setIfInBounds_toArray, List.set_cons_zero, List.set_cons_succ]
    refine wpAnyZ_take (i := 8) (oi := ⟨some 18, _, _, _, _, _⟩) (v := ?_) rfl (by kernel_rfl) (by kernel_rfl) (by kernel_rfl) (by kernel_rfl) (fun _ _ _ h => h) (Or.inl ⟨by rfl, ?hy9⟩) hHeld ?rest9
    case hy9 => (intro W hSw; (try dsimp only at hSw); go_simp; (try with_reducible rfl))
    simp only [Act.put, List.setIfInBounds_toArray, List.set_cons_zero, List.set_cons_succ]
    refine wpAnyZ_take (i := 9) (oi := ⟨some 19, _, _, _, _, _⟩) (v := ?_) rfl (by kernel_rfl) (by kernel_rfl) (by kernel_rfl) (by kernel_rfl) (fun _ _ _ h => h) (Or.inl ⟨by rfl, ?hy10⟩) hHeld ?rest10
    case hy10 => (intro W hSw; (try dsimp only at hSw); go_simp; (try with_reducible rfl))
    simp only [Act.put, List.setIfInBounds_toArray, List.set_cons_zero, List.set_cons_succ]
    refine wpAnyZ_take (i := 10) (oi := ⟨some 20, _, _, _, _, _⟩) (v := ?_) rfl (by kernel_rfl) (by kernel_rfl) (by kernel_rfl) (by kernel_rfl) (fun _ _ _ h => h) (Or.inl ⟨by rfl, ?hy11⟩) hHeld ?rest11
    case hy11 => (intro W hSw; (try dsimp only at hSw); go_simp; (try with_reducible rfl))
    simp only [Act.put, List.setIfInBounds_toArray, List.set_cons_zero, List.set_cons_succ]
    refine wpAnyZ_ready (rs := [11]) (by kernel_rfl) (by simp) ?_
    refine (AllReadyZ.cons (o := ⟨some 21, _, _, _, _, _⟩) rfl (fun K hK => ?_) AllReadyZ.nil)
    go_simp
    go_at_call 41
    refine D1.mono ?_
    rintro e w2 ⟨rfl, hg2, cur2, hX2, hs2, hU2, ht2⟩
    have hb2 : Box w2 f.lb 77 (linkCells W Sp R st f.va f.mb) := Box.kept (Box.drew H0.out.box) hg2 (fun e => HB0.out (Option.some.inj e).symm)
    have c42 : w2.cell? ⟨f.lb, 4, none⟩ = some (.slice (some ⟨g, 0, none⟩) N vc) := by rw [← HK.out.2.2.1]; exact hb2.cell 4
    have c52 : w2.cell? ⟨f.lb, 5, none⟩ = some (.int .i64 st.acked) := hb2.cell 5
    have f42 : w2.frozen? ⟨f.lb, 4, none⟩ = false := hb2.frozen 4
    have HR := Lib.hid (And.intro hg2 (And.intro hX2 (And.intro hs2 (And.intro hU2 ht2))))
    have HB2 := Lib.hid hb2
    clear hg2 hX2 hs2 hU2 ht2 hb2 D1
    refine hK.out _ _ ?_ (fun hNew => ?_)
    · ((try dsimp only); (first | go_keep | (go_split_ands; refine ⟨?_, ?_⟩ <;> assumption)))
    clear hK K hHeld
    have hHeld := hNew
    clear hNew
    try simp only [Act.put, List.setIfInBounds_toArray, List.set_cons_zero, List.set_cons_succ]
    refine wpAnyZ_ready (rs := [12]) (by kernel_rfl) (by simp) ?_
    refine (AllReadyZ.cons (o := ⟨some 22, _, _, _, _, _⟩) rfl (fun K hK => ?_) AllReadyZ.nil)
    go_simp
    refine hK.out _ _ ?_ (fun hNew => ?_)
    · ((try dsimp only); (first | go_keep | (go_split_ands; refine ⟨?_, ?_⟩ <;> assumption)))
    clear hK K hHeld
    have hHeld := hNew
    clear hNew
    try simp only [Act.put, List.setIfInBounds_toArray, List.set_cons_zero, List.set_cons_succ]
    refine wpAnyZ_take (i := 13) (oi := ⟨some 23, _, _, _, _, _⟩) (v := ?_) rfl (by kernel_rfl) (by kernel_rfl) (by kernel_rfl) (by kernel_rfl) (fun _ _ _ h => h) (Or.inl ⟨by rfl, ?hy12⟩) hHeld ?rest12
    case hy12 => (intro W hSw; (try dsimp only at hSw); go_simp; (try with_reducible rfl))
    simp only [Act.put, List.setIfInBounds_toArray, List.set_cons_zero, List.set_cons_succ]
    refine wpAnyZ_ready (rs := [14]) (by kernel_rfl) (by simp) ?_
    refine AllReadyZ.last (o := ⟨none, _, _, _, _, _⟩) rfl (fun K hK => ?_) AllReadyZ.nil
    go_simp
    refine hK.out _ _ ?_
    clear hK K hHeld
    try simp only [Act.put]
    refine wpAnyZ_done (by kernel_rfl) ?_ _
    refine NoPanic.normal ?_
    have f53 : (w2.setCell ⟨f.lb, 4, none⟩ (.slice (some ⟨g, 0, none⟩) (N - k) vc)).frozen? ⟨f.lb, 5, none⟩ = false := (HB2.out.set 4 _).frozen 5
    have c53 : (w2.setCell ⟨f.lb, 4, none⟩ (.slice (some ⟨g, 0, none⟩) (N - k) vc)).cell? ⟨f.lb, 5, none⟩ = some (.int .i64 st.acked) := (HB2.out.set 4 _).cell 5
    have HFIN : Hid (Ends w ((w2.setCell ⟨f.lb, 4, none⟩ (.slice (some ⟨g, 0, none⟩) (N - k) vc)).setCell ⟨f.lb, 5, none⟩ (.int .i64 a)) f W Sp R (ackE st a)) := Lib.hid (by
      obtain ⟨hk, hlt, hv, hc1, hc2, he, ht, hin⟩ := HK.out
      obtain ⟨h1, h2, h3, h4, h5⟩ := HR.out
      rw [ht] at h5
      have hNN := HN.out
      subst hNN
      have hg0 : w.grownBy w2 (some g) := ⟨h1.os, h1.tape, h1.output, h1.size, h1.block⟩
      obtain ⟨r1, r2⟩ := rel_fin H0.out hv ⟨hc1, hc2⟩ he hin ⟨hlt, HA.out⟩ hk hg0 h2 h3 h4 h5
      exact ⟨_, r1, ⟨rfl, fun b hb => by
        rcases hb with hb | hb | hb
        · exact .inl (.inl hb)
        · exact .inl (.inr (.inl hb))
        · exact .inl (.inr (.inr (by rw [hv]; exact hb)))⟩, r2⟩)
    clear HR HB2 c42 c52
    go_wp2_with fail
    exact bodyPost_end (v := .tuple #[]) (results_none rfl _ _ _) rfl ⟨rfl, HFIN.out⟩
  · have e1 : ackE st a = st := ackE_same (by omega)
    rw [e1]
    have hlt2 : ¬ (st.acked : Int) < (a : Int) := by omega
    clear h e1 hbd ha
    go_enter Try.func36, Try.ntmps36
    go_wp2
    exact bodyPost_end (v := .tuple #[]) (results_none rfl _ _ _) rfl ⟨rfl, H0.out.same (Below.refl _ _)⟩

end Go.Proofs.Ytkinbngikmcpeaa
