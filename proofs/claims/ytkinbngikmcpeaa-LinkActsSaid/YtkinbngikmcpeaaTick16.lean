/-
  The code's Tick.
-/
import Derived.Test.YtkinbngikmcpeaaTickM16
namespace Go.Proofs.Ytkinbngikmcpeaa
open Go.RowKit Go.Maps
set_option linter.unusedVariables false

/-- Tick's loop, k bodies through -/
def TickI (w : World) (f : Foot) (W Sp R : Nat) (st : Lk16) (k : Nat) (v : Value) (wr : World) : Prop :=
  ∃ xs, SegsAt wr w.heap.size v xs ∧ xs.map sgOf = segsL st.ep st.acked st.got (sends W Sp (st.out.take k)) ∧ xs.length ≤ k ∧ LinkAt wr f W Sp R (midSt W Sp st k) ∧ Moves w wr f
set_option maxHeartbeats 1600000 in
set_option maxRecDepth 100000 in
theorem tick16 {w : World} {f : Foot} {W Sp R : Nat} {st : Lk16} (h : LinkAt w f W Sp R st) (hbd : st.acked + st.out.length ≤ 1000000000) :
    Calls Try.prog 14 #[.pointer (some ⟨f.lb, 0, none⟩)] w fun e w' => ∃ v xs, e = .returned v ∧ SegsAt w' w.heap.size v xs ∧ xs.map sgOf = (tickE W Sp st).1 ∧ LinkAt w' f W Sp R (tickE W Sp st).2 ∧ Moves w w' f := by
  obtain ⟨va, vc, hva⟩ := h.shape
  have C1 := mayGo16 h hva
  have H0 := Lib.hid h
  have HVA := Lib.hid hva
  have HBD := Lib.hid hbd
  have HG := Lib.hid h.good
  obtain ⟨n, hn⟩ : ∃ n, st.out.length = n := ⟨_, rfl⟩
  obtain ⟨m, hm⟩ : ∃ m, min W n = m := ⟨_, rfl⟩
  rw [hn, hm] at C1
  have HN : Hid (st.out.length = n ∧ min W n = m) := Lib.hid ⟨hn, hm⟩
  have hmn : m ≤ n ∧ n ≤ 1000000000 := by omega
  clear h hva hbd hn hm
  go_enter Try.func14, Try.ntmps14
  go_wp2_with fail
  refine C1.mono ?_
  rintro e w1 ⟨rfl, hb1⟩
  have HB1 := Lib.hid hb1
  clear C1 hb1
  go_wp2_with fail
  go_loopw [12, 3] (fun i v wr => ∃ k : Nat, k ≤ m ∧ i = .int .i64 k ∧ Hid (TickI w f W Sp R st k v wr)) (fun i _ _ => m - (intOf i).toNat)
  case atStart => exact ⟨0, by omega, rfl, Lib.hid ⟨[], segs_nil _ _, by simp [sends, segsL], Nat.le_refl _, by rw [mid_zero]; exact H0.out.bel HB1.out, Moves.of_below HB1.out _⟩⟩
  case round =>
    obtain ⟨k, hk, rfl, HJ⟩ := hrel
    by_cases hlt : k < m
    · have hlt2 : (k : Int) < (m : Int) := by omega
      have hkn : k < st.out.length := by have := HN.out; omega
      have HKN := Lib.hid hkn
      obtain ⟨xs, hS, hxs, hxl, hL, hM⟩ := HJ.out
      have hml := mid_len (W := W) (Sp := Sp) (st := st) (k := k) (by omega)
      obtain ⟨g, c, hv, hc1, hc2, q, hqi, hqn, hqv, z0, z1, zf⟩ := hL.body (k := k) (by omega)
      have hat : (midSt W Sp st k).out[k]'(by omega) = st.out[k] := (midS_at (by omega) hkn).trans (if_neg (by omega))
      rw [hat] at z1 hqv
      have hvv := hv
      rw [HVA.out] at hvv
      simp only [Value.slice.injEq] at hvv
      obtain ⟨rfl, -, rfl⟩ := hvv
      obtain ⟨T, hT⟩ : ∃ T, tk16 Sp st.out[k].s = T := ⟨_, rfl⟩
      rw [hT] at z1
      have hages := HG.out.ages k hkn
      have hkw : k < W := by have := HN.out; omega
      have hsp := HG.out.pm.2.1
      have hst : Hid (LinkAt wr f W Sp R (midSt W Sp st k) ∧ (∃ hl : k < (midSt W Sp st k).out.length, (midSt W Sp st k).out[k] = st.out[k]) ∧ f.va = .slice (some ⟨g, 0, none⟩) (midSt W Sp st k).out.length vc) := Lib.hid ⟨hL, ⟨by omega, hat⟩, hv⟩
      have HSX := Lib.hid (And.intro hS (And.intro hxs (And.intro hxl hM)))
      have HQ := Lib.hid (And.intro hqi (And.intro hqn hqv))
      have hnc : m ≤ vc := by rw [hml] at hc1; have := HN.out; omega
      clear hS hxs hxl hL hM hml hv hqi hqn hqv hat HJ hc1
      cases hgo : goes16 W Sp k st.out[k] with
      | false =>
        have hs0 : 0 ≤ st.out[k].s ∧ st.out[k].s + 1 < Sp := by
          unfold goes16 at hgo
          rw [decide_eq_false_iff_not] at hgo
          omega
        have hT1 : T = Sp - st.out[k].s := by rw [← hT]; unfold tk16; rw [if_neg (by omega)]
        have hw1 : IntKind.i64.wrap (T - 1) = T - 1 := IntWalk.i64_in _ (by omega)
        have hpos : 0 < T - 1 := by omega
        have HT1 : Hid (tk16 Sp (st.out[k].s + 1) = T - 1) := Lib.hid (by unfold tk16; rw [if_neg (by omega)]; omega)
        have HS0 := Lib.hid hs0
        clear hT hT1 hages hkw hsp hs0
        have hpos2 : 1 < T := by omega
        have HFIN : Hid (TickI w f W Sp R st (k + 1) u3 (wr.setCell ⟨g, k * 2 + 1, none⟩ (.int .i64 (T - 1)))) := Lib.hid (by
          obtain ⟨hL, ⟨hl, hat⟩, hv⟩ := hst.out
          obtain ⟨s', hs'⟩ : ∃ s', s' = st.out[k].s + 1 := ⟨_, rfl⟩
          have ht : tk16 Sp s' = T - 1 := by rw [hs']; exact HT1.out
          have e3 := mid_next hkn hl ((step_no hgo HS0.out.1).trans hs'.symm) (if_neg (fun h => Bool.noConfusion (hgo.symm.trans h)))
          have hgd := HG.out.mid (k := k + 1) (by omega)
          rw [e3] at hgd
          obtain ⟨h1, h2⟩ := hL.ticks hl hv _ hgd
          rw [ht] at h1 h2
          obtain ⟨hS, hxs, hxl, hM⟩ := HSX.out
          refine ⟨xs, hS.moved h2, ?_, by omega, by rw [e3]; exact h1, hM.trans (FootTo.refl _ _) h2⟩
          rw [hxs, sends_no hkn hgo])
        go_wp2_with fail
        go_roundw
        case rel => exact ⟨k + 1, by omega, by go_num, HFIN⟩
        case measure => simp [intOf]; omega
      | true =>
        have hT1 : T = 1 := by
          unfold goes16 at hgo
          rw [decide_eq_true_eq] at hgo
          rw [← hT]
          unfold tk16
          split <;> omega
        subst hT1
        have hlb := hst.out.1.box
        clear hT hages
        have hne : f.lb ≠ g := (hst.out.1.apart.2 g (by rw [hst.out.2.2]; rfl)).1.symm
        have B1 : ∀ u, Box (wr.setCell ⟨g, k * 2 + 1, none⟩ u) f.lb 77 (linkCells W Sp R (midSt W Sp st k) f.va f.mb) := fun u => hlb.other _ hne
        have B2 : ∀ u v, Box ((wr.setCell ⟨g, k * 2 + 1, none⟩ u).setCell ⟨g, k * 2 + 1, none⟩ v) f.lb 77 (linkCells W Sp R (midSt W Sp st k) f.va f.mb) := fun u v => (B1 u).other _ hne
        obtain ⟨S1, hS1⟩ : ∃ S1, (midSt W Sp st k).sent = S1 := ⟨_, rfl⟩
        have d1 : ∀ u, (wr.setCell ⟨g, k * 2 + 1, none⟩ u).cell? ⟨f.lb, 1, none⟩ = some (.int .i64 Sp) := fun u => (B1 u).cell 1
        have d5 : ∀ u v, ((wr.setCell ⟨g, k * 2 + 1, none⟩ u).setCell ⟨g, k * 2 + 1, none⟩ v).cell? ⟨f.lb, 5, none⟩ = some (.int .i64 st.acked) := fun u v => (B2 u v).cell 5
        have d6 : ∀ u v, ((wr.setCell ⟨g, k * 2 + 1, none⟩ u).setCell ⟨g, k * 2 + 1, none⟩ v).cell? ⟨f.lb, 6, none⟩ = some (.int .i64 S1) := fun u v => by have := (B2 u v).cell 6; rw [← hS1]; exact this
        have f6 : ∀ u v, ((wr.setCell ⟨g, k * 2 + 1, none⟩ u).setCell ⟨g, k * 2 + 1, none⟩ v).frozen? ⟨f.lb, 6, none⟩ = false := fun u v => (B2 u v).frozen 6
        have n1 : IntKind.i64.wrap ((st.acked : Int) + 1) = (st.acked : Int) + 1 := IntWalk.i64_in _ (by have := HBD.out; omega)
        have n2 : IntKind.i64.wrap ((st.acked : Int) + 1 + (k : Int)) = (st.acked : Int) + 1 + (k : Int) := IntWalk.i64_in _ (by have := HBD.out; omega)
        have HS1 := Lib.hid hS1
        clear hS1 B1 B2 hlb
        go_upto_region 12 with fail
        generalize hX : (if (S1 : Int) < (st.acked : Int) + 1 + (k : Int) then (st.acked : Int) + 1 + (k : Int) else (S1 : Int)) = X
        have z0' : (((wr.setCell ⟨g, k * 2 + 1, none⟩ (.int .i64 0)).setCell ⟨g, k * 2 + 1, none⟩ (.int .i64 Sp)).setCell ⟨f.lb, 6, none⟩ (.int .i64 X)).cell? ⟨g, k * 2, none⟩ = some (.slice q.a q.n q.cap) := by
          rw [World.cell?_setCell_other _ _ _ _ (by first | (simp; done) | (simp; intro e; exact absurd e hne)), World.cell?_setCell_other _ _ _ _ (by simp), World.cell?_setCell_other _ _ _ _ (by simp)]
          exact z0
        generalize hw3 : World.setCell _ _ _ = w3 at z0' ⊢
        have HL3 : Hid (LinkAt w3 f W Sp R (midSt W Sp st (k + 1)) ∧ Moves wr w3 f) := Lib.hid (by
          obtain ⟨hL, ⟨hl, hat⟩, hv⟩ := hst.out
          have e3 := mid_next hkn hl (step_yes hgo) (if_pos hgo)
          have e4 := mid_next (W := W) (Sp := Sp) hkn hl (step_yes hgo) (if_pos hgo)
          have hgd := HG.out.mid (k := k + 1) (by omega)
          have hgd1 : Good16 W Sp R { midSt W Sp st k with out := (midSt W Sp st k).out.set k ⟨0, (midSt W Sp st k).out[k].b⟩ } := by
            have h0 := HG.out.mid (k := k) (by omega)
            refine ⟨hgd.pm, by rw [List.length_set]; exact h0.room, ⟨h0.sent.1, by rw [List.length_set]; exact h0.sent.2⟩, fun i hi => ?_, h0.early, h0.ep⟩
            have h9 := hgd.ages i (by rw [e3]; exact hi)
            simp only [e3] at h9
            exact h9
          obtain ⟨h1, h2⟩ := hL.ticks hl hv _ hgd1
          have ht0 : tk16 Sp 0 = Sp := by unfold tk16; simp
          rw [ht0] at h1 h2
          rw [set_set] at hw3
          rw [e3] at hgd
          have hv3 : X = ((max (midSt W Sp st k).sent (st.acked + 1 + k) : Nat) : Int) := by rw [HS1.out, ← hX]; split <;> omega
          rw [hv3] at hw3
          obtain ⟨h4, h5⟩ := h1.own (w' := w3) (st' := { midSt W Sp st k with out := (midSt W Sp st k).out.set k ⟨0, (midSt W Sp st k).out[k].b⟩, sent := max (midSt W Sp st k).sent (st.acked + 1 + k) }) (by rw [← hw3]; exact h1.box.set 6 _) (by rw [← hw3]; exact grown_set _ _ _ _) rfl rfl hgd
          exact ⟨by rw [e3]; exact h4, h2.trans (FootTo.refl _ _) h5⟩)
        clear hw3 hX d1 d5 d6 f6 n1 n2 hne z1 zf
        have SG := segment16 HL3.out.1 ((st.acked : Int) + 1 + (k : Int)) q (HL3.out.2.rows q HQ.out.1) HQ.out.2.1
        clear z0
        go_wp2_with fail
        refine SG.mono ?_
        rintro e w4 ⟨g4, rfl, hgi, hgv, hga, hb4⟩
        obtain ⟨hS, hxs, hxl, hM⟩ := HSX.out
        have hsz : w.heap.size ≤ w4.heap.size := Nat.le_trans hM.size (Nat.le_trans HL3.out.2.size hb4.size)
        have hS4 := (hS.moved HL3.out.2).bel hb4
        obtain ⟨gr, cap, w5, hrun, hS5, hg5, hv5, hr5⟩ := hS4.next (by have h1 := HG.out.pm.1.2; have h2 := HN.out; omega) hsz ⟨st.ep, (st.acked : Int) + 1 + (k : Int), st.got, g4⟩ hgi (by show g4.n ≤ 65536; have h1 := hgi.1.1; rw [hgv] at h1; have h2 := HQ.out.1.1.1; have := HQ.out.2.1; omega)
        have HFIN : Hid (TickI w f W Sp R st (k + 1) (.slice (some ⟨gr, 0, none⟩) (xs.length + 1) cap) w5) := Lib.hid (by
          have hm4 : Moves w w4 f := (hM.trans (FootTo.refl _ _) HL3.out.2).trans (FootTo.refl _ _) (Moves.of_below hb4 f)
          refine ⟨_, hS5, ?_, by simp; omega, (HL3.out.1.bel hb4).other hg5 (fun b e => ⟨_, (hv5 b e).2, by decide, by decide⟩), hm4.new hg5 (fun b e => (hv5 b e).1) hr5⟩
          rw [List.map_append, hxs, sends_yes HKN.out hgo, segsL, segsL, List.map_append]
          simp only [List.map_cons, List.map_nil, sgOf, hgv, HQ.out.2.2]
          simp
          rfl)
        obtain ⟨XL, hXL⟩ : ∃ XL, xs.length = XL := ⟨_, rfl⟩
        rw [hXL] at hrun HFIN
        clear hS hxs hxl hM hsz hS4 hS5 hg5 hv5 hr5 hgi hgv hga hb4 hXL SG z0' hgo
        go_wp2_with (first | (at_builtin; refine wpList_append_run (by rfl) _ _ _ (by rfl) _ _ (by rfl) (by rfl) hrun ?_))
        go_roundw
        case rel => exact ⟨k + 1, by omega, by go_num, HFIN⟩
        case measure => simp [intOf]; omega
    · obtain rfl : k = m := by omega
      obtain ⟨xs, hS, hxs, hxl, hL, hM⟩ := HJ.out
      have hkm : min W st.out.length = k := by have := HN.out; omega
      rw [← hkm, sends_min] at hxs
      rw [← hkm] at hL
      obtain ⟨sa, sc, rfl⟩ := hS.row.shape
      have hlen : xs.length = (sends W Sp st.out).length := by
        have := congrArg List.length hxs
        simpa [segsL] using this
      have o9 : wr.cell? ⟨f.lb, 9, none⟩ = some (.bool st.owes) := hL.box.cell 9
      have f9 : wr.frozen? ⟨f.lb, 9, none⟩ = false := hL.box.frozen 9
      have HL := Lib.hid hL
      have HM := Lib.hid hM
      have HX := Lib.hid (And.intro hS hxs)
      by_cases h0 : xs.length = 0
      · cases how : st.owes with
        | false =>
          have HFIN : Hid (∃ v ys, Ending.returned (Value.slice sa xs.length sc) = .returned v ∧ SegsAt (wr.setCell ⟨f.lb, 9, none⟩ (.bool false)) w.heap.size v ys ∧ ys.map sgOf = (tickE W Sp st).1 ∧ LinkAt (wr.setCell ⟨f.lb, 9, none⟩ (.bool false)) f W Sp R (tickE W Sp st).2 ∧ Moves w (wr.setCell ⟨f.lb, 9, none⟩ (.bool false)) f) := Lib.hid (by
            obtain ⟨h1, h2⟩ := tick_fin HG.out HL.out
            refine ⟨_, xs, rfl, HX.out.1.moved h2, ?_, h1, HM.out.trans (FootTo.refl _ _) h2⟩
            rw [List.length_eq_zero_iff.1 h0]
            unfold tickE
            rw [if_pos (by omega), how]
            rfl)
          rw [how] at o9
          rw [h0] at HFIN ⊢
          clear hS hxs hL hM hlen how h0 hkm hxl HJ
          go_wp2_with fail
          go_ret
          exact HFIN.out
        | true =>
          have SG := segment16 hL 0 ⟨none, 0, 0, []⟩ ⟨Elems.nil_ _ _ _, Nat.le_refl _, by show 0 ≤ _; omega, ⟨fun _ => rfl, fun x e _ => by cases e⟩⟩ (by show 0 ≤ _; omega)
          have HZ : Hid (xs = [] ∧ (tickE W Sp st).1 = [⟨st.ep, 0, st.got, []⟩]) := Lib.hid ⟨List.length_eq_zero_iff.1 h0, by unfold tickE; rw [if_pos (by omega), how]; rfl⟩
          have HOW := Lib.hid how
          rw [how] at o9
          rw [h0]
          clear hS hxs hL hM hlen how h0 hkm hxl HJ
          go_wp2_with fail
          refine SG.mono ?_
          rintro e w4 ⟨g4, rfl, hgi, hgv, hga, hb4⟩
          have hsz : w.heap.size ≤ w4.heap.size := Nat.le_trans HM.out.size hb4.size
          have hS4 := HX.out.1.bel hb4
          rw [HZ.out.1] at hS4
          obtain ⟨gr, cap, w5, hrun, hS5, hg5, hv5, hr5⟩ := hS4.next (by simp) hsz ⟨st.ep, 0, st.got, g4⟩ hgi (by show g4.n ≤ 65536; have h1 := hgi.1.1; rw [hgv] at h1; simp at h1; omega)
          have HL5 : Hid (LinkAt w5 f W Sp R (midSt W Sp st (min W st.out.length))) := Lib.hid ((HL.out.bel hb4).other hg5 (fun b e => ⟨_, (hv5 b e).2, by decide, by decide⟩))
          have hm5 : Moves w w5 f := (HM.out.trans (FootTo.refl _ _) (Moves.of_below hb4 f)).new hg5 (fun b e => (hv5 b e).1) hr5
          have q9 : w5.cell? ⟨f.lb, 9, none⟩ = some (.bool true) := by have h9 := HL5.out.box.cell 9; have h8 : (midSt W Sp st (min W st.out.length)).owes = true := HOW.out; simp only [linkCells] at h9; rw [h8] at h9; exact h9
          have g9 : w5.frozen? ⟨f.lb, 9, none⟩ = false := HL5.out.box.frozen 9
          have HFIN : Hid (∃ v ys, Ending.returned (Value.slice (some ⟨gr, 0, none⟩) (0 + 1) cap) = .returned v ∧ SegsAt (w5.setCell ⟨f.lb, 9, none⟩ (.bool false)) w.heap.size v ys ∧ ys.map sgOf = (tickE W Sp st).1 ∧ LinkAt (w5.setCell ⟨f.lb, 9, none⟩ (.bool false)) f W Sp R (tickE W Sp st).2 ∧ Moves w (w5.setCell ⟨f.lb, 9, none⟩ (.bool false)) f) := Lib.hid (by
            obtain ⟨h1, h2⟩ := tick_fin HG.out HL5.out
            refine ⟨_, _, rfl, hS5.moved h2, ?_, h1, hm5.trans (FootTo.refl _ _) h2⟩
            rw [HZ.out.2]
            simp [sgOf, hgv])
          clear hsz hS4 hS5 hg5 hv5 hr5 hgi hgv hga hb4 SG hm5 o9 f9
          simp only [List.length_nil] at hrun
          go_wp2_with (first | (at_builtin; refine wpList_append_run (by rfl) _ _ _ (by rfl) _ _ (by rfl) (by rfl) hrun ?_))
          go_ret
          exact HFIN.out
      · have HFIN : Hid (∃ v ys, Ending.returned (Value.slice sa xs.length sc) = .returned v ∧ SegsAt (wr.setCell ⟨f.lb, 9, none⟩ (.bool false)) w.heap.size v ys ∧ ys.map sgOf = (tickE W Sp st).1 ∧ LinkAt (wr.setCell ⟨f.lb, 9, none⟩ (.bool false)) f W Sp R (tickE W Sp st).2 ∧ Moves w (wr.setCell ⟨f.lb, 9, none⟩ (.bool false)) f) := Lib.hid (by
          obtain ⟨h1, h2⟩ := tick_fin HG.out HL.out
          refine ⟨_, xs, rfl, HX.out.1.moved h2, ?_, h1, HM.out.trans (FootTo.refl _ _) h2⟩
          unfold tickE
          rw [if_neg (by omega), HX.out.2])
        have hne : ((xs.length : Int) == 0) = false := by simp; intro e; exact h0 (by rw [e]; rfl)
        generalize xs.length = XL at *
        clear hS hxs hL hM hlen hkm hxl HJ
        go_wp2_with fail
        go_ret
        exact HFIN.out

end Go.Proofs.Ytkinbngikmcpeaa
