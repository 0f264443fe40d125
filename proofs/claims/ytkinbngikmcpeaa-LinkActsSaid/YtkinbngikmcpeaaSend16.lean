/-
  The code's Send: what it asks of bodies (slices.ContainsFunc with its closure).
-/
import Derived.Test.YtkinbngikmcpeaaLkAt16
import Derived.Test.YtkinbngikmcpeaaRw
import Derived.Test.YtkinbngikmcpeaaCopyB
import Derived.Test.YtkinbngikmcpeaaRegZ
import Derived.Deep.CutRange
import Derived.BigQuiet
namespace Go.Proofs.Ytkinbngikmcpeaa
open Go.RowKit Go.Maps
set_option linter.unusedVariables false

set_option maxRecDepth 100000 in
theorem long16 (q : Rw) (w : World) : Calls Try.prog 30 #[.slice q.a q.n q.cap] w fun e w' => e = .returned (.bool (decide (65536 < q.n))) ∧ w' = w := by
  have e : decide (65536 < q.n) = decide ((65536 : Int) < (q.n : Int)) := by
    by_cases h : 65536 < q.n
    · rw [decide_eq_true h, decide_eq_true (by omega)]
    · rw [decide_eq_false h, decide_eq_false (by omega)]
  rw [e]
  go_enter Try.func30, Try.ntmps30
  go_wp2
  go_ret
  exact ⟨rfl, rfl⟩
def longQ (qs : List Rw) : Bool := qs.any fun q => decide (65536 < q.n)
theorem longQ_step {qs : List Rw} {k : Nat} (hk : k < qs.length) {q : Rw} (hq : qs.getD k default = q) (h : longQ (qs.take k) = false) (h2 : decide (65536 < q.n) = false) : longQ (qs.take (k + 1)) = false := by
  unfold longQ at h ⊢
  rw [List.take_add_one, List.getElem?_eq_getElem hk, List.any_append, h]
  have : qs[k] = q := by rw [← hq, List.getD_eq_getElem?_getD, List.getElem?_eq_getElem hk]; rfl
  simp only [Option.toList_some, List.any_cons, List.any_nil, this, h2]; rfl
theorem longQ_hit {qs : List Rw} {k : Nat} (hk : k < qs.length) {q : Rw} (hq : qs.getD k default = q) (h2 : decide (65536 < q.n) = true) : longQ qs = true := by
  unfold longQ
  rw [List.any_eq_true]
  refine ⟨qs[k], List.getElem_mem _, ?_⟩
  have : qs[k] = q := by rw [← hq, List.getD_eq_getElem?_getD, List.getElem?_eq_getElem hk]; rfl
  rw [this]; exact h2
set_option maxRecDepth 100000 in
theorem index16 (a : Option Addr) (n cap : Nat) (qs : List Rw) (w : World) (h : Rws .u8 w a n qs) :
    Calls Try.prog 40 #[.slice a n cap, .func (.func 30) #[] #[]] w fun e w' => (∃ z : Int, -1 ≤ z ∧ z ≤ n ∧ e = .returned (.int .i64 z) ∧ decide (0 ≤ z) = longQ qs) ∧ w' = w := by
  have hn := h.2.1
  have HH := Lib.hid h
  clear h
  go_enter Try.func40, Try.ntmps40
  go_wp2_with fail
  go_loopw [8] (fun i wr => ∃ k : Nat, k ≤ n ∧ i = .int .i64 k ∧ Hid (longQ (qs.take k) = false) ∧ wr = w) (fun i _ => n - (intOf i).toNat)
  case atStart => exact ⟨0, by omega, rfl, Lib.hid rfl, rfl⟩
  case round =>
    obtain ⟨k, hk, rfl, ht, rfl⟩ := hrel
    by_cases hlt : k < n
    · obtain ⟨bb, off, q, rfl, hbl, hc, HT, hin⟩ := HH.out.at_ hlt
      have hl : k < qs.length := by rw [HH.out.1]; exact hlt
      have R1 := long16 q wr
      have i1 : (k : Int) < (n : Int) := by omega
      clear hin hbl
      cases hod : decide (65536 < q.n) with
      | true =>
        rw [hod] at R1
        have HD := Lib.hid (longQ_hit hl HT.out hod)
        clear hod hl
        go_wp2_with fail
        refine R1.mono ?_
        rintro e wc ⟨rfl, rfl⟩
        clear R1
        go_wp2
        go_ret
        exact ⟨⟨k, by omega, by omega, rfl, by rw [HD.out]; simp⟩, rfl⟩
      | false =>
        rw [hod] at R1
        have HD := Lib.hid (longQ_step hl HT.out ht.out hod)
        clear hod hl
        go_wp2_with fail
        refine R1.mono ?_
        rintro e wc ⟨rfl, rfl⟩
        clear R1
        go_wp2
        go_roundw
        case rel => exact ⟨k + 1, by omega, by go_num, HD, trivial⟩
        case measure => simp [intOf]; omega
    · obtain rfl : k = n := by omega
      have hall : Hid (longQ qs = false) := Lib.hid (by rw [← ht.out, List.take_of_length_le (by rw [HH.out.1]; exact Nat.le_refl _)])
      go_wp2
      go_ret
      exact ⟨⟨-1, by omega, by omega, rfl, by rw [hall.out]; rfl⟩, rfl⟩
set_option maxRecDepth 100000 in
theorem contains16 (a : Option Addr) (n cap : Nat) (qs : List Rw) (w : World) (h : Rws .u8 w a n qs) :
    Calls Try.prog 29 #[.slice a n cap, .func (.func 30) #[] #[]] w fun e w' => e = .returned (.bool (longQ qs)) ∧ w' = w := by
  have cI := index16 a n cap qs w h
  clear h
  go_enter Try.func29, Try.ntmps29
  go_wp2_with fail
  refine cI.mono ?_
  rintro e wa ⟨⟨z, h1, h2, rfl, hz⟩, rfl⟩
  have HZ := Lib.hid hz
  clear cI hz
  go_wp2_with fail
  go_ret
  exact ⟨by rw [← HZ.out]; rfl, rfl⟩
theorem longQ_any (qs : List Rw) (w : World) (h : ∀ q ∈ qs, q.In .u8 w) : longQ qs = (qs.map Rw.v).any fun b => decide (65536 < b.length) := by
  unfold longQ
  rw [List.any_map]
  induction qs with
  | nil => rfl
  | cons q qs ih =>
    rw [List.any_cons, List.any_cons, ih (fun x hx => h x (by simp [hx]))]
    congr 1
    have : q.v.length = q.n := (h q (by simp)).1.1
    simp [this]


theorem info_wait : (Try.prog.info? 82).map (fun i => (i.zero, i.size, i.bytes)) = some (some (.agg #[.slice none 0 0, .int .i64 0]), 2, 32) := by kernel_rfl
def addW (st : Lk16) (b : List Int) : Lk16 := { st with out := st.out ++ [⟨-1, b⟩] }
/-- what an append to the row of bodies, and its store, leave -/
def NextW (f : Foot) (W Sp R : Nat) (st : Lk16) (b : List Int) (gr cap : Nat) (wz w3 : World) : Prop :=
  Box w3 f.lb 77 (linkCells W Sp R st f.va f.mb) ∧
    ∃ f', LinkAt (w3.setCell ⟨f.lb, 4, none⟩ (.slice (some ⟨gr, 0, none⟩) (st.out.length + 1) cap)) f' W Sp R (addW st b) ∧ FootTo wz f f' ∧ Moves wz (w3.setCell ⟨f.lb, 4, none⟩ (.slice (some ⟨gr, 0, none⟩) (st.out.length + 1) cap)) f
theorem grown_set (w : World) (b o : Nat) (v : Value) : w.grownBy (w.setCell ⟨b, o, none⟩ v) (some b) := ⟨rfl, rfl, rfl, by simp, fun i hi hne => by rw [heap_setCell_other w ⟨b, o, none⟩ i _ (fun e => hne (by rw [e]))]⟩
theorem Good16.add {W Sp R : Nat} {st : Lk16} (h : Good16 W Sp R st) (hr : st.out.length < R) (b : List Int) : Good16 W Sp R (addW st b) := by
  refine ⟨h.pm, by simp [addW]; omega, ⟨h.sent.1, by have := h.sent.2; simp [addW]; omega⟩, fun i hi => ?_, h.early, h.ep⟩
  simp only [addW]
  by_cases hl : i < st.out.length
  · rw [List.getElem_append_left hl]; exact h.ages i hl
  · rw [List.getElem_append_right (by omega)]; exact .inl (by simp)
theorem send_row {wz : World} {f : Foot} {W Sp R : Nat} {st : Lk16} (h : LinkAt wz f W Sp R st) (hr : st.out.length < R) (q : Rw) (hq : q.In .u8 wz) (hn : q.n ≤ 65536) :
    ∃ gr cap w3, Sem.run Try.prog (Builtin.append_ #[74, 74] 74 #[f.va, .slice (some ⟨wz.heap.size, 0, none⟩) 1 1]) (wz.alloc (.cells #[.slice q.a q.n q.cap, .int .i64 1] 82)) =
      .ok (.slice (some ⟨gr, 0, none⟩) (st.out.length + 1) cap) w3 ∧ NextW f W Sp R st q.v gr cap wz w3 := by
  obtain ⟨es, he, hl, hin⟩ := h.left
  have hR := h.good.pm.2.2.2
  obtain ⟨gr, cap, w3, hrun, ho, hA, hg, hv, hc1, hc2⟩ := append_c (P := Try.prog) (ok := NoU) wz 0 74 82 _ 2 32 Try.underlying74 info_wait rfl (by omega) (by omega) (by omega)
    (by intro u hu; simp [Value.cells] at hu; rcases hu with rfl | rfl <;> first | exact noU_i64 _ | exact noU_slice _ _ _) f.va st.out.length _ (weCells Sp ⟨-1, q⟩) hl.own hl.all (by omega) rfl (fun u hu => we_noU Sp [⟨-1, q⟩] u (by simpa using hu))
    (by intro u hu; simp only [weCells, List.mem_cons, List.not_mem_nil, or_false] at hu; rcases hu with rfl | rfl <;> rfl) (Nat.zero_le _)
  refine ⟨gr, cap, w3, hrun, ?_⟩
  have hm1 : Moves wz w3 f := Moves.of_row hg (fun b hb => ⟨.inr (.inr hb), h.ok b (.inr (.inr hb))⟩)
  have hbx : Box w3 f.lb 77 (linkCells W Sp R st f.va f.mb) := h.box.kept hg (fun e => (h.apart.2 _ e.symm).1 rfl)
  refine ⟨hbx, ⟨f.lb, f.mb, .slice (some ⟨gr, 0, none⟩) (st.out.length + 1) cap⟩, ?_⟩
  obtain ⟨w4, hw4⟩ : ∃ w4, w3.setCell ⟨f.lb, 4, none⟩ (.slice (some ⟨gr, 0, none⟩) (st.out.length + 1) cap) = w4 := ⟨_, rfl⟩
  have hg4 : w3.grownBy w4 (some f.lb) := by rw [← hw4]; exact grown_set _ _ _ _
  obtain ⟨a, c, hva⟩ := h.shape
  have hm2 : Moves w3 w4 f := Moves.of_row hg4 (fun b hb => by cases hb; exact ⟨.inl rfl, blkOk_box hbx (linkCells_noU (by rw [hva]; exact noU_slice _ _ _))⟩)
  have hm : Moves wz w4 f := hm1.trans (FootTo.refl _ _) hm2
  have hne : f.lb ≠ gr := hA.box_ne hbx (by decide)
  obtain ⟨F, hF, hFit⟩ := h.map
  rw [hw4]
  refine ⟨⟨?_, ⟨es ++ [⟨-1, q⟩], by simp [outOf, addW] at he ⊢; exact he, ?_, fun x hx => ?_⟩, ⟨F, ?_, hFit.1, fun n x hx => ?_⟩, h.good.add hr _⟩, ⟨rfl, fun b hb => ?_⟩, hm⟩
  · rw [← hw4]; exact hbx.set 4 _
  · have hL : ListAt NoU w3 0 82 2 (.slice (some ⟨gr, 0, none⟩) (st.out.length + 1) cap) (st.out.length + 1) (es.flatMap (weCells Sp) ++ weCells Sp ⟨-1, q⟩) := ⟨ho, fun g e => by simp only [Value.ownBlock, Option.some.injEq] at e; subst e; exact hA⟩
    have := hL.kept hg4 (fun g e x => by simp only [Value.ownBlock, Option.some.injEq] at e; subst e; exact hne (Option.some.inj x))
    simpa [addW, List.flatMap_append] using this
  · rcases List.mem_append.1 hx with hx | hx
    · exact ⟨hm.rows _ (hin x hx).1, (hin x hx).2⟩
    · rw [List.mem_singleton] at hx; subst hx; exact ⟨hm.rows _ hq, hn⟩
  · refine (hF.kept hg (fun e => ?_)).kept hg4 (fun e => h.apart.1 (Option.some.inj e).symm)
    exact (h.apart.2 _ e.symm).2 rfl
  · obtain ⟨q', a1, a2, a3⟩ := hFit.2 n x hx
    exact ⟨q', a1, hm.rows _ a2, a3⟩
  · rcases hb with hb | hb | hb
    · exact .inl (.inl hb)
    · exact .inl (.inr (.inl hb))
    · simp only [Value.ownBlock, Option.some.injEq] at hb
      subst hb
      rcases hv with hv | hv
      · exact .inl (.inr (.inr hv))
      · exact .inr (by rw [hv]; exact Nat.le_succ _)

--%BEGIN send16
/-- rows that came in stand where a link moves that they are no part of -/
theorem rws_moved {w w' : World} {f : Foot} {a : Option Addr} {n : Nat} {qs : List Rw} (h : Rws .u8 w a n qs) (hm : Moves w w' f) (hna : ∀ b off, a = some ⟨b, off, none⟩ → 0 < n → ¬ f.has b) : Rws .u8 w' a n qs := by
  refine ⟨h.1, h.2.1, fun q hq => hm.rows q (h.2.2.1 q hq), fun hn => ?_⟩
  obtain ⟨b, off, rfl, hc⟩ := h.2.2.2 hn
  refine ⟨b, off, rfl, fun i hi => ?_⟩
  have h0 := hc i hi
  rw [World.cell?_of_block (w := w) (a := ⟨b, off + i, none⟩) (hm.only b (World.block_lt_of_cell? _ _ h0) (hna b off rfl hn))]
  exact h0
def sentSt (st : Lk16) (bs : List (List Int)) : Lk16 := { st with out := st.out ++ bs.map (fun b => ⟨-1, b⟩) }
theorem sentSt_nil (st : Lk16) : sentSt st [] = st := by simp [sentSt]
theorem sentSt_step (st : Lk16) (bs : List (List Int)) {k : Nat} (hk : k < bs.length) (b : List Int) (hb : bs.getD k [] = b) : addW (sentSt st (bs.take k)) b = sentSt st (bs.take (k + 1)) := by
  have : bs.take (k + 1) = bs.take k ++ [b] := by rw [List.take_add_one, List.getElem?_eq_getElem hk, ← hb, List.getD_eq_getElem?_getD, List.getElem?_eq_getElem hk]; rfl
  simp [addW, sentSt, this]
set_option maxHeartbeats 1600000 in
set_option maxRecDepth 100000 in
theorem send16 {w : World} {f : Foot} {W Sp R : Nat} {st : Lk16} (h : LinkAt w f W Sp R st) (a : Option Addr) (n cap : Nat) (qs : List Rw) (hQ : Rws .u8 w a n qs) (hn6 : n ≤ 1000000) (hna : ∀ b off, a = some ⟨b, off, none⟩ → 0 < n → ¬ f.has b) :
    Calls Try.prog 11 #[.pointer (some ⟨f.lb, 0, none⟩), .slice a n cap] w fun e w' => e = .returned (.int .i64 (sendE R st (qs.map Rw.v)).1) ∧ Ends w w' f W Sp R (sendE R st (qs.map Rw.v)).2 := by
  obtain ⟨va, vc, hva⟩ := h.shape
  have c4 : w.cell? ⟨f.lb, 4, none⟩ = some (.slice va st.out.length vc) := by rw [← hva]; exact h.box.cell 4
  have c2 : w.cell? ⟨f.lb, 2, none⟩ = some (.int .i64 R) := h.box.cell 2
  have C1 := contains16 a n cap qs w hQ
  have hlen : (qs.map Rw.v).length = n := by simpa using hQ.1
  have hlq := longQ_any qs w hQ.2.2.1
  have hn := hQ.2.1
  have hR := h.good.pm.2.2.2
  have hroom := h.good.room
  have hov := IntWalk.i64_in ((st.out.length : Int) + (n : Int))
  have H0 := Lib.hid h
  have HQ := Lib.hid hQ
  have HNA := Lib.hid hna
  clear h hQ hna hva
  cases hlo : longQ qs with
  | true =>
    have e1 : sendE R st (qs.map Rw.v) = (140, st) := by unfold sendE; rw [← hlq, hlo, if_pos rfl]
    rw [e1]
    rw [hlo] at C1
    clear e1 hlq hlo hlen
    go_enter Try.func11, Try.ntmps11
    go_wp2_with fail
    refine C1.mono ?_
    rintro e w1 ⟨rfl, rfl⟩
    go_wp2_with fail
    go_ret
    exact ⟨rfl, H0.out.same (Below.refl _ _)⟩
  | false =>
    rw [hlo] at C1
    by_cases hr : R < st.out.length + n
    · have e1 : sendE R st (qs.map Rw.v) = (80, st) := by unfold sendE; rw [← hlq, hlo, if_neg (by simp), hlen, if_pos hr]
      rw [e1]
      have hw : IntKind.i64.wrap ((st.out.length : Int) + (n : Int)) = (st.out.length : Int) + (n : Int) := IntWalk.i64_in _ (by omega)
      have hgt : (R : Int) < (st.out.length : Int) + (n : Int) := by omega
      clear e1 hlq hlo hlen hov hroom hR hr
      go_enter Try.func11, Try.ntmps11
      go_wp2_with fail
      refine C1.mono ?_
      rintro e w1 ⟨rfl, rfl⟩
      clear C1
      go_wp2_with fail
      go_quiet (fail)
      go_wp2_with fail
      go_ret
      exact ⟨rfl, H0.out.same (below_drewN (Below.refl _ _) _)⟩
    · have e1 : sendE R st (qs.map Rw.v) = (0, sentSt st (qs.map Rw.v)) := by unfold sendE; rw [← hlq, hlo, if_neg (by simp), hlen, if_neg hr]; rfl
      rw [e1]
      have hw : IntKind.i64.wrap ((st.out.length : Int) + (n : Int)) = (st.out.length : Int) + (n : Int) := IntWalk.i64_in _ (by omega)
      have hgt : decide ((R : Int) < (st.out.length : Int) + (n : Int)) = false := decide_eq_false (by omega)
      have HRM : Hid (∀ k, k < n → st.out.length + k < R) := Lib.hid (fun k hk => by omega)
      have HLQ : Hid (∀ q ∈ qs, q.n ≤ 65536) := Lib.hid (fun q hq => by
        have := hlo
        unfold longQ at this
        rw [List.any_eq_false] at this
        have := this q hq
        simpa using this)
      have HLN := Lib.hid hlen
      clear e1 hlq hlo hlen hr hov hroom hR
      go_enter Try.func11, Try.ntmps11
      go_wp2_with fail
      refine C1.mono ?_
      rintro e w1 ⟨rfl, rfl⟩
      clear C1
      go_wp2_with fail
      go_quiet (fail)
      go_wp2_with fail
      go_loopw [24] (fun i wr => ∃ k : Nat, k ≤ n ∧ i = .int .i64 k ∧ Hid (∃ f', LinkAt wr f' W Sp R (sentSt st ((qs.map Rw.v).take k)) ∧ FootTo w1 f f' ∧ Moves w1 wr f)) (fun i _ => n - (intOf i).toNat)
      case atStart => exact ⟨0, by omega, rfl, Lib.hid ⟨f, by rw [List.take_zero, sentSt_nil]; exact H0.out.bel (below_drewN (Below.refl _ _) _), FootTo.refl _ _, Moves.of_below (below_drewN (Below.refl _ _) _) _⟩⟩
      case round =>
        obtain ⟨k, hk, rfl, HJ⟩ := hrel
        by_cases hlt : k < n
        · obtain ⟨⟨l1, m1, v1⟩, hL, hF, hM⟩ := HJ.out
          obtain rfl : l1 = f.lb := hF.1
          obtain ⟨va1, vc1, hv1⟩ := hL.shape
          simp only at hv1
          subst hv1
          obtain ⟨L1, hL1⟩ : ∃ L1, (sentSt st ((qs.map Rw.v).take k)).out.length = L1 := ⟨_, rfl⟩
          have HLL := Lib.hid hL1
          have HLS : Hid (st.out.length + k = L1) := Lib.hid (by rw [← hL1]; simp [sentSt]; rw [HQ.out.1]; omega)
          have c41 : wr.cell? ⟨f.lb, 4, none⟩ = some (.slice va1 L1 vc1) := by have := hL.box.cell 4; rw [← hL1]; exact this
          obtain ⟨bb, off, q, rfl, hbl, hc, HT, hin⟩ := (rws_moved HQ.out hM HNA.out).at_ hlt
          have hqm : q ∈ qs := by
            rw [← HT.out, List.getD_eq_getElem?_getD, List.getElem?_eq_getElem (by rw [HQ.out.1]; exact hlt)]
            exact List.getElem_mem _
          have HQI : Hid (q.n ≤ 65536 ∧ q.In .u8 wr) := Lib.hid ⟨HLQ.out q hqm, hin⟩
          have hlt2 : (k : Int) < (n : Int) := by omega
          have cl := cloneB q wr.drew hin (by have := HQI.out.1; omega)
          have HL1 : Hid (LinkAt wr.drew ⟨f.lb, m1, .slice va1 L1 vc1⟩ W Sp R (sentSt st ((qs.map Rw.v).take k))) := Lib.hid (by rw [← hL1]; exact hL.bel (Below.refl _ _).drew)
          have HFM : Hid (FootTo w1 f ⟨f.lb, m1, .slice va1 L1 vc1⟩ ∧ Moves w1 wr f) := Lib.hid ⟨by rw [← hL1]; exact hF, hM⟩
          clear hL hF hM hL1 hqm hin hbl HJ
          go_wp2_with fail
          refine wp_region_noPanic ?_
          refine wp_region_Z (S := (fun W => W.cell? ⟨f.lb, 4, none⟩ = some (.slice va1 L1 vc1))) 12 (by kernel_rfl) ?_ (fun hHeld => ?_)
          · (first | go_keep | assumption)
          refine wpAnyZ_take (i := 0) (oi := ⟨some 28, _, _, _, _, _⟩) (v := ?_) rfl (by kernel_rfl) (by kernel_rfl) (by kernel_rfl) (by kernel_rfl) (fun _ _ _ h => h) (Or.inl ⟨by rfl, ?hy1⟩) hHeld ?rest1
          case hy1 => (intro W hSw; (try dsimp only at hSw); go_simp; (try with_reducible rfl))
          simp only [Act.put, List.setIfInBounds_toArray, List.set_cons_zero, List.set_cons_succ]
          refine wpAnyZ_take (i := 1) (oi := ⟨some 29, _, _, _, _, _⟩) (v := ?_) rfl (by kernel_rfl) (by kernel_rfl) (by kernel_rfl) (by kernel_rfl) (fun _ _ _ h => h) (Or.inl ⟨by rfl, ?hy2⟩) hHeld ?rest2
          case hy2 => (intro W hSw; (try dsimp only at hSw); go_simp; (try with_reducible rfl))
          simp only [Act.put, List.setIfInBounds_toArray, List.set_cons_zero, List.set_cons_succ]
          refine wpAnyZ_take (i := 2) (oi := ⟨some 30, _, _, _, _, _⟩) (v := ?_) rfl (by kernel_rfl) (by kernel_rfl) (by kernel_rfl) (by kernel_rfl) (fun _ _ _ h => h) (Or.inl ⟨by rfl, ?hy3⟩) hHeld ?rest3
          case hy3 => (intro W hSw; (try dsimp only at hSw); go_simp; (try with_reducible rfl))
          simp only [Act.put, List.setIfInBounds_toArray, List.set_cons_zero, List.set_cons_succ]
          refine wpAnyZ_take (i := 3) (oi := ⟨some 31, _, _, _, _, _⟩) (v := ?_) rfl (by kernel_rfl) (by kernel_rfl) (by kernel_rfl) (by kernel_rfl) (fun _ _ _ h => h) (Or.inl ⟨by rfl, ?hy4⟩) hHeld ?rest4
          case hy4 => (intro W hSw; (try dsimp only at hSw); go_simp; (try with_reducible rfl))
          simp only [Act.put, List.setIfInBounds_toArray, List.set_cons_zero, List.set_cons_succ]
          refine wpAnyZ_take (i := 4) (oi := ⟨some 32, _, _, _, _, _⟩) (v := ?_) rfl (by kernel_rfl) (by kernel_rfl) (by kernel_rfl) (by kernel_rfl) (fun _ _ _ h => h) (Or.inl ⟨by rfl, ?hy5⟩) hHeld ?rest5
          case hy5 => (intro W hSw; (try dsimp only at hSw); go_simp; (try with_reducible rfl))
          simp only [Act.put, List.setIfInBounds_toArray, List.set_cons_zero, List.set_cons_succ]
          refine wpAnyZ_take (i := 5) (oi := ⟨some 33, _, _, _, _, _⟩) (v := ?_) rfl (by kernel_rfl) (by kernel_rfl) (by kernel_rfl) (by kernel_rfl) (fun _ _ _ h => h) (Or.inl ⟨by rfl, ?hy6⟩) hHeld ?rest6
          case hy6 => (intro W hSw; (try dsimp only at hSw); go_simp; (try with_reducible rfl))
          simp only [Act.put, List.setIfInBounds_toArray, List.set_cons_zero, List.set_cons_succ]
          refine wpAnyZ_ready (rs := [6]) (by kernel_rfl) (by simp) ?_
          refine (AllReadyZ.cons (o := ⟨some 34, _, _, _, _, _⟩) rfl (fun K hK => ?_) AllReadyZ.nil)
          go_simp
          go_at_call 31
          refine cl.mono ?_
          rintro e w2 ⟨g, rfl, hgi, hgv, hga, hb⟩
          have hL2 := HL1.out.bel (w' := w2) hb
          have c42 : w2.cell? ⟨f.lb, 4, none⟩ = some (.slice va1 L1 vc1) := by have := hL2.box.cell 4; exact this
          obtain ⟨gr, cap2, w3, hrun, hN⟩ := send_row hL2 (by have := HRM.out k hlt; have := HLL.out; have := HLS.out; omega) g hgi (by have h1 := hgi.1.1; rw [hgv] at h1; have h2 := HQI.out.2.1.1; have := HQI.out.1; omega)
          unfold NextW at hN
          rw [HLL.out] at hrun hN
          have HN := Lib.hid hN
          have HB := Lib.hid hb
          have c43 : w3.cell? ⟨f.lb, 4, none⟩ = some (.slice va1 L1 vc1) := by have := hN.1.cell 4; exact this
          have f43 : w3.frozen? ⟨f.lb, 4, none⟩ = false := hN.1.frozen 4
          have HGV := Lib.hid hgv
          clear hL2 hgi hgv hga hb hN cl
          refine hK.out _ _ ?_ (fun hNew => ?_)
          · ((try dsimp only); (first | go_keep | assumption))
          clear hK K hHeld
          have hHeld := hNew
          clear hNew
          try simp only [Act.put, List.setIfInBounds_toArray, List.set_cons_zero, List.set_cons_succ]
          refine wpAnyZ_take (i := 7) (oi := ⟨some 35, _, _, _, _, _⟩) (v := ?_) rfl (by kernel_rfl) (by kernel_rfl) (by kernel_rfl) (by kernel_rfl) (fun _ _ _ h => h) (Or.inl ⟨by rfl, ?hy7⟩) hHeld ?rest7
          case hy7 => (intro W hSw; (try dsimp only at hSw); go_simp; (try with_reducible rfl))
          simp only [Act.put, List.setIfInBounds_toArray, List.set_cons_zero, List.set_cons_succ]
          refine wpAnyZ_ready (rs := [8]) (by kernel_rfl) (by simp) ?_
          refine (AllReadyZ.cons (o := ⟨some 36, _, _, _, _, _⟩) rfl (fun K hK => ?_) AllReadyZ.nil)
          go_simp
          refine hK.out _ _ ?_ (fun hNew => ?_)
          · ((try dsimp only); (first | go_keep | assumption))
          clear hK K hHeld
          have hHeld := hNew
          clear hNew
          try simp only [Act.put, List.setIfInBounds_toArray, List.set_cons_zero, List.set_cons_succ]
          refine wpAnyZ_ready (rs := [9]) (by kernel_rfl) (by simp) ?_
          refine (AllReadyZ.cons (o := ⟨some 37, _, _, _, _, _⟩) rfl (fun K hK => ?_) AllReadyZ.nil)
          ((with_reducible refine step_append_run ?_ (.tmp 32) (.tmp 36) 74 ?_ _ _ ?_ ?_ hrun ?_); rfl; rfl; rfl; rfl)
          refine hK.out _ _ ?_ (fun hNew => ?_)
          · ((try dsimp only); (first | go_keep | assumption))
          clear hK K hHeld
          have hHeld := hNew
          clear hNew
          try simp only [Act.put, List.setIfInBounds_toArray, List.set_cons_zero, List.set_cons_succ]
          refine wpAnyZ_ready (rs := [10]) (by kernel_rfl) (by simp) ?_
          refine (AllReadyZ.cons (o := ⟨some 38, _, _, _, _, _⟩) rfl (fun K hK => ?_) AllReadyZ.nil)
          go_simp
          refine hK.out _ _ ?_ (fun hNew => ?_)
          · ((try dsimp only); (first | go_keep | assumption))
          clear hK K hHeld
          have hHeld := hNew
          clear hNew
          try simp only [Act.put, List.setIfInBounds_toArray, List.set_cons_zero, List.set_cons_succ]
          refine wpAnyZ_take (i := 11) (oi := ⟨some 39, _, _, _, _, _⟩) (v := ?_) rfl (by kernel_rfl) (by kernel_rfl) (by kernel_rfl) (by kernel_rfl) (fun _ _ _ h => h) (Or.inl ⟨by rfl, ?hy8⟩) hHeld ?rest8
          case hy8 => (intro W hSw; (try dsimp only at hSw); go_simp; (try with_reducible rfl))
          simp only [Act.put, List.setIfInBounds_toArray, List.set_cons_zero, List.set_cons_succ]
          refine wpAnyZ_ready (rs := [12]) (by kernel_rfl) (by simp) ?_
          refine AllReadyZ.last (o := ⟨none, _, _, _, _, _⟩) rfl (fun K hK => ?_) AllReadyZ.nil
          go_simp
          refine hK.out _ _ ?_
          clear hK K hHeld
          try simp only [Act.put]
          refine wpAnyZ_done (by kernel_rfl) ?_ _
          refine NoPanic.normal ?_
          have HFIN : Hid (∃ f', LinkAt (w3.setCell ⟨f.lb, 4, none⟩ (.slice (some ⟨gr, 0, none⟩) (L1 + 1) cap2)) f' W Sp R (sentSt st ((qs.map Rw.v).take (k + 1))) ∧ FootTo w1 f f' ∧ Moves w1 (w3.setCell ⟨f.lb, 4, none⟩ (.slice (some ⟨gr, 0, none⟩) (L1 + 1) cap2)) f) := Lib.hid (by
            obtain ⟨_, f2, h1, h2, h3⟩ := HN.out
            have e1 := sentSt_step st (qs.map Rw.v) (k := k) (by rw [HLN.out]; exact hlt) g.v (by
              rw [HGV.out, ← HT.out]
              simp [List.getD_eq_getElem?_getD, List.getElem?_eq_getElem (show k < qs.length by rw [HQ.out.1]; exact hlt)])
            rw [e1] at h1
            have hb2 : Below wr.heap.size wr w2 := below_two (Below.refl _ wr).drew HB.out
            have hm2 : Moves wr w2 ⟨f.lb, m1, .slice va1 L1 vc1⟩ := Moves.of_below hb2 _
            have hm3 := hm2.trans (FootTo.refl _ _) h3
            have hs := HFM.out.2.size
            refine ⟨f2, h1, HFM.out.1.trans ⟨h2.1, fun b hb => (h2.2 b hb).imp id (Nat.le_trans hb2.size)⟩ hs, HFM.out.2.trans HFM.out.1 hm3⟩)
          clear hrun HN HB HGV
          go_wp2_with fail
          go_roundw
          case rel => exact ⟨k + 1, by omega, by go_num, HFIN⟩
          case measure => simp [intOf]; omega
        · obtain rfl : k = n := by omega
          have HF : Hid (Ends w1 wr f W Sp R (sentSt st (qs.map Rw.v))) := Lib.hid (by have := HJ.out; rwa [List.take_of_length_le (by rw [HLN.out]; exact Nat.le_refl _)] at this)
          go_wp2_with fail
          go_ret
          exact ⟨rfl, HF.out⟩
--%END

end Go.Proofs.Ytkinbngikmcpeaa
