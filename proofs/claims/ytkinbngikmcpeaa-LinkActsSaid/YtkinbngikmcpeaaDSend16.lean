/-
  The document's Send: contract.
-/
import Derived.Test.YtkinbngikmcpeaaDReset16
import Derived.Test.YtkinbngikmcpeaaLitCopy
namespace Go.Proofs.Ytkinbngikmcpeaa
open Go.RowKit Go.Maps
set_option linter.unusedVariables false

theorem info_dbody : (Try.prog.info? 84).map (fun i => (i.zero, i.size, i.bytes)) = some (some (.agg #[.int .i64 0, .int .i64 0, .slice none 0 0]), 3, 40) := by kernel_rfl
/-- Next is one more, its body isn't there yet -/
structure DHalf (w : World) (db base : Nat) (vo ve : Value) (W Sp R : Nat) (st : Lk16) (b : List Int) (xs : List Db16) (ys : List Dy16) : Prop where
  box : Box w db 35 (dCells W Sp R (addW st b) vo ve)
  out : ListAt NoU w base 84 3 vo xs.length (dbFlat st.acked xs)
  ear : ListAt NoU w base 93 2 ve ys.length (ys.flatMap dyCells)
  rx : ∀ x ∈ xs, x.q.In .u8 w ∧ x.q.n ≤ 65536
  ry : ∀ y ∈ ys, y.q.In .u8 w ∧ y.q.n ≤ 65536
  size : base ≤ w.heap.size
theorem DHalf.bel {w w' : World} {db base : Nat} {vo ve : Value} {W Sp R : Nat} {st : Lk16} {b : List Int} {xs : List Db16} {ys : List Dy16} (h : DHalf w db base vo ve W Sp R st b xs ys) (hb : Below w.heap.size w w') : DHalf w' db base vo ve W Sp R st b xs ys :=
  ⟨h.box.bel hb, h.out.bel hb, h.ear.bel hb, fun x hx => ⟨(h.rx x hx).1.below hb, (h.rx x hx).2⟩, fun x hx => ⟨(h.ry x hx).1.below hb, (h.ry x hx).2⟩, Nat.le_trans h.size hb.size⟩
theorem DLkAt.half {w : World} {db base : Nat} {vo ve : Value} {W Sp R : Nat} {st : Lk16} {xs : List Db16} {ys : List Dy16} (h : DLkAt w db base vo ve W Sp R st xs ys) (b : List Int) (z : Int) (hz : z = ((st.acked + st.out.length : Nat) : Int) + 1) :
    DHalf (w.setCell ⟨db, 4, none⟩ (.int .i64 z)) db base vo ve W Sp R st b xs ys ∧ MovesD w (w.setCell ⟨db, 4, none⟩ (.int .i64 z)) db := by
  have hg : w.grownBy (w.setCell ⟨db, 4, none⟩ (.int .i64 z)) (some db) := grown_set _ _ _ _
  have hm : MovesD w (w.setCell ⟨db, 4, none⟩ (.int .i64 z)) db := MovesD.of_row hg (by have := h.lt; omega) (fun b e => by cases e; exact ⟨Nat.le_refl _, _, h.boxC, .inl rfl⟩)
  refine ⟨⟨?_, ?_, ?_, fun x hx => ⟨hm.rows _ (h.rx x hx).1, (h.rx x hx).2⟩, fun y hy => ⟨hm.rows _ (h.ry y hy).1, (h.ry y hy).2⟩, Nat.le_trans h.lt.2 hm.size⟩, hm⟩
  · have e : dCells W Sp R (addW st b) vo ve = (dCells W Sp R st vo ve).setIfInBounds 4 (.int .i64 z) := by
      rw [hz]
      simp [dCells, addW]
      omega
    rw [e]
    exact h.box.set 4 _
  · exact h.out.kept hg (fun g e x => by have := (h.out.own.lt g e).1; have := h.lt.1; have := Option.some.inj x; omega)
  · exact h.ear.kept hg (fun g e x => by have := (h.ear.own.lt g e).1; have := h.lt.1; have := Option.some.inj x; omega)
/-- what the body's append, and its store, leave -/
def NextD (db base : Nat) (W Sp R : Nat) (st : Lk16) (b : List Int) (vo ve : Value) (gr cap : Nat) (wz w3 : World) : Prop :=
  Box w3 db 35 (dCells W Sp R (addW st b) vo ve) ∧ Below db wz w3 ∧ DEnds wz (w3.setCell ⟨db, 8, none⟩ (.slice (some ⟨gr, 0, none⟩) (st.out.length + 1) cap)) db base W Sp R (addW st b)
theorem dsend_row {wz : World} {db base : Nat} {vo ve : Value} {W Sp R : Nat} {st : Lk16} {xs : List Db16} {ys : List Dy16} (q : Rw) (h : DHalf wz db base vo ve W Sp R st q.v xs ys) (hgd : Good16 W Sp R st) (hd : db < base) (eo : dOut xs = st.out) (ee : dEarly ys = st.early) (hr : st.out.length < R) (hq : q.In .u8 wz) (hn : q.n ≤ 65536) (z : Int) (hz : z = ((st.acked + (st.out.length + 1) : Nat) : Int)) :
    ∃ gr cap w3, Sem.run Try.prog (Builtin.append_ #[32, 32] 32 #[vo, .slice (some ⟨wz.heap.size, 0, none⟩) 1 1]) (wz.alloc (.cells #[.int .i64 z, .int .i64 (-1), .slice q.a q.n q.cap] 84)) =
      .ok (.slice (some ⟨gr, 0, none⟩) (st.out.length + 1) cap) w3 ∧ NextD db base W Sp R st q.v vo ve gr cap wz w3 := by
  subst hz
  have hR := hgd.pm.2.2.2
  have hlen : xs.length = st.out.length := by rw [← eo, dOut_len]
  have hnc : ∀ u ∈ dbCells (st.acked + (st.out.length + 1)) ⟨-1, q⟩, NoU u := fun u hu => dbFlat_noU (st.acked + st.out.length) [⟨-1, q⟩] u (by simpa [dbFlat, Nat.add_assoc] using hu)
  obtain ⟨gr, cap, w3, hrun, ho, hA, hg, hv, hc1, hc2⟩ := append_c (P := Try.prog) (ok := NoU) wz base 32 84 _ 3 40 Try.underlying32 info_dbody rfl (by omega) (by omega) (by omega)
    (by intro u hu; simp [Value.cells] at hu; rcases hu with rfl | rfl <;> first | exact noU_i64 _ | exact noU_slice _ _ _) vo xs.length _ (dbCells (st.acked + (st.out.length + 1)) ⟨-1, q⟩) h.out.own h.out.all (by omega) rfl hnc
    (by intro u hu; simp only [dbCells, List.mem_cons, List.not_mem_nil, or_false] at hu; rcases hu with rfl | rfl | rfl <;> rfl) h.size
  rw [hlen] at hrun ho hc1
  refine ⟨gr, cap, w3, hrun, ?_⟩
  obtain ⟨oa, oc, rfl⟩ := h.out.shape
  obtain ⟨ea, ec, rfl⟩ := h.ear.shape
  have hbo : ∀ g, (Value.slice oa xs.length oc).ownBlock = some g → base ≤ g := fun g e => (h.out.own.lt g e).1
  have hbe : ∀ g, (Value.slice ea ys.length ec).ownBlock = some g → base ≤ g := fun g e => (h.ear.own.lt g e).1
  have hm1 : MovesD wz w3 db := MovesD.of_row hg (by have := h.size; omega) (fun b e => ⟨by have := hbo b e; omega, _, h.out.all b e, .inr (.inl rfl)⟩)
  have hbx : Box w3 db 35 _ := h.box.kept hg (fun e => by have := hbo db e.symm; omega)
  refine ⟨hbx, hm1.below, ?_⟩
  obtain ⟨w4, hw4⟩ : ∃ w4, w3.setCell ⟨db, 8, none⟩ (.slice (some ⟨gr, 0, none⟩) (st.out.length + 1) cap) = w4 := ⟨_, rfl⟩
  have hg4 : w3.grownBy w4 (some db) := by rw [← hw4]; exact grown_set _ _ _ _
  have hAC : AllC NoU w3 35 db := ⟨_, hbx, dCells_noU (noU_slice _ _ _) (noU_slice _ _ _)⟩
  have hm2 : MovesD w3 w4 db := MovesD.of_row hg4 (by have := h.size; have := hm1.size; omega) (fun b e => by cases e; exact ⟨Nat.le_refl _, _, hAC, .inl rfl⟩)
  have hm := hm1.trans hm2
  have hgb : base ≤ gr := by
    rcases hv with e | e
    · exact hbo gr e
    · have := h.size; omega
  rw [hw4]
  refine ⟨⟨.slice (some ⟨gr, 0, none⟩) (st.out.length + 1) cap, .slice ea ys.length ec, xs ++ [⟨-1, q⟩], ys, ?_, ?_, ?_, ?_, ee, fun x hx => ?_, fun y hy => ⟨hm.rows _ (h.ry y hy).1, (h.ry y hy).2⟩, hgd.add hr _, hd, Nat.le_trans h.size hm.size⟩, hm⟩
  · rw [← hw4]; exact hbx.set 8 _
  · have hL : ListAt NoU w3 base 84 3 (.slice (some ⟨gr, 0, none⟩) (st.out.length + 1) cap) (st.out.length + 1) (dbFlat st.acked xs ++ dbCells (st.acked + (st.out.length + 1)) ⟨-1, q⟩) := ⟨ho, fun g e => by simp only [Value.ownBlock, Option.some.injEq] at e; subst e; exact hA⟩
    have := hL.kept hg4 (fun g e x => by simp only [Value.ownBlock, Option.some.injEq] at e; subst e; have := Option.some.inj x; omega)
    rw [dbFlat_app, List.length_append, hlen]
    simpa [dbFlat, addW, Nat.add_assoc] using this
  · simp [dOut, addW] at eo ⊢; exact eo
  · refine (h.ear.kept hg (fun g e x => ?_)).kept hg4 (fun g e x => by have := hbe g e; have := Option.some.inj x; omega)
    obtain ⟨c1, k1, _⟩ := h.out.all g x
    obtain ⟨c2, k2, _⟩ := h.ear.all g e
    have := k1.symm.trans k2
    simp at this
  · rcases List.mem_append.1 hx with hx | hx
    · exact ⟨hm.rows _ (h.rx x hx).1, (h.rx x hx).2⟩
    · rw [List.mem_singleton] at hx; subst hx; exact ⟨hm.rows _ hq, hn⟩
--%BEGIN2
theorem rwsD_moved {w w' : World} {db : Nat} {a : Option Addr} {n : Nat} {qs : List Rw} (h : Rws .u8 w a n qs) (hm : MovesD w w' db) (hna : ∀ b off, a = some ⟨b, off, none⟩ → 0 < n → b < db) : Rws .u8 w' a n qs := by
  refine ⟨h.1, h.2.1, fun q hq => hm.rows q (h.2.2.1 q hq), fun hn => ?_⟩
  obtain ⟨b, off, rfl, hc⟩ := h.2.2.2 hn
  refine ⟨b, off, rfl, fun i hi => ?_⟩
  rw [World.cell?_of_block (w := w) (a := ⟨b, off + i, none⟩) (hm.below.block b (hna b off rfl hn))]
  exact hc i hi
set_option maxHeartbeats 1600000 in
set_option maxRecDepth 100000 in
theorem dsend16 {w : World} {db base : Nat} {W Sp R : Nat} {st : Lk16} (hd : DLk w db base W Sp R st) (a : Option Addr) (n cap : Nat) (qs : List Rw) (hQ : Rws .u8 w a n qs) (hn6 : n ≤ 1000000) (hna : ∀ b off, a = some ⟨b, off, none⟩ → 0 < n → b < db) (hbd : st.acked + st.out.length + n ≤ 1000000000) :
    Calls Try.prog 12 #[.pointer (some ⟨db, 0, none⟩), .slice a n cap] w fun e w' => e = .returned (.int .i64 (sendE R st (qs.map Rw.v)).1) ∧ DEnds w w' db base W Sp R (sendE R st (qs.map Rw.v)).2 := by
  have H0 := Lib.hid hd
  obtain ⟨vo, ve, xs, ys, h⟩ := hd
  obtain ⟨⟨va, vc, rfl⟩, ea, ec, rfl⟩ := h.shape
  have c8 : w.cell? ⟨db, 8, none⟩ = some (.slice va xs.length vc) := h.box.cell 8
  rw [h.lens.1] at c8
  have c2 : w.cell? ⟨db, 2, none⟩ = some (.int .i64 R) := h.box.cell 2
  have hlen : (qs.map Rw.v).length = n := by simpa using hQ.1
  have hlq := longQ_any qs w hQ.2.2.1
  have hn := hQ.2.1
  have hR := h.good.pm.2.2.2
  have hroom := h.good.room
  have hov := IntWalk.i64_in ((st.out.length : Int) + (n : Int))
  have hw : IntKind.i64.wrap ((st.out.length : Int) + (n : Int)) = (st.out.length : Int) + (n : Int) := hov (by omega)
  have HQ := Lib.hid hQ
  have HNA := Lib.hid hna
  have HLQ := Lib.hid hlq
  have HLN := Lib.hid hlen
  have HBD := Lib.hid (And.intro hbd (And.intro hR hroom))
  clear h hQ hna hov hbd hlq hlen hR hroom
  go_enter Try.func12, Try.ntmps12
  go_wp2_with fail
  go_loopw [5] (fun i wr => ∃ k : Nat, k ≤ n ∧ i = .int .i64 k ∧ Hid (longQ (qs.take k) = false) ∧ wr = w) (fun i _ => n - (intOf i).toNat)
  case atStart => exact ⟨0, by omega, rfl, Lib.hid (by simp [longQ]), rfl⟩
  case round =>
    obtain ⟨k, hk, rfl, HJ, hwe⟩ := hrel
    replace hwe := hwe.symm
    subst hwe
    by_cases hlt : k < n
    · obtain ⟨bb, off, q, rfl, hbl, hc, HT, hin⟩ := HQ.out.at_ hlt
      have hlt2 : (k : Int) < (n : Int) := by omega
      by_cases h6 : 65536 < q.n
      · have h62 : (65536 : Int) < (q.n : Int) := by omega
        have e1 : Hid (sendE R st (qs.map Rw.v) = (140, st)) := Lib.hid (by
          unfold sendE
          rw [← HLQ.out, longQ_hit (by rw [HQ.out.1]; exact hlt) HT.out (decide_eq_true h6), if_pos rfl])
        clear h6 hin hbl
        go_wp2_with fail
        go_ret
        rw [e1.out]
        exact ⟨rfl, H0.out.same (Below.refl _ _)⟩
      · have h62 : decide ((65536 : Int) < (q.n : Int)) = false := decide_eq_false (by omega)
        have HJ2 : Hid (longQ (qs.take (k + 1)) = false) := Lib.hid (longQ_step (by rw [HQ.out.1]; exact hlt) HT.out HJ.out (decide_eq_false h6))
        clear h6 hin hbl
        go_wp2_with fail
        go_roundw
        case rel => exact ⟨k + 1, by omega, by go_num, HJ2, trivial⟩
        case measure => simp [intOf]; omega
    · obtain rfl : k = n := by omega
      have HNL : Hid (longQ qs = false) := Lib.hid (by have := HJ.out; rwa [List.take_of_length_le (by rw [HQ.out.1]; exact Nat.le_refl _)] at this)
      by_cases hr : R < st.out.length + k
      · have hgt : (R : Int) < (st.out.length : Int) + (k : Int) := by omega
        have e1 : Hid (sendE R st (qs.map Rw.v) = (80, st)) := Lib.hid (by unfold sendE; rw [← HLQ.out, HNL.out, if_neg (by simp), HLN.out, if_pos hr])
        clear hr
        go_wp2_with fail
        go_quiet (fail)
        go_wp2_with fail
        go_ret
        rw [e1.out]
        exact ⟨rfl, H0.out.same (below_drewN (Below.refl _ _) _)⟩
      · have hgt : decide ((R : Int) < (st.out.length : Int) + (k : Int)) = false := decide_eq_false (by omega)
        have e1 : Hid (sendE R st (qs.map Rw.v) = (0, sentSt st (qs.map Rw.v))) := Lib.hid (by unfold sendE; rw [← HLQ.out, HNL.out, if_neg (by simp), HLN.out, if_neg hr]; rfl)
        have HRM : Hid (∀ j, j < k → st.out.length + j < R) := Lib.hid (fun j hj => by omega)
        have HQL : Hid (∀ q ∈ qs, q.n ≤ 65536) := Lib.hid (fun q hq => by
          have := HNL.out
          unfold longQ at this
          rw [List.any_eq_false] at this
          have := this q hq
          simpa using this)
        clear hr
        go_wp2_with fail
        go_quiet (fail)
        go_wp2_with fail
        go_loopw [6] (fun i wr => ∃ j : Nat, j ≤ k ∧ i = .int .i64 j ∧ Hid (DEnds w wr db base W Sp R (sentSt st ((qs.map Rw.v).take j)))) (fun i _ => k - (intOf i).toNat)
        case atStart => exact ⟨0, by omega, rfl, Lib.hid (by rw [List.take_zero, sentSt_nil]; exact H0.out.same (below_drewN (Below.refl _ _) _))⟩
        case round =>
        clear c8 c2 hw hgt
        obtain ⟨j, hj, rfl, HI⟩ := hrel
        by_cases hlt : j < k
        · obtain ⟨⟨vo1, ve1, xs1, ys1, hL⟩, hM⟩ := HI.out
          obtain ⟨⟨va1, vc1, rfl⟩, ea1, ec1, rfl⟩ := hL.shape
          obtain ⟨st1, hst⟩ : ∃ st1, sentSt st ((qs.map Rw.v).take j) = st1 := ⟨_, rfl⟩
          have hac : st1.acked = st.acked := by rw [← hst]; rfl
          have hol : st1.out.length = st.out.length + j := by rw [← hst]; simp [sentSt]; rw [HQ.out.1]; omega
          rw [hst] at hL
          obtain ⟨L1, hL1⟩ : ∃ L1, xs1.length = L1 := ⟨_, rfl⟩
          obtain ⟨N, hN1⟩ : ∃ N, st1.acked + st1.out.length = N := ⟨_, rfl⟩
          rw [hL1] at hL
          have hxl := hL.lens.1
          have HLS : Hid (st1.out.length = L1 ∧ st.out.length + j = L1 ∧ (N : Int) + 1 = ((st1.acked + (st1.out.length + 1) : Nat) : Int)) := Lib.hid ⟨by omega, by omega, by omega⟩
          have HNN : Hid (∀ b, (dCells W Sp R (addW st1 b) (.slice va1 L1 vc1) (.slice ea1 ys1.length ec1))[4]? = some (.int .i64 ((N : Int) + 1))) := Lib.hid (fun b => by
            show some (Value.int .i64 ((st1.acked + (st1.out ++ [(⟨-1, b⟩ : Wt16)]).length : Nat) : Int)) = _
            rw [List.length_append, HLS.out.2.2]; rfl)
          have c4q : wr.cell? ⟨db, 4, none⟩ = some (.int .i64 (N : Int)) := by rw [← hN1]; exact hL.box.cell 4
          have f4q : wr.frozen? ⟨db, 4, none⟩ = false := hL.box.frozen 4
          have hwn : IntKind.i64.wrap ((N : Int) + 1) = (N : Int) + 1 := IntWalk.i64_in _ (by have := HBD.out; omega)
          obtain ⟨bb, off, q, rfl, hbl, hc, HT, hin⟩ := (rwsD_moved HQ.out hM HNA.out).at_ hlt
          have hqm : q ∈ qs := by
            rw [← HT.out, List.getD_eq_getElem?_getD, List.getElem?_eq_getElem (by rw [HQ.out.1]; exact hlt)]
            exact List.getElem_mem _
          have HBB : Hid (bb < db) := Lib.hid (HNA.out _ _ rfl (by omega))
          have hlt2 : (j : Int) < (k : Int) := by omega
          obtain ⟨hHf, hMf⟩ := hL.half q.v ((N : Int) + 1) (by rw [hN1])
          obtain ⟨wz, hwz⟩ : ∃ wz, wr.setCell ⟨db, 4, none⟩ (.int .i64 ((N : Int) + 1)) = wz := ⟨_, rfl⟩
          rw [hwz] at hHf hMf
          have HQI : Hid (q.n ≤ 65536 ∧ q.In .u8 wz) := Lib.hid ⟨HQL.out q hqm, hMf.rows _ hin⟩
          have cz8 : wz.cell? ⟨db, 8, none⟩ = some (.slice va1 L1 vc1) := hHf.box.cell 8
          have cz4 : wz.cell? ⟨db, 4, none⟩ = some (.int .i64 ((N : Int) + 1)) := by have := hHf.box.cell 4; rw [this]; exact HNN.out _
          have czq : wz.cell? ⟨bb, off + j, none⟩ = some (.slice q.a q.n q.cap) := by
            rw [World.cell?_of_block (w := wr) (a := ⟨bb, off + j, none⟩) (hMf.below.block bb HBB.out)]
            exact hc
          have HH : Hid (DHalf wz db base (.slice va1 L1 vc1) (.slice ea1 ys1.length ec1) W Sp R st1 q.v xs1 ys1 ∧ Good16 W Sp R st1 ∧ db < base ∧ dOut xs1 = st1.out ∧ dEarly ys1 = st1.early) := Lib.hid ⟨hHf, hL.good, hL.lt.1, hL.eo, hL.ee⟩
          have HM1 : Hid (MovesD w wz db) := Lib.hid (hM.trans hMf)
          have HS1 : Hid (addW st1 q.v = sentSt st ((qs.map Rw.v).take (j + 1))) := Lib.hid (by
            rw [← hst]
            exact sentSt_step st (qs.map Rw.v) (k := j) (by rw [HLN.out]; exact hlt) q.v (by
              rw [← HT.out]
              simp [List.getD_eq_getElem?_getD, List.getElem?_eq_getElem (show j < qs.length by rw [HQ.out.1]; exact hlt)]))
          clear hL hM hin hqm hHf hMf hbl HI hst hac hol hL1 hN1 hxl
          go_wp2_with fail
          try rw [hwz]
          refine wp_region_noPanic ?_
          refine wp_region_Z (S := (fun W_ => W_.cell? ⟨db, 8, none⟩ = some (.slice va1 L1 vc1) ∧ W_.cell? ⟨db, 4, none⟩ = some (.int .i64 ((N : Int) + 1)) ∧ W_.cell? ⟨bb, off + j, none⟩ = some (.slice q.a q.n q.cap))) 20 (by kernel_rfl) ?_ (fun hHeld => ?_)
          · (first | go_keep | (go_split_ands; refine ⟨?_, ?_, ?_⟩ <;> assumption))
          refine wpAnyZ_take (i := 0) (oi := ⟨some 46, _, _, _, _, _⟩) (v := ?_) rfl (by kernel_rfl) (by kernel_rfl) (by kernel_rfl) (by kernel_rfl) (fun _ _ _ h => h) (Or.inl ⟨by rfl, ?hy1⟩) hHeld ?rest1
          case hy1 => (intro W hSw; (try dsimp only at hSw); go_simp; (try with_reducible rfl))
          simp only [Act.put, List.setIfInBounds_toArray, List.set_cons_zero, List.set_cons_succ]
          refine wpAnyZ_take (i := 1) (oi := ⟨some 47, _, _, _, _, _⟩) (v := ?_) rfl (by kernel_rfl) (by kernel_rfl) (by kernel_rfl) (by kernel_rfl) (fun _ _ _ h => h) (Or.inl ⟨by rfl, ?hy2⟩) hHeld ?rest2
          case hy2 => (intro W hSw; (try dsimp only at hSw); go_simp; (try with_reducible rfl))
          simp only [Act.put, List.setIfInBounds_toArray, List.set_cons_zero, List.set_cons_succ]
          refine wpAnyZ_take (i := 2) (oi := ⟨some 48, _, _, _, _, _⟩) (v := ?_) rfl (by kernel_rfl) (by kernel_rfl) (by kernel_rfl) (by kernel_rfl) (fun _ _ _ h => h) (Or.inl ⟨by rfl, ?hy3⟩) hHeld ?rest3
          case hy3 => (intro W hSw; (try dsimp only at hSw); go_simp; (try with_reducible rfl))
          simp only [Act.put, List.setIfInBounds_toArray, List.set_cons_zero, List.set_cons_succ]
          refine wpAnyZ_take (i := 3) (oi := ⟨some 49, _, _, _, _, _⟩) (v := ?_) rfl (by kernel_rfl) (by kernel_rfl) (by kernel_rfl) (by kernel_rfl) (fun _ _ _ h => h) (Or.inl ⟨by rfl, ?hy4⟩) hHeld ?rest4
          case hy4 => (intro W hSw; (try dsimp only at hSw); go_simp; (try with_reducible rfl))
          simp only [Act.put, List.setIfInBounds_toArray, List.set_cons_zero, List.set_cons_succ]
          refine wpAnyZ_take (i := 4) (oi := ⟨some 50, _, _, _, _, _⟩) (v := ?_) rfl (by kernel_rfl) (by kernel_rfl) (by kernel_rfl) (by kernel_rfl) (fun _ _ _ h => h) (Or.inl ⟨by rfl, ?hy5⟩) hHeld ?rest5
          case hy5 => (intro W hSw; (try dsimp only at hSw); go_simp; (try with_reducible rfl))
          simp only [Act.put, List.setIfInBounds_toArray, List.set_cons_zero, List.set_cons_succ]
          refine wpAnyZ_take (i := 5) (oi := ⟨some 51, _, _, _, _, _⟩) (v := ?_) rfl (by kernel_rfl) (by kernel_rfl) (by kernel_rfl) (by kernel_rfl) (fun _ _ _ h => h) (Or.inl ⟨by rfl, ?hy6⟩) hHeld ?rest6
          case hy6 => (intro W hSw; (try dsimp only at hSw); go_simp; (try with_reducible rfl))
          simp only [Act.put, List.setIfInBounds_toArray, List.set_cons_zero, List.set_cons_succ]
          refine wpAnyZ_take (i := 6) (oi := ⟨some 52, _, _, _, _, _⟩) (v := ?_) rfl (by kernel_rfl) (by kernel_rfl) (by kernel_rfl) (by kernel_rfl) (fun _ _ _ h => h) (Or.inl ⟨by rfl, ?hy7⟩) hHeld ?rest7
          case hy7 => (intro W hSw; (try dsimp only at hSw); go_simp; (try with_reducible rfl))
          simp only [Act.put, List.setIfInBounds_toArray, List.set_cons_zero, List.set_cons_succ]
          refine wpAnyZ_take (i := 7) (oi := ⟨some 53, _, _, _, _, _⟩) (v := ?_) rfl (by kernel_rfl) (by kernel_rfl) (by kernel_rfl) (by kernel_rfl) (fun _ _ _ h => h) (Or.inl ⟨by rfl, ?hy8⟩) hHeld ?rest8
          case hy8 => (intro W hSw; (try dsimp only at hSw); go_simp; (try with_reducible rfl))
          simp only [Act.put, List.setIfInBounds_toArray, List.set_cons_zero, List.set_cons_succ]
          refine wpAnyZ_take (i := 8) (oi := ⟨some 54, _, _, _, _, _⟩) (v := ?_) rfl (by kernel_rfl) (by kernel_rfl) (by kernel_rfl) (by kernel_rfl) (fun _ _ _ h => h) (Or.inl ⟨by rfl, ?hy9⟩) hHeld ?rest9
          case hy9 => (intro W hSw; (try dsimp only at hSw); go_simp; (try with_reducible rfl))
          simp only [Act.put, List.setIfInBounds_toArray, List.set_cons_zero, List.set_cons_succ]
          refine wpAnyZ_take (i := 10) (oi := ⟨some 56, _, _, _, _, _⟩) (v := ?_) rfl (by kernel_rfl) (by kernel_rfl) (by kernel_rfl) (by kernel_rfl) (fun _ _ _ h => h) (Or.inl ⟨by rfl, ?hy10⟩) hHeld ?rest10
          case hy10 => (intro W hSw; (try dsimp only at hSw); go_simp; (try with_reducible rfl))
          simp only [Act.put, List.setIfInBounds_toArray, List.set_cons_zero, List.set_cons_succ]
          refine wpAnyZ_take (i := 11) (oi := ⟨some 57, _, _, _, _, _⟩) (v := ?_) rfl (by kernel_rfl) (by kernel_rfl) (by kernel_rfl) (by kernel_rfl) (fun _ _ _ h => h) (Or.inl ⟨by rfl, ?hy11⟩) hHeld ?rest11
          case hy11 => (intro W hSw; (try dsimp only at hSw); go_simp; (try with_reducible rfl))
          simp only [Act.put, List.setIfInBounds_toArray, List.set_cons_zero, List.set_cons_succ]
          refine wpAnyZ_take (i := 12) (oi := ⟨some 58, _, _, _, _, _⟩) (v := ?_) rfl (by kernel_rfl) (by kernel_rfl) (by kernel_rfl) (by kernel_rfl) (fun _ _ _ h => h) (Or.inl ⟨by rfl, ?hy12⟩) hHeld ?rest12
          case hy12 => (intro W hSw; (try dsimp only at hSw); go_simp; (try with_reducible rfl))
          simp only [Act.put, List.setIfInBounds_toArray, List.set_cons_zero, List.set_cons_succ]
          refine wpAnyZ_take (i := 13) (oi := ⟨some 59, _, _, _, _, _⟩) (v := ?_) rfl (by kernel_rfl) (by kernel_rfl) (by kernel_rfl) (by kernel_rfl) (fun _ _ _ h => h) (Or.inl ⟨by rfl, ?hy13⟩) hHeld ?rest13
          case hy13 => (intro W hSw; (try dsimp only at hSw); go_simp; (try with_reducible rfl))
          simp only [Act.put, List.setIfInBounds_toArray, List.set_cons_zero, List.set_cons_succ]
          refine wpAnyZ_ready (rs := [9]) (by kernel_rfl) (by simp) ?_
          refine (AllReadyZ.cons (o := ⟨some 55, _, _, _, _, _⟩) rfl (fun K hK => ?_) AllReadyZ.nil)
          go_simp
          refine hK.out _ _ ?_ (fun hNew => ?_)
          · ((try dsimp only); (first | go_keep | (go_split_ands; refine ⟨?_, ?_, ?_⟩ <;> assumption)))
          clear hK K hHeld
          have hHeld := hNew
          clear hNew
          try simp only [Act.put, List.setIfInBounds_toArray, List.set_cons_zero, List.set_cons_succ]
          refine wpAnyZ_ready (rs := [14]) (by kernel_rfl) (by simp) ?_
          refine (AllReadyZ.cons (o := ⟨some 60, _, _, _, _, _⟩) rfl (fun K hK => ?_) AllReadyZ.nil)
          refine step_append_lit2 rfl (.tmp 55) (.tmp 59) 37 rfl rfl .u8 5 1 (by omega) Try.underlying37 info_u8 wz q HQI.out.2 HQI.out.1 _ rfl rfl ?_ ?_ ?_ ?_
          · first | exact box_new _ _ _ | exact Box.drew (box_new _ _ _)
          · exact ((Below.refl _ wz).drew).alloc (Nat.le_refl _) _
          · exact Nat.le_refl _
          intro g w2 hLg hB2 hga
          have hL2 := HH.out.1.bel hB2
          rw [← hLg.2.1] at hL2
          obtain ⟨gr, cap2, w3, hrun, hN⟩ := dsend_row g hL2 HH.out.2.1 HH.out.2.2.1 HH.out.2.2.2.1 HH.out.2.2.2.2 (by have := HRM.out j hlt; have := HLS.out.1; have := HLS.out.2.1; omega) hLg.1 (by have := HQI.out.1; have := hLg.2.2.1; omega) ((N : Int) + 1) HLS.out.2.2
          unfold NextD at hN
          rw [HLS.out.1] at hrun hN
          have c82 : w2.cell? ⟨db, 8, none⟩ = some (.slice va1 L1 vc1) := cell_keep cz8 hB2
          have c42 : w2.cell? ⟨db, 4, none⟩ = some (.int .i64 ((N : Int) + 1)) := cell_keep cz4 hB2
          have cq2 : w2.cell? ⟨bb, off + j, none⟩ = some (.slice q.a q.n q.cap) := cell_keep czq hB2
          have c83 : w3.cell? ⟨db, 8, none⟩ = some (.slice va1 L1 vc1) := by exact hN.1.cell 8
          have c43 : w3.cell? ⟨db, 4, none⟩ = some (.int .i64 ((N : Int) + 1)) := by have := hN.1.cell 4; rw [this]; exact HNN.out _
          have cq3 : w3.cell? ⟨bb, off + j, none⟩ = some (.slice q.a q.n q.cap) := by
            rw [World.cell?_of_block (w := w2) (a := ⟨bb, off + j, none⟩) (hN.2.1.block bb HBB.out)]
            exact cq2
          have f83 : w3.frozen? ⟨db, 8, none⟩ = false := hN.1.frozen 8
          have HN := Lib.hid hN
          have HB := Lib.hid hB2
          have HGV := Lib.hid hLg.2.1
          clear hL2 hLg hga hB2 hN
          refine hK.out _ _ ?_ (fun hNew => ?_)
          · ((try dsimp only); (first | go_keep | (go_split_ands; refine ⟨?_, ?_, ?_⟩ <;> assumption)))
          clear hK K hHeld
          have hHeld := hNew
          clear hNew
          try simp only [Act.put, List.setIfInBounds_toArray, List.set_cons_zero, List.set_cons_succ]
          refine wpAnyZ_take (i := 15) (oi := ⟨some 61, _, _, _, _, _⟩) (v := ?_) rfl (by kernel_rfl) (by kernel_rfl) (by kernel_rfl) (by kernel_rfl) (fun _ _ _ h => h) (Or.inl ⟨by rfl, ?hy14⟩) hHeld ?rest14
          case hy14 => (intro W hSw; (try dsimp only at hSw); go_simp; (try with_reducible rfl))
          simp only [Act.put, List.setIfInBounds_toArray, List.set_cons_zero, List.set_cons_succ]
          refine wpAnyZ_ready (rs := [16]) (by kernel_rfl) (by simp) ?_
          refine (AllReadyZ.cons (o := ⟨some 62, _, _, _, _, _⟩) rfl (fun K hK => ?_) AllReadyZ.nil)
          go_simp
          refine hK.out _ _ ?_ (fun hNew => ?_)
          · ((try dsimp only); (first | go_keep | (go_split_ands; refine ⟨?_, ?_, ?_⟩ <;> assumption)))
          clear hK K hHeld
          have hHeld := hNew
          clear hNew
          try simp only [Act.put, List.setIfInBounds_toArray, List.set_cons_zero, List.set_cons_succ]
          refine wpAnyZ_ready (rs := [17]) (by kernel_rfl) (by simp) ?_
          refine (AllReadyZ.cons (o := ⟨some 63, _, _, _, _, _⟩) rfl (fun K hK => ?_) AllReadyZ.nil)
          ((with_reducible refine step_append_run ?_ (.tmp 50) (.tmp 62) 32 ?_ _ _ ?_ ?_ hrun ?_); rfl; rfl; rfl; rfl)
          refine hK.out _ _ ?_ (fun hNew => ?_)
          · ((try dsimp only); (first | go_keep | (go_split_ands; refine ⟨?_, ?_, ?_⟩ <;> assumption)))
          clear hK K hHeld
          have hHeld := hNew
          clear hNew
          try simp only [Act.put, List.setIfInBounds_toArray, List.set_cons_zero, List.set_cons_succ]
          refine wpAnyZ_ready (rs := [18]) (by kernel_rfl) (by simp) ?_
          refine (AllReadyZ.cons (o := ⟨some 64, _, _, _, _, _⟩) rfl (fun K hK => ?_) AllReadyZ.nil)
          go_simp
          refine hK.out _ _ ?_ (fun hNew => ?_)
          · ((try dsimp only); (first | go_keep | (go_split_ands; refine ⟨?_, ?_, ?_⟩ <;> assumption)))
          clear hK K hHeld
          have hHeld := hNew
          clear hNew
          try simp only [Act.put, List.setIfInBounds_toArray, List.set_cons_zero, List.set_cons_succ]
          refine wpAnyZ_take (i := 19) (oi := ⟨some 65, _, _, _, _, _⟩) (v := ?_) rfl (by kernel_rfl) (by kernel_rfl) (by kernel_rfl) (by kernel_rfl) (fun _ _ _ h => h) (Or.inl ⟨by rfl, ?hy15⟩) hHeld ?rest15
          case hy15 => (intro W hSw; (try dsimp only at hSw); go_simp; (try with_reducible rfl))
          simp only [Act.put, List.setIfInBounds_toArray, List.set_cons_zero, List.set_cons_succ]
          refine wpAnyZ_ready (rs := [20]) (by kernel_rfl) (by simp) ?_
          refine AllReadyZ.last (o := ⟨none, _, _, _, _, _⟩) rfl (fun K hK => ?_) AllReadyZ.nil
          go_simp
          refine hK.out _ _ ?_
          clear hK K hHeld
          try simp only [Act.put]
          refine wpAnyZ_done (by kernel_rfl) ?_ _
          refine NoPanic.normal ?_
          have HFIN : Hid (DEnds w (w3.setCell ⟨db, 8, none⟩ (.slice (some ⟨gr, 0, none⟩) (L1 + 1) cap2)) db base W Sp R (sentSt st ((qs.map Rw.v).take (j + 1)))) := Lib.hid (by
            obtain ⟨_, _, h1, h2⟩ := HN.out
            rw [HGV.out, HS1.out] at h1
            exact ⟨h1, (HM1.out.trans (MovesD.of_below HB.out (by have := HH.out.1.box.lt; omega))).trans h2⟩)
          clear hrun HN HB HGV
          go_wp2_with fail
          go_roundw
          case rel => exact ⟨j + 1, by omega, by go_num, HFIN⟩
          case measure => simp [intOf]; omega
        · obtain rfl : j = k := by omega
          have HF : Hid (DEnds w wr db base W Sp R (sentSt st (qs.map Rw.v))) := Lib.hid (by have := HI.out; rwa [List.take_of_length_le (by rw [HLN.out]; exact Nat.le_refl _)] at this)
          go_wp2_with fail
          go_ret
          rw [e1.out]
          exact ⟨rfl, HF.out⟩

end Go.Proofs.Ytkinbngikmcpeaa
