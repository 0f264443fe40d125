import Derived.Test.YtoeihigdndkjeaaGreatDoorP26
import Derived.Test.YtoeihigdndkjeaaGreatDoorJ17
import Derived.BigQuiet
/-
  The document's run: Feed.
-/
namespace Go.Proofs.YtoeihigdndkjeaaGreatDoor
open Go.RowKit Go.Shelf
set_option linter.unusedVariables false

theorem AwayO.refl (w : World) (r : Nat) (q : Option Nat) : AwayO w w r q := ⟨rfl, rfl, rfl, Nat.le_refl _, fun _ _ _ _ => rfl⟩
theorem AwayO.of_below {w w' : World} {r : Nat} {q : Option Nat} (h : Below w.heap.size w w') : AwayO w w' r q := ⟨h.os, h.tape, h.output, h.size, fun k hk _ _ => h.block k hk⟩
theorem AwayO.trans {w w1 w2 : World} {r : Nat} {q q1 : Option Nat} (h : AwayO w w1 r q) (k : AwayO w1 w2 r q1) (hq : q1 = q ∨ ∃ b, q1 = some b ∧ w.heap.size ≤ b) : AwayO w w2 r q := by
  refine ⟨k.os.trans h.os, k.tape.trans h.tape, k.output.trans h.output, Nat.le_trans h.size k.size, fun j hj h1 h2 => ?_⟩
  refine (k.block j (Nat.lt_of_lt_of_le hj h.size) h1 ?_).trans (h.block j hj h1 h2)
  rcases hq with rfl | ⟨b, rfl, hb⟩
  · exact h2
  · intro e
    have := Option.some.inj e
    omega
theorem AwayO.elems {w w' : World} {r p : Nat} {lv : Value} {s : Sz} {W : Wt7} {K : KF8} (h : AwayO w w' r lv.ownBlock) (hd : DocS w r lv s W p K) {k : IntKind} {a : Option Addr} {n : Nat} {xs : List Int} (hx : Elems k w a n xs) (hne : ∀ b o, a = some ⟨b, o, none⟩ → b ≠ r) : Elems k w' a n xs := by
  refine ⟨hx.1, hx.2.1, hx.2.2.1, fun hn => ?_⟩
  obtain ⟨b, off, ha, hc⟩ := hx.2.2.2 hn
  obtain ⟨ps, hl⟩ := hd.l
  refine ⟨b, off, ha, fun i hi => ?_⟩
  have h0 := hc i hi
  refine (World.cell?_of_block (w := w) (a := ⟨b, off + i, none⟩) (h.block b (World.block_lt_of_cell? _ _ h0) (hne b off ha) (fun e => ?_))).trans h0
  exact (hl.sl b e.symm).ne h0 rfl (by simp) rfl

/-- what One answers and leaves -/
def OneD (s : Sz) (W : Wt7) (r : Nat) (lv : Value) (p t : Nat) (K : KF8) (w : World) (e : Ending) (w' : World) : Prop :=
  (∃ a c, e = .returned (.slice a s.v c) ∧ Elems .i32 w' a s.v (outO (W.nums s) (layO (W.nums s) K p t s.l))) ∧ (∃ lv', DocS w' r lv' s W (p + 1) (stepK (W.nums s) K p t) ∧ (lv'.ownBlock = lv.ownBlock ∨ ∃ b, lv'.ownBlock = some b ∧ w.heap.size ≤ b)) ∧ AwayO w w' r lv.ownBlock
/-- what Feed answers and leaves -/
def FedD (s : Sz) (W : Wt7) (r : Nat) (lv : Value) (st : St8) (xs : List Int) (w : World) (e : Ending) (w' : World) : Prop :=
  ∃ v lv', e = .returned (.tuple #[v, .int .i64 (faultO s st.p xs)]) ∧ (faultO s st.p xs ≠ 0 ∨ xs = [] → v = .slice none 0 0) ∧
    (faultO s st.p xs = 0 → 0 < xs.length → ∃ a c, v = .slice a s.v c ∧ Elems .i32 w' a s.v (outO (W.nums s) (runO (W.nums s) st (xs.map Int.toNat)).x)) ∧
    DocS w' r lv' s W (nextO s (W.nums s) st xs).p (nextO s (W.nums s) st xs).K ∧ (lv'.ownBlock = lv.ownBlock ∨ ∃ b, lv'.ownBlock = some b ∧ w.heap.size ≤ b) ∧ AwayO w w' r lv.ownBlock

set_option maxHeartbeats 4000000 in
set_option maxRecDepth 100000 in
theorem feedD (cOne : ∀ (r t p : Nat) (lv : Value) (s : Sz) (ok : s.Ok) (W : Wt7) (K : KF8) (w : World), DocS w r lv s W p K → (W.l = s.l ∧ W.w = s.w ∧ W.h = s.h ∧ W.i = s.i ∧ W.v = s.v ∧ W.p = s.p) → wtB s W = true → t < s.v → p ≤ 199 →
      Calls Tryz.prog 22 #[.pointer (some ⟨r, 0, none⟩), .int .i64 t] w fun e w' => OneD s W r lv p t K w e w')
    (r n tcap : Nat) (lv : Value) (s : Sz) (ok : s.Ok) (W : Wt7) (st : St8) (w : World) (h : DocS w r lv s W st.p st.K) (hsix : W.l = s.l ∧ W.w = s.w ∧ W.h = s.h ∧ W.i = s.i ∧ W.v = s.v ∧ W.p = s.p) (hwt : wtB s W = true) (h200 : s.p ≤ 200) (hp : st.p ≤ s.p)
    (a : Option Addr) (xs : List Int) (hx : Elems .i64 w a n xs) (hn : n ≤ 1000) (hne : ∀ b o, a = some ⟨b, o, none⟩ → b ≠ r) :
    Calls Tryz.prog 12 #[.pointer (some ⟨r, 0, none⟩), .slice a n tcap] w fun e w' => FedD s W r lv st xs w e w' := by
  have bd := ok.bd
  have v512 : s.v ≤ 512 := bd.2.2.2.2.1.2
  have HS := Lib.hid h
  have HX := Lib.hid hx
  have HNE := Lib.hid hne
  have HL := Lib.hid hx.1
  obtain ⟨ps, hl⟩ := h.l
  obtain ⟨la, lc, rfl⟩ := hl.form
  have HC : Hid (dcells W (.slice la st.p lc) = #[.int .i64 s.l, .int .i64 s.w, .int .i64 s.h, .int .i64 s.i, .int .i64 s.v, .int .i64 s.p, .int .i64 W.e.r, .int .i64 W.e.c, .slice W.e.a W.e.n W.e.cap, .slice W.ba W.bn W.bcap, .slice W.t.a W.t.n W.t.cap, .int .i64 W.hd.r, .int .i64 W.hd.c, .slice W.hd.a W.hd.n W.hd.cap, .slice la st.p lc]) := Lib.hid (by
    obtain ⟨e1, e2, e3, e4, e5, e6⟩ := hsix; unfold dcells; rw [e1, e2, e3, e4, e5, e6])
  have hB := h.box
  rw [HC.out] at hB
  have c4 : w.cell? ⟨r, 4, none⟩ = some (.int .i64 s.v) := hB.cell 4
  have c5 : w.cell? ⟨r, 5, none⟩ = some (.int .i64 s.p) := hB.cell 5
  have c14 : w.cell? ⟨r, 14, none⟩ = some (.slice la st.p lc) := hB.cell 14
  obtain ⟨pp, hpp⟩ : ∃ pp, st.p = pp := ⟨_, rfl⟩
  have HPP := Lib.hid hpp
  rw [hpp] at c14 hp
  have HOK := Lib.hid ok
  have HSIX := Lib.hid hsix
  have HWT := Lib.hid hwt
  have HONE := Lib.hid cOne
  clear cOne hl hB h hx hne hsix hwt ok hpp bd HC
  go_enter Tryz.func12, Tryz.ntmps12
  go_wp2_with fail
  go_loopw [6] (fun i wr => ∃ k : Nat, k ≤ n ∧ i = .int .i64 k ∧ Hid ((xs.take k).any (oddO s) = false) ∧ ∃ d, wr = w.drewN d) (fun i _ => n - (intOf i).toNat)
  case atStart => exact ⟨0, by omega, rfl, Lib.hid (by simp), 0, rfl⟩
  case round =>
    obtain ⟨k, hk, rfl, hodd, d, rfl⟩ := hrel
    by_cases hlt : k < n
    · obtain ⟨b, off, y, rfl, hc, hy, wy⟩ := HX.out.at_ hlt
      have hyb := wf64 wy
      by_cases h0 : y < 0
      · have hd : decide (y < 0) = true := by simpa using h0
        have HF : Hid (faultO s pp xs = 2) := Lib.hid (fault_odd (k := k) (by rw [HL.out]; exact hlt) (by rw [hy.out]; unfold oddO; simp [h0]))
        clear hodd hy wy
        go_upto_region 4 with (fail)
        go_quiet (fail)
        go_wp2
        go_ret2
        refine ⟨.slice none 0 0, _, (by rw [HPP.out, HF.out]; rfl), fun _ => rfl, fun e => by rw [HPP.out, HF.out] at e; omega, ?_, .inl rfl, AwayO.of_below (by first | exact below_drewN (Below.refl _ _) _ | exact below_drewN (below_drewN (Below.refl _ _) _) _)⟩
        have e : nextO s (W.nums s) st xs = st := by unfold nextO; rw [HPP.out, HF.out]; rfl
        rw [e]
        exact HS.out.bel (by first | exact below_drewN (Below.refl _ _) _ | exact below_drewN (below_drewN (Below.refl _ _) _) _)
      · have hd : decide (y < 0) = false := by simpa using h0
        by_cases h2 : (s.v : Int) ≤ y
        · have hd2 : decide (y ≥ (s.v : Int)) = true := by simpa using h2
          have HF : Hid (faultO s pp xs = 2) := Lib.hid (fault_odd (k := k) (by rw [HL.out]; exact hlt) (by rw [hy.out]; unfold oddO; simp [h2]))
          clear hodd hy wy
          go_upto_region 4 with (fail)
          go_quiet (fail)
          go_wp2
          go_ret2
          refine ⟨.slice none 0 0, _, (by rw [HPP.out, HF.out]; rfl), fun _ => rfl, fun e => by rw [HPP.out, HF.out] at e; omega, ?_, .inl rfl, AwayO.of_below (by first | exact below_drewN (Below.refl _ _) _ | exact below_drewN (below_drewN (Below.refl _ _) _) _)⟩
          have e : nextO s (W.nums s) st xs = st := by unfold nextO; rw [HPP.out, HF.out]; rfl
          rw [e]
          exact HS.out.bel (by first | exact below_drewN (Below.refl _ _) _ | exact below_drewN (below_drewN (Below.refl _ _) _) _)
        · have hd2 : decide (y ≥ (s.v : Int)) = false := by simpa using h2
          have HO : Hid ((xs.take (k + 1)).any (oddO s) = false) := Lib.hid (by
            have h9 : k < xs.length := by rw [HL.out]; exact hlt
            have h8 := hy.out
            rw [List.getD_eq_getElem?_getD, List.getElem?_eq_getElem h9] at h8
            simp only [Option.getD_some] at h8
            rw [List.take_add_one, List.getElem?_eq_getElem h9, h8, List.any_append, hodd.out]
            have : oddO s y = false := oddO_no.2 ⟨by omega, by omega⟩
            simp [this])
          clear hodd hy wy
          go_upto_region 4 with (fail)
          go_quiet (fail)
          go_wp2
          go_roundw
          case rel => exact ⟨k + 1, by omega, by go_num, HO, _, rfl⟩
          case measure => simp [intOf]; omega
    · obtain rfl : k = n := by omega
      have hodd2 : xs.any (oddO s) = false := by have h9 := hodd.out; rwa [List.take_of_length_le (by rw [HL.out]; exact Nat.le_refl _)] at h9
      have HFF : Hid (faultO s pp xs = if s.p < pp + k then 80 else 0) := Lib.hid (by rw [fault_full hodd2, HL.out])
      clear hodd hodd2
      by_cases hfull : s.p < pp + k
      · have HF : Hid (faultO s pp xs = 80) := Lib.hid (by rw [HFF.out, if_pos hfull])
        go_upto_region 6 with (fail)
        go_quiet (fail)
        go_wp2
        go_ret2
        refine ⟨.slice none 0 0, _, (by rw [HPP.out, HF.out]; rfl), fun _ => rfl, fun e => by rw [HPP.out, HF.out] at e; omega, ?_, .inl rfl, AwayO.of_below (by first | exact below_drewN (Below.refl _ _) _ | exact below_drewN (below_drewN (Below.refl _ _) _) _)⟩
        have e : nextO s (W.nums s) st xs = st := by unfold nextO; rw [HPP.out, HF.out]; rfl
        rw [e]
        exact HS.out.bel (by first | exact below_drewN (Below.refl _ _) _ | exact below_drewN (below_drewN (Below.refl _ _) _) _)
      · have HF : Hid (faultO s pp xs = 0) := Lib.hid (by rw [HFF.out, if_neg hfull])
        have HF' : Hid (faultO s st.p xs = 0) := Lib.hid (by rw [HPP.out]; exact HF.out)
        obtain ⟨hrange, hroom⟩ := faultO_yes HF'.out
        have HRG := Lib.hid hrange
        go_upto_region 6 with (fail)
        go_quiet (fail)
        have hfi : ¬ ((s.p : Int) < (pp : Int) + (k : Int)) := by omega
        obtain ⟨w2, hw2⟩ : ∃ w2, (w.drewN d).drewN nq = w2 := ⟨_, rfl⟩
        have hb2 : Below w.heap.size w w2 := by rw [← hw2]; exact below_drewN (below_drewN (Below.refl _ _) _) _
        rw [hw2]
        have HA0 : Hid (AwayO w w2 r (Value.ownBlock (.slice la st.p lc))) := Lib.hid (AwayO.of_below hb2)
        have HD0 : Hid (DocS w2 r (.slice la st.p lc) s W (atO (W.nums s) st xs 0).p (atO (W.nums s) st xs 0).K) := Lib.hid (HS.out.bel hb2)
        clear hb2 c4 c5 c14 hrange hw2
        go_wp2_with fail
        go_loopw [7, 8] (fun v i wr => ∃ (j : Nat) (lv' : Value), j ≤ k ∧ i = .int .i64 j ∧ Hid (DocS wr r lv' s W (atO (W.nums s) st xs j).p (atO (W.nums s) st xs j).K) ∧ Hid (lv'.ownBlock = Value.ownBlock (.slice la st.p lc) ∨ ∃ b, lv'.ownBlock = some b ∧ w.heap.size ≤ b) ∧ Hid (AwayO w wr r (Value.ownBlock (.slice la st.p lc))) ∧ Hid (j = 0 → v = .slice none 0 0) ∧ Hid (0 < j → ∃ a c, v = .slice a s.v c ∧ Elems .i32 wr a s.v (outO (W.nums s) (atO (W.nums s) st xs j).x))) (fun _ i _ => k - (intOf i).toNat)
        case atStart => exact ⟨0, _, by omega, rfl, HD0, Lib.hid (.inl rfl), HA0, Lib.hid (fun _ => rfl), Lib.hid (fun h => absurd h (by omega))⟩
        case round =>
          clear HD0 HA0
          obtain ⟨j, lv', hj, rfl, hD, hlv, hA, hz, hv⟩ := hrel
          by_cases hlt2 : j < k
          · have hE := hA.out.elems HS.out HX.out HNE.out
            obtain ⟨b, off, y, hab, hc, hy, wy⟩ := hE.at_ hlt2
            subst hab
            have hyr := HRG.out y (by
              rw [← hy.out]
              exact getD_mem (by rw [HL.out]; exact hlt2))
            obtain ⟨ty, hty⟩ : ∃ ty : Nat, y = (ty : Int) := ⟨y.toNat, by omega⟩
            subst hty
            have hpj : (atO (W.nums s) st xs j).p = pp + j := by rw [atO_p _ _ _ _ (by rw [HL.out]; omega), HPP.out]
            have cO := HONE.out r ty (atO (W.nums s) st xs j).p lv' s HOK.out W (atO (W.nums s) st xs j).K wr hD.out HSIX.out HWT.out (by omega) (by rw [hpj]; omega)
            have HN : Hid (goO (W.nums s) (atO (W.nums s) st xs j) ty = atO (W.nums s) st xs (j + 1)) := Lib.hid (by
              rw [atO_next _ _ _ _ (by rw [HL.out]; exact hlt2), hy.out]
              rfl)
            clear hE hy wy hyr hpj hz hv
            go_wp2_with (first
              | (refine cO.mono ?_
                 rintro e w3 ⟨⟨oa, oc, rfl, hoE⟩, ⟨lv3, hD3, hlv3⟩, hA3⟩
                 have HV3 : Hid (Elems .i32 w3 oa s.v (outO (W.nums s) (atO (W.nums s) st xs (j + 1)).x)) := Lib.hid (by rw [← HN.out]; exact hoE)
                 have HD3 : Hid (DocS w3 r lv3 s W (atO (W.nums s) st xs (j + 1)).p (atO (W.nums s) st xs (j + 1)).K) := Lib.hid (by rw [← HN.out]; exact hD3)
                 have HA3 := Lib.hid (hA.out.trans hA3 hlv.out)
                 have HL3 : Hid (lv3.ownBlock = Value.ownBlock (.slice la st.p lc) ∨ ∃ b, lv3.ownBlock = some b ∧ w.heap.size ≤ b) := Lib.hid (by
                   rcases hlv3 with h9 | ⟨b9, h9, h8⟩
                   · rw [h9]; exact hlv.out
                   · exact .inr ⟨b9, h9, Nat.le_trans hA.out.size h8⟩)
                 clear hoE hD3 hA3 hlv3 cO))
            go_roundw
            case rel => exact ⟨j + 1, lv3, by omega, by go_num, HD3, HL3, HA3, Lib.hid (fun h => absurd h (by omega)), Lib.hid (fun _ => ⟨oa, oc, rfl, HV3.out⟩)⟩
            case measure => simp [intOf]; omega
          · obtain rfl : j = k := by omega
            have HNX : Hid (nextO s (W.nums s) st xs = atO (W.nums s) st xs j) := Lib.hid (by
              unfold nextO atO
              rw [if_pos HF'.out, List.take_of_length_le (by rw [HL.out]; exact Nat.le_refl _)])
            have HRU : Hid (runO (W.nums s) st (xs.map Int.toNat) = atO (W.nums s) st xs j) := Lib.hid (by
              unfold atO
              rw [List.take_of_length_le (by rw [HL.out]; exact Nat.le_refl _)])
            go_wp2
            go_ret2
            refine ⟨_, lv', (by rw [HF'.out]; rfl), fun h => ?_, fun _ h0 => ?_, by rw [HNX.out]; exact hD.out, hlv.out, hA.out⟩
            · rcases h with h | h
              · exact absurd HF'.out h
              · exact hz.out (by rw [← HL.out, h]; rfl)
            · rw [HRU.out]
              exact hv.out (by rw [← HL.out]; exact h0)

end Go.Proofs.YtoeihigdndkjeaaGreatDoor
