/-
  Contracts of sameWidth and Mix: rows, summed by weights, in new memory; or a refusal.
-/
import Derived.Test.YthblniakghfchaaDoorSumOf
import Derived.Test.YthblniakghfchaaDoorNorms
namespace Go.Proofs.YthblniakghfchaaDoor
open Go.RowKit
set_option linter.unusedVariables false

/-- are the rows of one width? -/
def sameW (qs : List Rw) : Bool := qs.all fun q => decide (q.n = (qs.getD 0 default).n)

theorem same_width (a : Option Addr) (n cap : Nat) (qs : List Rw) (w : World) (h : Rws .i8 w a n qs) :
    Calls Tryd.prog 35 #[.slice a n cap] w fun e w' => e = .returned (.bool (sameW qs)) ∧ w = w' := by
  have HL := Lib.hid h.1
  have hn := h.2.1
  go_enter Tryd.func35, Tryd.ntmps35
  go_wp2
  go_loop [7] (fun i => ∃ (k : Nat), k ≤ n ∧ i = .int .i64 k ∧ Hid (∀ i, i < k → (qs.getD i default).n = (qs.getD 0 default).n)) (fun i => n - (intOf i).toNat)
  case atStart => exact ⟨0, by omega, rfl, Lib.hid (fun i hi => by omega)⟩
  case round =>
    obtain ⟨k, hk, rfl, hall⟩ := hrel
    by_cases hlt : k < n
    · obtain ⟨b, off, q, rfl, _, cq, hq, hin⟩ := h.at_ hlt
      obtain ⟨b2, off2, p, he, _, cp, hp, hin2⟩ := h.at_ (i := 0) (by omega)
      cases he
      obtain ⟨qa, qn, qcap, qv⟩ := q
      obtain ⟨pa, pn, pcap, pv⟩ := p
      have hq1 := hin.2.2.1
      have hp1 := hin2.2.2.1
      have hq2 := hin.2.1
      have hp2 := hin2.2.1
      simp only at cq cp hq1 hp1 hq2 hp2
      rw [Nat.add_zero] at cp
      by_cases hc : qn = pn
      · subst hc
        have hst : Hid (∀ i, i < k + 1 → (qs.getD i default).n = (qs.getD 0 default).n) := Lib.hid (fun i hi => by
          rcases Nat.lt_or_ge i k with h1 | h1
          · exact hall.out i h1
          · obtain rfl : i = k := by omega
            rw [hq.out, hp.out])
        clear h hq hp hin hin2 hall
        go_wp2
        go_round
        case rel => exact ⟨k + 1, by omega, by go_num, hst⟩
        case measure => simp [intOf]; omega
      · have hc' : ((qn : Int) != (pn : Int)) = true := by simp; omega
        have hno : sameW qs = false := by
          unfold sameW
          rw [List.all_eq_false]
          refine ⟨qs.getD k default, ?_, by rw [hq.out, hp.out]; simpa using hc⟩
          rw [List.getD_eq_getElem?_getD, List.getElem?_eq_getElem (by rw [HL.out]; exact hlt)]
          exact List.getElem_mem _
        have HN := Lib.hid hno
        clear h hq hp hin hin2 hall hc hno
        go_wp2
        go_ret
        exact ⟨ret_bool HN.out.symm, rfl⟩
    · have hyes : sameW qs = true := by
        unfold sameW
        rw [List.all_eq_true]
        intro q hq
        obtain ⟨i, hi, rfl⟩ := List.getElem_of_mem hq
        have := hall.out i (by have := HL.out; omega)
        rw [List.getD_eq_getElem?_getD, List.getElem?_eq_getElem hi] at this
        simpa using this
      have HY := Lib.hid hyes
      clear h hall hyes
      go_wp2
      go_ret
      exact ⟨ret_bool HY.out.symm, rfl⟩

theorem sameW_at {qs : List Rw} (h : sameW qs = true) {q : Rw} (hq : q ∈ qs) : q.n = (qs.getD 0 default).n := by
  unfold sameW at h
  simpa using List.all_eq_true.1 h q hq

/-- the sum at place p of the first k rows, by their weights -/
def msum (ws : List Int) (qs : List Rw) (k p : Nat) : Int := ((List.range k).map fun i => ws.getD i 0 * (qs.getD i default).v.getD p 0).sum
theorem msum_step (ws : List Int) (qs : List Rw) (k p : Nat) : msum ws qs (k + 1) p = msum ws qs k p + ws.getD k 0 * (qs.getD k default).v.getD p 0 := by
  unfold msum
  rw [List.range_succ, List.map_append, List.sum_append]; simp
def mixL (ws : List Int) (qs : List Rw) (n m : Nat) : List Int := (List.range m).map fun p => mix1 (msum ws qs n p)
theorem mixL_wf (ws : List Int) (qs : List Rw) (n m : Nat) : ∀ c ∈ mixL ws qs n m, (Lit.int .i8 c).wf = true := by
  intro c hc
  obtain ⟨i, _, rfl⟩ := List.mem_map.1 hc
  exact mix1_wf _

/-- what the loops keep: k rows are summed, and one more at the first j places -/
def SInv (ws : List Int) (qs : List Rw) (m k j : Nat) (cs : List Int) : Prop :=
  cs.length = 2 * m ∧ ∀ p, p < m → ∃ hi lo : Int, cs.getD (p * 2) 0 = hi ∧ cs.getD (p * 2 + 1) 0 = lo ∧ hi * 65536 + lo = msum ws qs (if p < j then k + 1 else k) p ∧ -(4194304 * (if p < j then k + 1 else k : Nat)) ≤ hi ∧ hi ≤ 4194304 * (if p < j then k + 1 else k : Nat) ∧ 0 ≤ lo ∧ lo ≤ 65535 * (if p < j then k + 1 else k : Nat)
theorem sinv_start (ws : List Int) (qs : List Rw) (m : Nat) : SInv ws qs m 0 0 (List.replicate (2 * m) 0) := by
  refine ⟨by simp, fun p hp => ⟨0, 0, ?_, ?_, by simp [msum], by simp, by simp, by simp, by simp⟩⟩
  · rw [List.getD_eq_getElem?_getD, List.getElem?_replicate]; split <;> rfl
  · rw [List.getD_eq_getElem?_getD, List.getElem?_replicate]; split <;> rfl
theorem sinv_row {ws : List Int} {qs : List Rw} {m k : Nat} {cs : List Int} (h : SInv ws qs m k m cs) : SInv ws qs m (k + 1) 0 cs := by
  refine ⟨h.1, fun p hp => ?_⟩
  obtain ⟨hi, lo, h1, h2, h3⟩ := h.2 p hp
  rw [if_pos hp] at h3
  refine ⟨hi, lo, h1, h2, ?_⟩
  rw [if_neg (by omega)]
  exact h3
theorem sinv_step {ws : List Int} {qs : List Rw} {m k j : Nat} {cs : List Int} {x wt hi lo : Int} (h : SInv ws qs m k j cs) (hj : j < m) (hx : (qs.getD k default).v.getD j 0 = x) (hw : ws.getD k 0 = wt)
    (e1 : cs.getD (j * 2) 0 = hi) (e2 : cs.getD (j * 2 + 1) 0 = lo) (hb1 : -274877906944 ≤ x * wt) (hb2 : x * wt ≤ 274877906944) :
    SInv ws qs m k (j + 1) ((cs.set (j * 2) (hi + x * wt / 65536)).set (j * 2 + 1) (lo + x * wt % 65536)) := by
  have hl := h.1
  refine ⟨by simpa using hl, fun p hp => ?_⟩
  obtain ⟨hi', lo', h1, h2, h3⟩ := h.2 p hp
  by_cases e : p = j
  · subst e
    obtain rfl : hi' = hi := by rw [← h1, e1]
    obtain rfl : lo' = lo := by rw [← h2, e2]
    rw [if_neg (by omega)] at h3
    obtain ⟨h3, h4, h5, h6, h7⟩ := h3
    refine ⟨hi' + x * wt / 65536, lo' + x * wt % 65536, ?_, ?_, ?_⟩
    · rw [List.getD_eq_getElem?_getD, List.getElem?_set_ne (by omega), List.getElem?_set_self (by omega)]; rfl
    · rw [List.getD_eq_getElem?_getD, List.getElem?_set_self (by simp; omega)]; rfl
    · rw [if_pos (by omega), msum_step, hx, hw, ← h3]
      have hc : wt * x = x * wt := Int.mul_comm _ _
      rw [hc]
      generalize x * wt = t at hb1 hb2 ⊢
      push_cast
      omega
  · refine ⟨hi', lo', ?_, ?_, ?_⟩
    · rw [List.getD_eq_getElem?_getD, List.getElem?_set_ne (by omega), List.getElem?_set_ne (by omega), ← List.getD_eq_getElem?_getD]; exact h1
    · rw [List.getD_eq_getElem?_getD, List.getElem?_set_ne (by omega), List.getElem?_set_ne (by omega), ← List.getD_eq_getElem?_getD]; exact h2
    · by_cases e2 : p < j
      · rw [if_pos e2] at h3; rw [if_pos (by omega)]; exact h3
      · rw [if_neg e2] at h3; rw [if_neg (by omega)]; exact h3

theorem mix_prod (x wt : Int) (x1 : -128 ≤ x) (x2 : x ≤ 127) (w1 : -2147483648 ≤ wt) (w2 : wt ≤ 2147483647) : -274877906944 ≤ x * wt ∧ x * wt ≤ 274877906944 := by
  have ha : (x * wt).natAbs ≤ 128 * 2147483648 := by rw [Int.natAbs_mul]; exact Nat.mul_le_mul (by omega) (by omega)
  omega

theorem mix_no (wa a : Option Addr) (n m wcap cap : Nat) (qs : List Rw) (w : World) (h : Rws .i8 w a m qs) (hn : n ≤ 9223372036854775807) (hne : n ≠ m ∨ sameW qs = false) :
    Calls Tryd.prog 18 #[.slice wa n wcap, .slice a m cap] w fun e w' => e = .returned (.tuple #[.slice none 0 0, .int .i64 30]) ∧ w = w' := by
  have hm := h.2.1
  have hs := same_width a m cap qs w h
  by_cases hc : n = m
  · have hf : sameW qs = false := by rcases hne with h1 | h1; exact absurd hc h1; exact h1
    rw [hf] at hs
    subst hc
    clear hne hf h
    have hnn : ((n : Int) != (n : Int)) = false := by simp
    go_enter Tryd.func18, Tryd.ntmps18
    go_wp2_with (go_at_call 35; (with_reducible refine hs.mono ?_); rintro e w' ⟨rfl, rfl⟩)
    go_ret2
    exact ⟨rfl, rfl⟩
  · have hnn : ((n : Int) != (m : Int)) = true := by simp; omega
    clear hne hc hs h
    go_enter Tryd.func18, Tryd.ntmps18
    go_wp2
    go_ret2
    exact ⟨rfl, rfl⟩

theorem mix_none (wa a : Option Addr) (wcap cap : Nat) (w : World) :
    Calls Tryd.prog 18 #[.slice wa 0 wcap, .slice a 0 cap] w fun e w' => e = .returned (.tuple #[.slice none 0 0, .int .i64 0]) ∧ w = w' := by
  have hs := same_width a 0 cap [] w (Rws.nil_ _ _ _)
  have e : sameW [] = true := rfl
  rw [e] at hs
  clear e
  go_enter Tryd.func18, Tryd.ntmps18
  go_wp2_with (go_at_call 35; (with_reducible refine hs.mono ?_); rintro e w' ⟨rfl, rfl⟩)
  go_ret2
  exact ⟨rfl, rfl⟩

set_option maxHeartbeats 2000000 in
theorem mix_some (wa a : Option Addr) (n wcap cap m : Nat) (ws : List Int) (qs : List Rw) (w : World) (hw : Elems .i32 w wa n ws) (h : Rws .i8 w a n qs) (h0 : 0 < n) (hn : n ≤ 200) (hs : sameW qs = true) (hm : (qs.getD 0 default).n = m) (hm2 : m ≤ 1000) :
    Calls Tryd.prog 18 #[.slice wa n wcap, .slice a n cap] w fun e w' => (∃ g, e = .returned (.tuple #[.slice (some ⟨g, 0, none⟩) m m, .int .i64 0]) ∧ Elems .i8 w' (some ⟨g, 0, none⟩) m (mixL ws qs n m)) ∧ Below w.heap.size w w' := by
  have hmk := run_make_sums m (by omega)
  have hmk2 := run_make_row' (P := Tryd.prog) 22 39 (.int .i8 0) 1 Tryd.underlying22 info8 rfl .i64 .i64 m (by omega) (by omega)
  have hsw := same_width a n cap qs w h
  rw [hs] at hsw
  have HW : ∀ q ∈ qs, q.n = m := fun q hq => (sameW_at hs hq).trans hm
  obtain ⟨b, off, q, rfl, hblk, cq, hq, hin⟩ := h.at_ h0
  have hqn : q.n = m := by rw [← hq.out]; exact hm
  obtain ⟨qa, qn, qcap, qv⟩ := q
  simp only at hqn cq
  subst hqn
  rw [Nat.add_zero] at cq
  have hnn : ((n : Int) != (n : Int)) = false := by simp
  have hnz : ((n : Int) == 0) = false := by simp; omega
  have hcp := hin.2.2.1
  have hcp2 := hin.2.1
  simp only at hcp hcp2
  have HH := Lib.hid h
  have HWT := Lib.hid hw
  have HWD := Lib.hid HW
  clear hq hin hs hm h hw HW
  go_enter Tryd.func18, Tryd.ntmps18
  go_wp2_with (go_at_call 35; (with_reducible refine hsw.mono ?_); rintro e w' ⟨rfl, rfl⟩)
  clear hsw hnn hnz
  go_loopw [34] (fun i wr => ∃ (k : Nat) (cs : List Int), k ≤ n ∧ i = .int .i64 k ∧ MineK .i64 wr w.heap.size 68 cs ∧ Below w.heap.size w wr ∧ Hid (SInv ws qs qn k 0 cs)) (fun i _ => n - (intOf i).toNat)
  case atStart => exact ⟨0, _, by omega, rfl, mineK_noughts rfl, (Below.refl _ _).alloc (Nat.le_refl _) _, Lib.hid (sinv_start ws qs qn)⟩
  case round =>
    clear cq
    obtain ⟨k, cs, hk, rfl, hmine, hbel, hinv⟩ := hrel
    by_cases hlt : k < n
    · obtain ⟨b1, off1, wt, rfl, hc, hv, wv⟩ := (HWT.out.below hbel).at_ hlt
      obtain ⟨b2, off2, q, he, _, cq, hq, hin⟩ := (HH.out.below hbel).at_ hlt
      cases he
      have hqm : q ∈ qs := by
        rw [← hq.out, List.getD_eq_getElem?_getD, List.getElem?_eq_getElem (by rw [HH.out.1]; exact hlt)]
        exact List.getElem_mem _
      have hqn := HWD.out q hqm
      have hqw := HH.out.2.2.1 q hqm
      obtain ⟨ra, rn, rcap, rv⟩ := q
      simp only at hqn cq
      subst hqn
      have hrc := hin.2.2.1
      have hrc2 := hin.2.1
      simp only at hrc hrc2
      have HQ := Lib.hid hqw.1
      obtain ⟨wt1, wt2⟩ := wf32 wv
      have HWV := Lib.hid (show ws.getD k 0 = wt from hv.out)
      have HRV := Lib.hid (show (qs.getD k default).v = rv by rw [hq.out])
      clear hv hq hqm hqw hin
      go_wp2
      go_loopw [46] (fun i wr => ∃ (j : Nat) (cs : List Int), j ≤ rn ∧ i = .int .i64 j ∧ MineK .i64 wr w.heap.size 68 cs ∧ Below w.heap.size w wr ∧ Hid (SInv ws qs rn k j cs)) (fun i _ => rn - (intOf i).toNat)
      case atStart => exact ⟨0, cs, by omega, rfl, hmine, hbel, hinv⟩
      case round =>
        clear hinv hbel hmine hc cq
        obtain ⟨j, cs, hj, rfl, hmine, hbel, hinv⟩ := hrel
        by_cases hlt2 : j < rn
        · obtain ⟨b3, off3, x, he, hc, hv, wv⟩ := (HQ.out.below hbel).at_ hlt2
          subst he
          obtain ⟨x1, x2⟩ := wf8 wv
          have hl := hinv.out.1
          obtain ⟨hi, lo, e1, e2, h3⟩ := hinv.out.2 j hlt2
          rw [if_neg (by omega)] at h3
          obtain ⟨_, h4, h5, h6, h7⟩ := h3
          have c0 := hmine.cell (k := j * 2) (by omega)
          have c1 := hmine.cell (k := j * 2 + 1) (by omega)
          rw [e1] at c0
          rw [e2] at c1
          obtain ⟨p1, p2⟩ := mix_prod x wt x1 x2 wt1 wt2
          have hadd := sum_add w.heap.size (j * 2) (x * wt) hi lo wr c0 c1 (hmine.frozen _) (hmine.frozen _) (by omega) (by omega) (by omega) (by omega) (by omega) (by omega)
          have hst := Lib.hid (sinv_step hinv.out hlt2 (by rw [HRV.out]; exact hv.out) HWV.out e1 e2 p1 p2)
          have hm2' := (hmine.set (j * 2) (hi + x * wt / 65536)).set (j * 2 + 1) (lo + x * wt % 65536)
          have hb2' := (hbel.setCell (p := ⟨w.heap.size, j * 2, none⟩) (Nat.le_refl _) (.int .i64 (hi + x * wt / 65536))).setCell (p := ⟨w.heap.size, j * 2 + 1, none⟩) (Nat.le_refl _) (.int .i64 (lo + x * wt % 65536))
          clear hinv hbel hmine hl e1 e2 c0 c1 h4 h5 h6 h7 hv wv
          go_wp2_with (go_at_call 36; (with_reducible refine hadd.mono ?_); rintro e w' ⟨rfl, rfl⟩)
          clear hadd
          go_roundw
          case rel => exact ⟨j + 1, _, by omega, by go_num, hm2', hb2', hst⟩
          case measure => simp [intOf]; omega
        · obtain rfl : j = rn := by omega
          have hst := Lib.hid (sinv_row hinv.out)
          clear hinv
          go_wp2
          go_roundw
          case rel => exact ⟨k + 1, cs, by omega, by go_num, hmine, hbel, hst⟩
          case measure => simp [intOf]; omega
    · obtain rfl : k = n := by omega
      obtain ⟨w1, hw1⟩ : ∃ w1, w1 = wr := ⟨_, rfl⟩
      subst hw1
      have hs1 := hbel.size
      have hB1 := hmine.lt
      clear HH HWT HWD hmk
      go_wp2
      go_loopw [66] (fun i wr => ∃ (j : Nat) (ds : List Int), j ≤ qn ∧ i = .int .i64 j ∧ MineK .i64 wr w.heap.size 68 cs ∧ MineK .i8 wr w1.heap.size 39 ds ∧ Below w.heap.size w wr ∧ Hid (FilledBy (fun p => mix1 (msum ws qs k p)) qn j ds)) (fun i _ => qn - (intOf i).toNat)
      case atStart => exact ⟨0, List.replicate qn 0, by omega, rfl, hmine.alloc _, mine_made .i8 w1 39 qn rfl, hbel.alloc hs1 _, Lib.hid (filledBy_start _ qn)⟩
      case round =>
        clear hmine hbel
        obtain ⟨j, ds, hj, rfl, hmine, hmy, hbel, hfil⟩ := hrel
        by_cases hlt2 : j < qn
        · have hl := hinv.out.1
          obtain ⟨hi, lo, e1, e2, h3⟩ := hinv.out.2 j hlt2
          rw [if_neg (by omega)] at h3
          obtain ⟨hT, h4, h5, h6, h7⟩ := h3
          have c0 := hmine.cell (k := j * 2) (by omega)
          have c1 := hmine.cell (k := j * 2 + 1) (by omega)
          rw [e1] at c0
          rw [e2] at c1
          have hdown := sum_down w.heap.size (j * 2) hi lo wr c0 c1 (by omega) (by omega) (by omega) (by omega)
          rw [hT] at hdown
          have hyl := hfil.out.1
          have hold := hmy.cell (k := j) (by omega)
          have hf := hmy.frozen j
          have hst := Lib.hid (filledBy_step hfil.out hlt2)
          have hm2' := fun d => (hmine.drewN d).kept (grownBy_setCell _ w1.heap.size j (.int .i8 (mix1 (msum ws qs k j)))) (by simp; omega)
          have hmy' := fun d => (hmy.drewN d).set j (mix1 (msum ws qs k j))
          have hb2' := fun d => (below_drewN hbel d).setCell (p := ⟨w1.heap.size, j, none⟩) hs1 (.int .i8 (mix1 (msum ws qs k j)))
          generalize ds.getD j 0 = c at hold
          generalize mix1 (msum ws qs k j) = z at hdown hst hm2' hmy' hb2'
          clear hmine hmy hbel hfil hl e1 e2 c0 c1 h4 h5 h6 h7 hT hyl
          go_wp2_with (go_at_call 37; (with_reducible refine hdown.mono ?_); rintro e w' ⟨rfl, d, rfl⟩)
          clear hdown
          go_roundw
          case rel => exact ⟨j + 1, _, by omega, by go_num, hm2' d, hmy' d, hb2' d, hst⟩
          case measure => simp [intOf]; omega
        · obtain rfl : j = qn := by omega
          have he := filledBy_range hfil.out
          have hE := hmy.elems (n := j) hfil.out.1 (by omega) (by rw [he]; exact mixL_wf ws qs k j)
          rw [he] at hE
          have HE := Lib.hid (show Elems .i8 wr (some ⟨w1.heap.size, 0, none⟩) j (mixL ws qs k j) from hE)
          clear he hE hmine hmy hfil hinv
          go_wp2
          go_ret2
          exact ⟨⟨_, rfl, HE.out⟩, hbel⟩

end Go.Proofs.YthblniakghfchaaDoor
