/-
  Contract of the document's Mix: the same row as layer 5's, in new memory; or none.
-/
import Derived.Test.YthblniakghfchaaDoorMixes
import Derived.Test.YthblniakghfchaaDoorRefNorm
namespace Go.Proofs.YthblniakghfchaaDoor
open Go.RowKit
set_option linter.unusedVariables false

theorem row_mem {k : IntKind} {w : World} {a : Option Addr} {n : Nat} {qs : List Rw} (h : Rws k w a n qs) {i : Nat} (hi : i < n) : qs.getD i default ∈ qs := by
  rw [List.getD_eq_getElem?_getD, List.getElem?_eq_getElem (by rw [h.1]; exact hi)]
  exact List.getElem_mem _

theorem ref_mix_len (wa a : Option Addr) (n m wcap cap : Nat) (w : World) (hn : n ≤ 9223372036854775807) (hm : m ≤ 9223372036854775807) (hne : n ≠ m) :
    Calls Tryd.prog 19 #[.slice wa n wcap, .slice a m cap] w fun e w' => e = .returned (.tuple #[.slice none 0 0, .bool false]) ∧ Below w.heap.size w w' := by
  have hnn : ((n : Int) != (m : Int)) = true := by simp; omega
  clear hne
  go_enter Tryd.func19, Tryd.ntmps19
  go_wp2
  go_ret2
  exact ⟨rfl, Below.refl _ _⟩

theorem ref_mix_none (wa a : Option Addr) (wcap cap : Nat) (w : World) :
    Calls Tryd.prog 19 #[.slice wa 0 wcap, .slice a 0 cap] w fun e w' => e = .returned (.tuple #[.slice none 0 0, .bool true]) ∧ Below w.heap.size w w' := by
  go_enter Tryd.func19, Tryd.ntmps19
  go_wp2
  go_loopw [7] (fun i wr => i = .int .i64 0 ∧ wr = w) (fun i _ => 0)
  case atStart => exact ⟨rfl, rfl⟩
  case round =>
    obtain ⟨rfl, rfl⟩ := hrel
    go_wp2
    go_ret2
    exact ⟨rfl, Below.refl _ _⟩

set_option maxHeartbeats 800000 in
theorem ref_mix_wide (wa a : Option Addr) (n wcap cap : Nat) (qs : List Rw) (w : World) (h : Rws .i8 w a n qs) (hs : sameW qs = false) :
    Calls Tryd.prog 19 #[.slice wa n wcap, .slice a n cap] w fun e w' => e = .returned (.tuple #[.slice none 0 0, .bool false]) ∧ Below w.heap.size w w' := by
  have HL := Lib.hid h.1
  have hn := h.2.1
  have HS := Lib.hid hs
  clear hs
  have hnn : ((n : Int) != (n : Int)) = false := by simp
  go_enter Tryd.func19, Tryd.ntmps19
  go_wp2
  clear hnn
  go_loopw [7] (fun i wr => ∃ (k d : Nat), k ≤ n ∧ i = .int .i64 k ∧ wr = w.drewN d ∧ Hid (∀ i, i < k → (qs.getD i default).n = (qs.getD 0 default).n)) (fun i _ => n - (intOf i).toNat)
  case atStart => exact ⟨0, 0, by omega, rfl, rfl, Lib.hid (fun i hi => by omega)⟩
  case round =>
    obtain ⟨k, d, hk, rfl, rfl, hall⟩ := hrel
    by_cases hlt : k < n
    · obtain ⟨b, off, q, rfl, _, cq, hq, hin⟩ := h.at_ hlt
      obtain ⟨b2, off2, p, he, _, cp, hp, hin2⟩ := h.at_ (i := 0) (by omega)
      cases he
      obtain ⟨qa, qn, qcap, qv⟩ := q
      obtain ⟨pa, pn, pcap, pv⟩ := p
      have hq1 := hin.2.2.1
      have hp1 := hin2.2.2.1
      have hq2 := hin.2.1
      have hp2 := hin2.2.1
      simp only at cq cp hq1 hp1 hq2 hp2
      rw [Nat.add_zero] at cp
      by_cases hc : qn = pn
      · subst hc
        have hst : Hid (∀ i, i < k + 1 → (qs.getD i default).n = (qs.getD 0 default).n) := Lib.hid (fun i hi => by
          rcases Nat.lt_or_ge i k with h1 | h1
          · exact hall.out i h1
          · obtain rfl : i = k := by omega
            rw [hq.out, hp.out])
        have hqq : ((qn : Int) != (qn : Int)) = false := by simp
        clear h hq hp hin hin2 hall
        go_wp2_with fail
        go_quiet (fail)
        go_wp2
        go_roundw
        case rel => exact ⟨k + 1, _, by omega, by go_num, rfl, hst⟩
        case measure => simp [intOf]; omega
      · have hc' : ((qn : Int) != (pn : Int)) = true := by simp; omega
        clear h hq hp hin hin2 hall hc
        go_wp2_with fail
        go_quiet (fail)
        go_wp2
        go_ret2
        exact ⟨rfl, below_drewN (below_drewN (Below.refl _ _) d) _⟩
    · have hyes : sameW qs = true := by
        unfold sameW
        rw [List.all_eq_true]
        intro q hq
        obtain ⟨i, hi, rfl⟩ := List.getElem_of_mem hq
        have := hall.out i (by have := HL.out; omega)
        rw [List.getD_eq_getElem?_getD, List.getElem?_eq_getElem hi] at this
        simpa using this
      rw [HS.out] at hyes
      cases hyes

set_option maxHeartbeats 2000000 in
theorem ref_mix_some (wa a : Option Addr) (n wcap cap m : Nat) (ws : List Int) (qs : List Rw) (w : World) (hw : Elems .i32 w wa n ws) (h : Rws .i8 w a n qs) (h0 : 0 < n) (hn : n ≤ 200) (hs : sameW qs = true) (hm : (qs.getD 0 default).n = m) (hm2 : m ≤ 1000) :
    Calls Tryd.prog 19 #[.slice wa n wcap, .slice a n cap] w fun e w' => (∃ b c, e = .returned (.tuple #[.slice b m c, .bool true]) ∧ Elems .i8 w' b m (mixL ws qs n m)) ∧ Below w.heap.size w w' := by
  obtain ⟨i0, hi, hz0, hz1, hz2⟩ := info8_parts
  have HW : Hid (∀ q ∈ qs, q.n = m) := Lib.hid (fun q hq => (sameW_at hs hq).trans hm)
  have HH := Lib.hid h
  have HWT := Lib.hid hw
  have hnn : ((n : Int) != (n : Int)) = false := by simp
  have hnz : ((n : Int) == 0) = false := by simp; omega
  clear hs hm hw
  go_enter Tryd.func19, Tryd.ntmps19
  go_wp2
  clear hnn
  go_loopw [7] (fun i wr => ∃ (k d : Nat), k ≤ n ∧ i = .int .i64 k ∧ wr = w.drewN d) (fun i _ => n - (intOf i).toNat)
  case atStart => exact ⟨0, 0, by omega, rfl, rfl⟩
  case round =>
    obtain ⟨k, d, hk, rfl, rfl⟩ := hrel
    by_cases hlt : k < n
    · obtain ⟨b, off, q, rfl, _, cq, hq, hin⟩ := h.at_ hlt
      obtain ⟨b2, off2, p, he, _, cp, hp, hin2⟩ := h.at_ (i := 0) (by omega)
      cases he
      have hqn := HW.out q (by rw [← hq.out]; exact row_mem h hlt)
      have hpn := HW.out p (by rw [← hp.out]; exact row_mem h h0)
      obtain ⟨qa, qn, qcap, qv⟩ := q
      obtain ⟨pa, pn, pcap, pv⟩ := p
      have hq1 := hin.2.2.1
      have hp1 := hin2.2.2.1
      have hq2 := hin.2.1
      have hp2 := hin2.2.1
      simp only at cq cp hq1 hp1 hq2 hp2 hqn hpn
      rw [Nat.add_zero] at cp
      subst hqn
      subst hpn
      have hqq : ((pn : Int) != (pn : Int)) = false := by simp
      clear h hq hp hin hin2 hnz
      go_wp2_with fail
      go_quiet (fail)
      go_wp2
      go_roundw
      case rel => exact ⟨k + 1, _, by omega, by go_num, rfl⟩
      case measure => simp [intOf]; omega
    · obtain rfl : k = n := by omega
      go_wp2
      clear hnz
      go_loopw [6, 8] (fun o i wr => ∃ (j : Nat), j ≤ m ∧ i = .int .i64 j ∧ wr.ownsRow w.heap.size 39 1 o j ((mixL ws qs k j).map (.int .i8)) ∧ Below w.heap.size w wr) (fun _ i _ => m - (intOf i).toNat)
      case atStart => exact ⟨0, by omega, rfl, own_nil (w.drewN d) w.heap.size 39, below_drewN (Below.refl _ _) d⟩
      case round =>
        obtain ⟨j, hj, rfl, hown, hbel⟩ := hrel
        obtain ⟨b, off, p, rfl, _, cp, hp, hin⟩ := (h.below hbel).at_ h0
        have hpn := HW.out p (by rw [← hp.out]; exact row_mem h h0)
        obtain ⟨pa, pn, pcap, pv⟩ := p
        simp only at cp hpn
        rw [Nat.add_zero] at cp
        subst hpn
        have hp1 := hin.2.2.1
        have hp2 := hin.2.1
        simp only at hp1 hp2
        clear h hp hin
        by_cases hlt2 : j < pn
        · obtain ⟨w1, hw1⟩ : ∃ w1, w1 = wr := ⟨_, rfl⟩
          subst hw1
          go_wp2
          go_loopw [9, 10] (fun s i wr => ∃ (c e : Nat) (q : Int), c ≤ k ∧ i = .int .i64 c ∧ s = .int .i64 q ∧ wr = w1.drewN e ∧ Hid (q = msum ws qs c j) ∧ -(274877906944 * (c : Int)) ≤ q ∧ q ≤ 274877906944 * (c : Int)) (fun _ i _ => k - (intOf i).toNat)
          case atStart => exact ⟨0, 0, 0, by omega, rfl, rfl, rfl, Lib.hid (by simp [msum]), by omega, by omega⟩
          case round =>
            clear cp
            obtain ⟨c, e, q, hc, rfl, rfl, rfl, hq, q1, q2⟩ := hrel
            by_cases hlt3 : c < k
            · obtain ⟨b1, off1, wt, rfl, hcw, hv, wv⟩ := (HWT.out.below hbel).at_ hlt3
              obtain ⟨b2, off2, r, he, _, cr, hr, hin⟩ := (HH.out.below hbel).at_ hlt3
              cases he
              have hrn := HW.out r (by rw [← hr.out]; exact row_mem HH.out hlt3)
              obtain ⟨ra, rn, rcap, rv⟩ := r
              simp only at cr hrn
              subst hrn
              have hr1 := hin.2.2.1
              have hr2 := hin.2.1
              obtain ⟨b3, off3, x, he, hcx, hx, wx⟩ := hin.1.at_ hlt2
              simp only at he hr1 hr2 hx
              subst he
              obtain ⟨x1, x2⟩ := wf8 wx
              obtain ⟨wt1, wt2⟩ := wf32 wv
              obtain ⟨p1, p2⟩ := mix_prod x wt x1 x2 wt1 wt2
              rw [Int.mul_comm] at p1 p2
              have hst : Hid (q + wt * x = msum ws qs (c + 1) j) := Lib.hid (by rw [msum_step, hq.out, hv.out, hr.out, hx.out])
              have e0 : IntKind.i64.wrap wt = wt := IntWalk.i64_in _ (by omega)
              have e1 : IntKind.i64.wrap x = x := IntWalk.i64_in _ (by omega)
              have e2 : IntKind.i64.wrap (wt * x) = wt * x := IntWalk.i64_in _ (by omega)
              have e3 : IntKind.i64.wrap (q + wt * x) = q + wt * x := IntWalk.i64_in _ (by omega)
              clear hv hr hin hx hq wv wx hown hbel
              go_wp2_with fail
              go_quiet (fail)
              clear e0 e1 e2 e3
              go_wp2
              go_roundw
              case rel => exact ⟨c + 1, _, _, by omega, by go_num, rfl, rfl, hst, by push_cast; omega, by push_cast; omega⟩
              case measure => simp [intOf]; omega
            · obtain rfl : c = k := by omega
              obtain rfl : q = msum ws qs c j := hq.out
              have hs := hbel.size
              have hnext : Hid (mixL ws qs c j ++ [mix1 (msum ws qs c j)] = mixL ws qs c (j + 1)) := Lib.hid (range_snoc (fun p => mix1 (msum ws qs c p)) j)
              have hval : mix1 (msum ws qs c j) = near (shr (msum ws qs c j) 16) (-128) 127 := rfl
              have hzb := wf8 (mix1_wf (msum ws qs c j))
              generalize msum ws qs c j = T at q1 q2 hnext hval hzb
              have hsh : ∀ w, Calls Tryd.prog 29 #[.int .i64 T, .int .i64 16] w fun e w' => e = .returned (.int .i64 (shr T 16)) ∧ w = w' := fun w => ref_shift _ _ (by omega) (by omega) w
              have hsa : ∀ w, Calls Tryd.prog 27 #[.int .i64 (shr T 16), .int .i64 (-128), .int .i64 127] w fun e w' => e = .returned (.int .i64 (near (shr T 16) (-128) 127)) ∧ w = w' := fun w => ref_near _ _ _ w
              rw [← hval] at hsa
              generalize mix1 T = z at hnext hsa hval hzb
              generalize shr T 16 = s at hsh hsa
              generalize mixL ws qs c j = cs at hown hnext
              have hown1 : (w1.drewN e).ownsRow w.heap.size 39 1 u6 j (cs.map (.int .i8)) := hown
              have hbel1 := below_drewN hbel e
              have hs1 : w.heap.size ≤ (w1.drewN e).heap.size := hs
              clear hval hq hown hbel hs
              go_wp2_with (first
                | (go_at_call 29; (with_reducible refine (hsh _).mono ?_); rintro e w' ⟨rfl, rfl⟩)
                | (go_at_call 27; (with_reducible refine (hsa _).mono ?_); rintro e w' ⟨rfl, rfl⟩)
                | (at_builtin; refine wpList_append_own _ rfl _ _ 22 rfl w.heap.size 39 i0 (.int .i8 0) 1 1 Tryd.underlying22 hi hz0 hz1 hz2 rfl (by decide) _ _ _ rfl (hown1.alloc _) ⟨(w1.drewN e).heap.size, 0, none⟩ 1 1 [.int .i8 z] rfl rfl (cell_one_new _ _ _) one_cell (by unfold maxLen; omega) (by omega) (by simp at hs1 ⊢; omega) ?_))
              intro v' w' hown' hgrow _
              have hown2 : w'.ownsRow w.heap.size 39 1 v' (j + 1) ((cs ++ [z]).map (.int .i8)) := by rw [List.map_append]; exact hown'
              have hbel2 := (hbel1.alloc hs1 (.cells #[.int .i8 z] 39)).grown hgrow (by simp at hs1 ⊢; omega) (own_lt hown1)
              rw [hnext.out] at hown2
              clear hown' hgrow hown1 hbel1 hs1 hsh hsa
              go_wp2
              go_roundw
              case rel => exact ⟨j + 1, by omega, by go_num, hown2, hbel2⟩
              case measure => simp [intOf]; omega
        · obtain rfl : j = pn := by omega
          obtain ⟨aS, capS, hvS, hE⟩ := own_form hown (by omega) (mixL_wf ws qs k j)
          subst hvS
          clear hown
          go_wp2
          go_ret2
          exact ⟨⟨_, _, rfl, hE⟩, hbel⟩

/-- none, whichever way the rows don't fit -/
theorem ref_mix_no (wa a : Option Addr) (n m wcap cap : Nat) (qs : List Rw) (w : World) (h : Rws .i8 w a m qs) (hn : n ≤ 9223372036854775807) (hne : n ≠ m ∨ sameW qs = false) :
    Calls Tryd.prog 19 #[.slice wa n wcap, .slice a m cap] w fun e w' => e = .returned (.tuple #[.slice none 0 0, .bool false]) ∧ Below w.heap.size w w' := by
  by_cases hc : n = m
  · subst hc
    exact ref_mix_wide wa a n wcap cap qs w h (by rcases hne with h1 | h1; exact absurd rfl h1; exact h1)
  · exact ref_mix_len wa a n m wcap cap w hn h.2.1 hc
theorem rws_none {k : IntKind} {w : World} {a : Option Addr} {qs : List Rw} (h : Rws k w a 0 qs) : qs = [] := List.length_eq_zero_iff.1 h.1
/-- a row, of no rows too -/
theorem mix_yes (wa a : Option Addr) (n wcap cap m : Nat) (ws : List Int) (qs : List Rw) (w : World) (hw : Elems .i32 w wa n ws) (h : Rws .i8 w a n qs) (hn : n ≤ 200) (hs : sameW qs = true) (hm : (qs.getD 0 default).n = m) (hm2 : m ≤ 1000) :
    Calls Tryd.prog 18 #[.slice wa n wcap, .slice a n cap] w fun e w' => (∃ b c, e = .returned (.tuple #[.slice b m c, .int .i64 0]) ∧ Elems .i8 w' b m (mixL ws qs n m)) ∧ Below w.heap.size w w' := by
  by_cases h0 : n = 0
  · subst h0
    obtain rfl := rws_none h
    obtain rfl : m = 0 := hm.symm
    exact (mix_none wa a wcap cap w).mono (by rintro e w' ⟨rfl, rfl⟩; exact ⟨⟨none, 0, rfl, Elems.nil_ _ _ _⟩, Below.refl _ _⟩)
  · exact (mix_some wa a n wcap cap m ws qs w hw h (by omega) hn hs hm hm2).mono (by rintro e w' ⟨⟨g, rfl, hE⟩, hb⟩; exact ⟨⟨_, _, rfl, hE⟩, hb⟩)
theorem ref_mix_yes (wa a : Option Addr) (n wcap cap m : Nat) (ws : List Int) (qs : List Rw) (w : World) (hw : Elems .i32 w wa n ws) (h : Rws .i8 w a n qs) (hn : n ≤ 200) (hs : sameW qs = true) (hm : (qs.getD 0 default).n = m) (hm2 : m ≤ 1000) :
    Calls Tryd.prog 19 #[.slice wa n wcap, .slice a n cap] w fun e w' => (∃ b c, e = .returned (.tuple #[.slice b m c, .bool true]) ∧ Elems .i8 w' b m (mixL ws qs n m)) ∧ Below w.heap.size w w' := by
  by_cases h0 : n = 0
  · subst h0
    obtain rfl := rws_none h
    obtain rfl : m = 0 := hm.symm
    exact (ref_mix_none wa a wcap cap w).mono (by rintro e w' ⟨rfl, hb⟩; exact ⟨⟨none, 0, rfl, Elems.nil_ _ _ _⟩, hb⟩)
  · exact (ref_mix_some wa a n wcap cap m ws qs w hw h (by omega) hn hs hm hm2)

/-- four cells of a block -/
theorem four_cells {w wb : World} {p q r s : Value} {T : TypeId} {b : Nat} (hb : b = w.heap.size) (h : Below (w.alloc (.cells #[p, q, r, s] T)).heap.size (w.alloc (.cells #[p, q, r, s] T)) wb) :
    wb.cell? ⟨b, 0, none⟩ = some p ∧ wb.cell? ⟨b, 1, none⟩ = some q ∧ wb.cell? ⟨b, 2, none⟩ = some r ∧ wb.cell? ⟨b, 3, none⟩ = some s := by
  subst hb
  exact ⟨cell_keep (by simp) h, cell_keep (by simp) h, cell_keep (by simp) h, cell_keep (by simp) h⟩

end Go.Proofs.YthblniakghfchaaDoor
