import Derived.Test.YtoeihigdndkjeaaGreatDoorJ17
import Derived.BigQuiet
/-
  May so much be generated: the code's answer and the document's.
-/
namespace Go.Proofs.YtoeihigdndkjeaaGreatDoor
open Go.RowKit Go.Shelf
set_option linter.unusedVariables false

/-- is a token odd; what may be generated -/
def odd9 (v t : Int) : Bool := decide (t < 0) || decide (v ≤ t)
def check9 (v p : Int) (ts : List Int) (most : Int) : Int := if ts.length = 0 then 90 else if ts.any (odd9 v) then 2 else if most < 1 then 2 else if p < ts.length then 80 else if p - ts.length + 1 < most then 80 else 0
/-- a shape of whatever numbers, in a block -/
abbrev sh9 (l w h i v p : Int) : Array Value := #[.int .i64 l, .int .i64 w, .int .i64 h, .int .i64 i, .int .i64 v, .int .i64 p]

theorem odd9_any (b : Nat) (l w h i v p t : Int) (W : World) (hb : Box W b 45 (sh9 l w h i v p)) (ht : -9223372036854775808 ≤ t ∧ t ≤ 9223372036854775807) (hv : -9223372036854775808 ≤ v ∧ v ≤ 9223372036854775807) :
    Calls Tryz.prog 80 #[.int .i64 t, .pointer (some ⟨b, 0, none⟩)] W fun e w' => e = .returned (.bool (odd9 v t)) ∧ W = w' := by
  have z4 : W.cell? ⟨b, 4, none⟩ = some (.int .i64 v) := hb.cell 4
  have HO : Hid (odd9 v t = (decide (t < 0) || decide (v ≤ t))) := Lib.hid rfl
  clear hb
  by_cases h0 : t < 0
  · have H0 : Hid (odd9 v t = true) := Lib.hid (by rw [HO.out]; simp [h0])
    go_enter Tryz.func80, Tryz.ntmps80
    go_wp2
    go_ret
    exact ⟨ret_bool H0.out.symm, rfl⟩
  · by_cases h1 : v ≤ t
    · have H0 : Hid (odd9 v t = true) := Lib.hid (by rw [HO.out]; simp [h1])
      go_enter Tryz.func80, Tryz.ntmps80
      go_wp2
      go_ret
      exact ⟨ret_bool H0.out.symm, rfl⟩
    · have H0 : Hid (odd9 v t = false) := Lib.hid (by rw [HO.out]; simp [h0, h1])
      go_enter Tryz.func80, Tryz.ntmps80
      go_wp2
      go_ret
      exact ⟨ret_bool H0.out.symm, rfl⟩

theorem any_step {v : Int} {ts : List Int} {k : Nat} (hk : k < ts.length) (h : (ts.take k).any (odd9 v) = false) (h2 : odd9 v (ts.getD k 0) = false) : (ts.take (k + 1)).any (odd9 v) = false := by
  rw [List.take_add_one, List.any_append, h, List.getElem?_eq_getElem hk]
  rw [List.getD_eq_getElem?_getD, List.getElem?_eq_getElem hk] at h2
  simpa using h2
theorem any_hit {v : Int} {ts : List Int} {k : Nat} (hk : k < ts.length) (h : odd9 v (ts.getD k 0) = true) : ts.any (odd9 v) = true := List.any_eq_true.2 ⟨_, getD_mem hk, h⟩

set_option maxHeartbeats 800000 in
set_option maxRecDepth 100000 in
theorem index9 (b : Nat) (l w h i v p : Int) (a : Option Addr) (n cap : Nat) (ts : List Int) (W : World) (hb : Box W b 45 (sh9 l w h i v p)) (hv : -9223372036854775808 ≤ v ∧ v ≤ 9223372036854775807) (hE : Elems .i64 W a n ts) :
    Calls Tryz.prog 106 #[.slice a n cap, .func (.func 80) #[] #[.pointer (some ⟨b, 0, none⟩)]] W fun e w' => (∃ z : Int, -1 ≤ z ∧ z ≤ n ∧ e = .returned (.int .i64 z) ∧ (decide (0 ≤ z) = ts.any (odd9 v))) ∧ W = w' := by
  have hn := hE.2.1
  have HH := Lib.hid hE
  have cO := Lib.hid (fun t ht => odd9_any b l w h i v p t W hb ht hv)
  clear hE hb
  go_enter Tryz.func106, Tryz.ntmps106
  go_wp2_with fail
  go_loopw [8] (fun i wr => ∃ k : Nat, k ≤ n ∧ i = .int .i64 k ∧ Hid ((ts.take k).any (odd9 v) = false) ∧ wr = W) (fun i _ => n - (intOf i).toNat)
  case atStart => exact ⟨0, by omega, rfl, Lib.hid rfl, rfl⟩
  case round =>
    obtain ⟨k, hk, rfl, ht, rfl⟩ := hrel
    by_cases hlt : k < n
    · obtain ⟨bb, off, t, rfl, hc, HT, hw⟩ := HH.out.at_ hlt
      have hl : k < ts.length := by rw [HH.out.1]; exact hlt
      have hq := cO.out t (wf64 hw)
      have i1 : (k : Int) < (n : Int) := by omega
      clear hw
      cases hod : odd9 v t with
      | true =>
        rw [hod] at hq
        have HD := Lib.hid hod
        clear hod
        go_wp2_with fail
        refine hq.mono ?_
        rintro e wc ⟨rfl, rfl⟩
        clear hq
        go_wp2
        go_ret
        exact ⟨⟨k, by omega, by omega, rfl, by rw [any_hit hl (by rw [HT.out]; exact HD.out)]; simp⟩, rfl⟩
      | false =>
        rw [hod] at hq
        have hst : Hid ((ts.take (k + 1)).any (odd9 v) = false) := Lib.hid (any_step hl ht.out (by rw [HT.out]; exact hod))
        clear hod
        go_wp2_with fail
        refine hq.mono ?_
        rintro e wc ⟨rfl, rfl⟩
        clear hq
        go_wp2
        go_roundw
        case rel => exact ⟨k + 1, by omega, by go_num, hst, trivial⟩
        case measure => simp [intOf]; omega
    · obtain rfl : k = n := by omega
      have hall : Hid (ts.any (odd9 v) = false) := Lib.hid (by rw [← ht.out, List.take_of_length_le (by rw [HH.out.1]; exact Nat.le_refl _)])
      go_wp2
      go_ret
      exact ⟨⟨-1, by omega, by omega, rfl, by rw [hall.out]; rfl⟩, rfl⟩

theorem contains9 (b : Nat) (l w h i v p : Int) (a : Option Addr) (n cap : Nat) (ts : List Int) (W : World) (hb : Box W b 45 (sh9 l w h i v p)) (hv : -9223372036854775808 ≤ v ∧ v ≤ 9223372036854775807) (hE : Elems .i64 W a n ts) (hn : n ≤ 1000) :
    Calls Tryz.prog 81 #[.slice a n cap, .func (.func 80) #[] #[.pointer (some ⟨b, 0, none⟩)]] W fun e w' => e = .returned (.bool (ts.any (odd9 v))) ∧ W = w' := by
  have cI := index9 b l w h i v p a n cap ts W hb hv hE
  clear hE hb
  go_enter Tryz.func81, Tryz.ntmps81
  go_wp2_with fail
  refine cI.mono ?_
  rintro e wc ⟨⟨z, z1, z2, rfl, hz⟩, rfl⟩
  have HZ := Lib.hid hz
  clear hz cI
  go_wp2
  go_ret
  exact ⟨ret_bool HZ.out, rfl⟩

theorem check9_0 {v p most : Int} {ts : List Int} (h : ts.length = 0) : check9 v p ts most = 90 := by unfold check9; rw [if_pos h]
theorem check9_2 {v p most : Int} {ts : List Int} (h : ts.length ≠ 0) (h2 : ts.any (odd9 v) = true) : check9 v p ts most = 2 := by unfold check9; rw [if_neg h, if_pos h2]
theorem check9_3 {v p most : Int} {ts : List Int} (h : ts.length ≠ 0) (h2 : ts.any (odd9 v) = false) (h3 : most < 1) : check9 v p ts most = 2 := by unfold check9; rw [if_neg h, if_neg (by simp [h2]), if_pos h3]
theorem check9_4 {v p most : Int} {ts : List Int} (h : ts.length ≠ 0) (h2 : ts.any (odd9 v) = false) (h3 : ¬ most < 1) : check9 v p ts most = if p < ts.length then 80 else if p - ts.length + 1 < most then 80 else 0 := by unfold check9; rw [if_neg h, if_neg (by simp [h2]), if_neg h3]

set_option maxHeartbeats 2000000 in
set_option maxRecDepth 100000 in
theorem check_code (l w h i v p most : Int) (a : Option Addr) (n cap : Nat) (ts : List Int) (W : World) (hv : -9223372036854775808 ≤ v ∧ v ≤ 9223372036854775807) (hp : -9223372036854775808 ≤ p ∧ p ≤ 9223372036854775807) (hm : -9223372036854775808 ≤ most ∧ most ≤ 9223372036854775807) (hE : Elems .i64 W a n ts) (hn : n ≤ 1000) :
    Calls Tryz.prog 53 #[.agg (sh9 l w h i v p), .slice a n cap, .int .i64 most] W fun e w' => e = .returned (.int .i64 (check9 v p ts most)) ∧ Below W.heap.size W w' := by
  have HL := Lib.hid hE.1
  have hB := fun o => (Below.refl W.heap.size W).alloc (Nat.le_refl _) o
  have cC := contains9 W.heap.size l w h i v p a n cap ts (W.alloc (.cells (sh9 l w h i v p) 45)) (box_new _ _ _) hv (hE.below (hB _)) hn
  have z5 : (W.alloc (.cells (sh9 l w h i v p) 45)).cell? ⟨W.heap.size, 5, none⟩ = some (.int .i64 p) := (box_new W 45 (sh9 l w h i v p)).cell 5
  have HB := Lib.hid (hB (.cells (sh9 l w h i v p) 45))
  clear hE hB
  unfold sh9 at cC z5 ⊢
  by_cases h0 : n = 0
  · have HR : Hid (check9 v p ts most = 90) := Lib.hid (check9_0 (by rw [HL.out]; exact h0))
    subst h0
    go_enter Tryz.func53, Tryz.ntmps53
    go_wp2
    go_ret
    exact ⟨ret_int HR.out.symm, HB.out⟩
  · have hl0 : Hid (ts.length ≠ 0) := Lib.hid (by rw [HL.out]; exact h0)
    have hnb : ((n : Int) == 0) = false := by simp; omega
    cases hany : ts.any (odd9 v) with
    | true =>
      have HR : Hid (check9 v p ts most = 2) := Lib.hid (check9_2 hl0.out hany)
      rw [hany] at cC
      clear hany
      go_enter Tryz.func53, Tryz.ntmps53
      go_wp2_with fail
      refine cC.mono ?_
      rintro e wc ⟨rfl, rfl⟩
      go_wp2
      go_ret
      exact ⟨ret_int HR.out.symm, HB.out⟩
    | false =>
      rw [hany] at cC
      by_cases hm1 : most < 1
      · have HR : Hid (check9 v p ts most = 2) := Lib.hid (check9_3 hl0.out hany hm1)
        clear hany
        go_enter Tryz.func53, Tryz.ntmps53
        go_wp2_with fail
        refine cC.mono ?_
        rintro e wc ⟨rfl, rfl⟩
        go_wp2
        go_ret
        exact ⟨ret_int HR.out.symm, HB.out⟩
      · have H4 : Hid (check9 v p ts most = if p < n then 80 else if p - n + 1 < most then 80 else 0) := Lib.hid (by rw [check9_4 hl0.out hany hm1, HL.out])
        clear hany
        by_cases h5 : p < n
        · have HR : Hid (check9 v p ts most = 80) := Lib.hid (by rw [H4.out, if_pos h5])
          go_enter Tryz.func53, Tryz.ntmps53
          go_wp2_with fail
          refine cC.mono ?_
          rintro e wc ⟨rfl, rfl⟩
          go_wp2
          go_ret
          exact ⟨ret_int HR.out.symm, HB.out⟩
        · by_cases h6 : p - n < most - 1
          · have HR : Hid (check9 v p ts most = 80) := Lib.hid (by rw [H4.out, if_neg h5, if_pos (by omega)])
            go_enter Tryz.func53, Tryz.ntmps53
            go_wp2_with fail
            refine cC.mono ?_
            rintro e wc ⟨rfl, rfl⟩
            go_wp2
            go_ret
            exact ⟨ret_int HR.out.symm, HB.out⟩
          · have HR : Hid (check9 v p ts most = 0) := Lib.hid (by rw [H4.out, if_neg h5, if_neg (by omega)])
            go_enter Tryz.func53, Tryz.ntmps53
            go_wp2_with fail
            refine cC.mono ?_
            rintro e wc ⟨rfl, rfl⟩
            go_wp2
            go_ret
            exact ⟨ret_int HR.out.symm, HB.out⟩

set_option maxHeartbeats 4000000 in
set_option maxRecDepth 100000 in
theorem check_doc (l w h i v p most : Int) (a : Option Addr) (n cap : Nat) (ts : List Int) (W : World) (hv : -9223372036854775808 ≤ v ∧ v ≤ 9223372036854775807) (hp : -9223372036854775808 ≤ p ∧ p ≤ 9223372036854775807) (hm : -9223372036854775808 ≤ most ∧ most ≤ 9223372036854775807) (hE : Elems .i64 W a n ts) (hn : n ≤ 1000) :
    Calls Tryz.prog 27 #[.agg (sh9 l w h i v p), .slice a n cap, .int .i64 most] W fun e w' => e = .returned (.int .i64 (check9 v p ts most)) ∧ Below W.heap.size W w' := by
  have HL := Lib.hid hE.1
  have hB := fun o => (Below.refl W.heap.size W).alloc (Nat.le_refl _) o
  obtain ⟨wa, hwa⟩ : ∃ wa, W.alloc (.cells (sh9 l w h i v p) 45) = wa := ⟨_, rfl⟩
  have X : Box wa W.heap.size 45 (sh9 l w h i v p) := by rw [← hwa]; exact box_new _ _ _
  have HX := Lib.hid X
  have HB : Hid (Below W.heap.size W wa) := Lib.hid (by rw [← hwa]; exact hB _)
  have HE : Hid (Elems .i64 wa a n ts) := Lib.hid (hE.below HB.out)
  clear hE hB X
  go_enter Tryz.func27, Tryz.ntmps27
  unfold sh9 at hwa
  by_cases h0 : n = 0
  · have HR : Hid (check9 v p ts most = 90) := Lib.hid (check9_0 (by rw [HL.out]; exact h0))
    subst h0
    go_wp2
    go_ret
    exact ⟨ret_int HR.out.symm, HB.out⟩
  · have hl0 : Hid (ts.length ≠ 0) := Lib.hid (by rw [HL.out]; exact h0)
    have hnb : ((n : Int) == 0) = false := by simp; omega
    go_wp2_with fail
    clear hwa
    go_loopw [7] (fun x wr => ∃ k : Nat, k ≤ n ∧ x = .int .i64 k ∧ Hid ((ts.take k).any (odd9 v) = false) ∧ Hid (Box wr W.heap.size 45 (sh9 l w h i v p)) ∧ Hid (Elems .i64 wr a n ts) ∧ Hid (Below W.heap.size W wr)) (fun x _ => n - (intOf x).toNat)
    case atStart => exact ⟨0, by omega, rfl, Lib.hid rfl, HX, HE, HB⟩
    case round =>
      clear HX HE HB
      obtain ⟨k, hk, rfl, ht, HX, HE, HB⟩ := hrel
      have z4 : wr.cell? ⟨W.heap.size, 4, none⟩ = some (.int .i64 v) := HX.out.cell 4
      have z5 : wr.cell? ⟨W.heap.size, 5, none⟩ = some (.int .i64 p) := HX.out.cell 5
      by_cases hlt : k < n
      · obtain ⟨bb, off, t, rfl, hc, HT, hw⟩ := HE.out.at_ hlt
        have hl : k < ts.length := by rw [HE.out.1]; exact hlt
        have HO : Hid (odd9 v t = (decide (t < 0) || decide (v ≤ t))) := Lib.hid rfl
        have hw2 := wf64 hw
        clear hw
        by_cases t0 : t < 0
        · have HR : Hid (check9 v p ts most = 2) := Lib.hid (check9_2 hl0.out (any_hit hl (by rw [HT.out, HO.out]; simp [t0])))
          go_upto_region 6 with (fail)
          go_quiet (fail)
          go_wp2
          go_ret
          exact ⟨ret_int HR.out.symm, HB.out.trans (below_drewN (Below.refl _ _) _)⟩
        · by_cases t1 : v ≤ t
          · have HR : Hid (check9 v p ts most = 2) := Lib.hid (check9_2 hl0.out (any_hit hl (by rw [HT.out, HO.out]; simp [t1])))
            go_upto_region 6 with (fail)
            go_quiet (fail)
            go_wp2
            go_ret
            exact ⟨ret_int HR.out.symm, HB.out.trans (below_drewN (Below.refl _ _) _)⟩
          · have hst : Hid ((ts.take (k + 1)).any (odd9 v) = false) := Lib.hid (any_step hl ht.out (by rw [HT.out, HO.out]; simp [t0, t1]))
            go_upto_region 6 with (fail)
            go_quiet (fail)
            go_wp2
            go_roundw
            case rel => exact ⟨k + 1, by omega, by go_num, hst, HX, HE, Lib.hid (HB.out.trans (below_drewN (Below.refl _ _) _))⟩
            case measure => simp [intOf]; omega
      · obtain rfl : k = n := by omega
        have hany : ts.any (odd9 v) = false := by rw [← ht.out, List.take_of_length_le (by rw [HE.out.1]; exact Nat.le_refl _)]
        have HANY := Lib.hid hany
        clear hany
        by_cases hm1 : most < 1
        · have HR : Hid (check9 v p ts most = 2) := Lib.hid (check9_3 hl0.out HANY.out hm1)
          go_wp2
          go_ret
          exact ⟨ret_int HR.out.symm, HB.out⟩
        · have H4 : Hid (check9 v p ts most = if p < k then 80 else if p - k + 1 < most then 80 else 0) := Lib.hid (by rw [check9_4 hl0.out HANY.out hm1, HL.out])
          by_cases h5 : p < k
          · have HR : Hid (check9 v p ts most = 80) := Lib.hid (by rw [H4.out, if_pos h5])
            go_wp2
            go_ret
            exact ⟨ret_int HR.out.symm, HB.out⟩
          · by_cases h6 : p - k + 1 < most
            · have HR : Hid (check9 v p ts most = 80) := Lib.hid (by rw [H4.out, if_neg h5, if_pos h6])
              go_wp2
              go_ret
              exact ⟨ret_int HR.out.symm, HB.out⟩
            · have HR : Hid (check9 v p ts most = 0) := Lib.hid (by rw [H4.out, if_neg h5, if_neg h6])
              go_wp2
              go_ret
              exact ⟨ret_int HR.out.symm, HB.out⟩

end Go.Proofs.YtoeihigdndkjeaaGreatDoor
