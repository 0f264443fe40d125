/-
  Contract of package msg's right: is a message right.
-/
import Derived.Test.YtobogkilkmnpmaaForm15
import Derived.BigQuiet
import Derived.Test.YtobogkilkmnpmaaLoadPart
namespace Go.Proofs.Ytobogkilkmnpmaa
open Go.RowKit Go.Maps
set_option linter.unusedVariables false

/-- a message in a block of its own, as a parameter that is boxed -/
theorem ms_box (x : Ms15) (w : World) : Box (w.alloc (.cells #[.int .i64 x.kind, .int .i64 x.n0, .int .i64 x.n1, .int .i64 x.n2, .int .i64 x.n3, .int .i64 x.n4, .int .i64 x.n5, .int .i64 x.n6, .slice x.li.a x.li.n x.li.cap] 24)) w.heap.size 24 x.cells.toArray := box_new w _ _
theorem ms_num {w : World} {b : Nat} {T : TypeId} {x : Ms15} (h : Box w b T x.cells.toArray) {i : Nat} (hi : i < 7) : w.cell? ⟨b, 1 + i, none⟩ = some (.int .i64 (x.num i)) := by
  rw [h.cell (1 + i)]
  have := x.num_cell i hi
  simpa using this
theorem okn_bad {F : Nat} {x : Ms15} {k : Nat} (hk : k < 7) (h : okn F (x.num k) k = false) (hF : F = fm x.kind) : rightM x = false := by
  unfold rightM
  have : decide (okTo (fm x.kind) x 7) = false := decide_eq_false fun h2 => by
    rw [← hF] at h2
    rw [h2 k hk] at h
    cases h
  rw [this]; simp

set_option maxHeartbeats 3200000 in
set_option maxRecDepth 100000 in
theorem right15 (x : Ms15) (w : World) (h : x.In w) :
    Calls Try.prog 20 #[.agg #[.int .i64 x.kind, .int .i64 x.n0, .int .i64 x.n1, .int .i64 x.n2, .int .i64 x.n3, .int .i64 x.n4, .int .i64 x.n5, .int .i64 x.n6, .slice x.li.a x.li.n x.li.cap]] w fun e w' => e = .returned (.bool (rightM x)) ∧ Below w.heap.size w w' := by
  have X := ms_box x w
  have HB1 := Lib.hid ((Below.refl w.heap.size w).alloc (Nat.le_refl _) (.cells #[.int .i64 x.kind, .int .i64 x.n0, .int .i64 x.n1, .int .i64 x.n2, .int .i64 x.n3, .int .i64 x.n4, .int .i64 x.n5, .int .i64 x.n6, .slice x.li.a x.li.n x.li.cap] 24))
  have hll := h.li.1.2.1
  have F1 := formOf15 x.kind h.1
  have HN := Lib.hid (fun (i : Nat) (hi : i < 7) => wf64 (h.num i hi))
  have HF := Lib.hid (fm_lt x.kind)
  have HFE : Hid (∃ f, f = fm x.kind ∧ f < 256) := Lib.hid ⟨_, rfl, fm_lt _⟩
  by_cases h0 : fm x.kind = 0
  · have hR : Hid (rightM x = false) := Lib.hid (by unfold rightM; rw [h0]; rfl)
    rw [h0] at F1
    have d0 : decide ((0 : Nat) ≠ 0) = false := by decide
    rw [d0] at F1
    go_enter Try.func20, Try.ntmps20
    go_upto_region 1 with fail
    generalize (w.alloc (.cells #[.int .i64 x.kind, .int .i64 x.n0, .int .i64 x.n1, .int .i64 x.n2, .int .i64 x.n3, .int .i64 x.n4, .int .i64 x.n5, .int .i64 x.n6, .slice x.li.a x.li.n x.li.cap] 24)) = w1 at X HB1 ⊢
    have c0 : w1.cell? ⟨w.heap.size, 0, none⟩ = some (.int .i64 x.kind) := X.cell 0
    go_wp2_with fail
    refine (F1 _).mono ?_
    rintro e w2 ⟨rfl, hb2⟩
    clear F1
    have HB2 := Lib.hid (below_two HB1.out hb2)
    go_wp2_with fail
    go_ret
    exact ⟨ret_bool hR.out.symm, HB2.out⟩
  · have d0 : decide (fm x.kind ≠ 0) = true := decide_eq_true h0
    have HR : Hid (okTo (fm x.kind) x 7 → rightM x = decide (x.li.n ≤ most15 (fm x.kind))) := Lib.hid (fun ha => by unfold rightM; rw [d0, decide_eq_true ha]; simp)
    have HB0 : Hid (∀ k, k < 7 → okn (fm x.kind) (x.num k) k = false → rightM x = false) := Lib.hid (fun k hk hb => okn_bad hk hb rfl)
    rw [d0] at F1
    have hfl := fm_lt x.kind
    have HOK : Hid (okTo (fm x.kind) x 0) := Lib.hid (fun i hi => by omega)
    generalize fm x.kind = f at *
    have TL : ∀ (k : Nat) (hk : k < 7) (W : World), Calls Try.prog 35 #[.int .u8 (f : Int), .int .i64 (k : Int)] W fun e w' => e = .returned (.bool (f.testBit k)) ∧ w' = W := fun k hk W => tells15 f k hfl hk W
    have ML := most15_c f hfl
    generalize most15 f = mo at ML HR
    go_enter Try.func20, Try.ntmps20
    go_upto_region 1 with fail
    generalize (w.alloc (.cells #[.int .i64 x.kind, .int .i64 x.n0, .int .i64 x.n1, .int .i64 x.n2, .int .i64 x.n3, .int .i64 x.n4, .int .i64 x.n5, .int .i64 x.n6, .slice x.li.a x.li.n x.li.cap] 24)) = w1 at X HB1 ⊢
    have c0 : w1.cell? ⟨w.heap.size, 0, none⟩ = some (.int .i64 x.kind) := X.cell 0
    go_wp2_with fail
    refine (F1 _).mono ?_
    rintro e w2 ⟨rfl, hb2⟩
    clear F1 c0
    have HB2 := Lib.hid (below_two HB1.out hb2)
    have X2 := X.bel hb2
    clear X hb2
    have NB := numbers15 w.heap.size w2
    go_wp2_with fail
    refine NB.mono ?_
    rintro e w3 ⟨rfl, hb3⟩
    clear NB
    have HB3 := Lib.hid (below_two HB2.out hb3)
    have HX3 := Lib.hid (X2.bel hb3)
    clear X2 hb3 HB1 HB2
    have IX := Lib.hid (run_index7 w.heap.size)
    go_wp2_with fail
    go_loopw [16] (fun i' wr => ∃ k : Nat, k ≤ 7 ∧ i' = .int .i64 k ∧ Hid (okTo f x k) ∧ wr = w3) (fun i' _ => 7 - (intOf i').toNat)
    case atStart => exact ⟨0, by omega, rfl, HOK, rfl⟩
    case round =>
      obtain ⟨k, hk, rfl, hOK, rfl⟩ := hrel
      by_cases hlt : k < 7
      · have ix := IX.out k hlt wr
        have cN := ms_num HX3.out hlt
        have wN := HN.out k hlt
        have tl := TL k hlt
        have hlt2 : (k : Int) < 7 := by omega
        have HBk := Lib.hid (HB0.out k hlt)
        have HNx : Hid (okn f (x.num k) k = true → okTo f x (k + 1)) := Lib.hid (fun h2 => okTo_next hOK.out h2)
        generalize x.num k = n at *
        by_cases c1 : n < 0
        · have hz : Hid (rightM x = false) := Lib.hid (HBk.out (by unfold okn; exact decide_eq_false (by omega)))
          go_wp2_with fail
          go_ret
          exact ⟨ret_bool hz.out.symm, HB3.out⟩
        · by_cases c2 : n ≥ 1099511627776
          · have hz : Hid (rightM x = false) := Lib.hid (HBk.out (by unfold okn; exact decide_eq_false (by omega)))
            have c2' : ¬ n < 1099511627776 := by omega
            go_wp2_with fail
            go_ret
            exact ⟨ret_bool hz.out.symm, HB3.out⟩
          · have c2' : n < 1099511627776 := by omega
            by_cases c3 : n = 0
            · have hz : Hid (okTo f x (k + 1)) := Lib.hid (HNx.out (by unfold okn; exact decide_eq_true (by omega)))
              subst c3
              go_wp2_with fail
              go_roundw
              case rel => exact ⟨k + 1, by omega, by go_num, hz, trivial⟩
              case measure => simp [intOf]; omega
            · have c3' : (n != 0) = true := by simpa using c3
              cases ht : f.testBit k with
              | true =>
                have hz : Hid (okTo f x (k + 1)) := Lib.hid (HNx.out (by unfold okn; rw [ht]; exact decide_eq_true (by simp; omega)))
                rw [ht] at tl
                go_wp2_with (go_at_call 35; refine (tl _).mono ?_; rintro e w' ⟨rfl, rfl⟩)
                go_roundw
                case rel => exact ⟨k + 1, by omega, by go_num, hz, trivial⟩
                case measure => simp [intOf]; omega
              | false =>
                have hz : Hid (rightM x = false) := Lib.hid (HBk.out (by unfold okn; rw [ht]; exact decide_eq_false (by simp; omega)))
                rw [ht] at tl
                go_wp2_with (go_at_call 35; refine (tl _).mono ?_; rintro e w' ⟨rfl, rfl⟩)
                go_ret
                exact ⟨ret_bool hz.out.symm, HB3.out⟩
      · obtain rfl : k = 7 := by omega
        have c8 : wr.cell? ⟨w.heap.size, 8, none⟩ = some (.slice x.li.a x.li.n x.li.cap) := HX3.out.cell 8
        have hR := Lib.hid (HR.out hOK.out)
        have hle : ((x.li.n : Int) ≤ (mo : Int)) = (x.li.n ≤ mo) := by simp
        go_wp2_with fail
        go_quiet (first | (go_at_call 36; refine Calls.quiet_of_same (ML _)))
        go_wp2_with fail
        go_ret
        exact ⟨ret_bool (by rw [hR.out]), below_drewN HB3.out _⟩

set_option maxHeartbeats 1600000 in
set_option maxRecDepth 100000 in
/-- the closure that Right hands on -/
theorem wrong15 (x : Ms15) (w : World) (h : x.In w) :
    Calls Try.prog 26 #[.agg #[.int .i64 x.kind, .int .i64 x.n0, .int .i64 x.n1, .int .i64 x.n2, .int .i64 x.n3, .int .i64 x.n4, .int .i64 x.n5, .int .i64 x.n6, .slice x.li.a x.li.n x.li.cap]] w fun e w' => e = .returned (.bool (!rightM x)) ∧ Below w.heap.size w w' := by
  have X := ms_box x w
  have hB1 := (Below.refl w.heap.size w).alloc (Nat.le_refl _) (.cells #[.int .i64 x.kind, .int .i64 x.n0, .int .i64 x.n1, .int .i64 x.n2, .int .i64 x.n3, .int .i64 x.n4, .int .i64 x.n5, .int .i64 x.n6, .slice x.li.a x.li.n x.li.cap] 24)
  go_enter Try.func26, Try.ntmps26
  go_upto_region 1 with fail
  generalize (w.alloc (.cells #[.int .i64 x.kind, .int .i64 x.n0, .int .i64 x.n1, .int .i64 x.n2, .int .i64 x.n3, .int .i64 x.n4, .int .i64 x.n5, .int .i64 x.n6, .slice x.li.a x.li.n x.li.cap] 24)) = w1 at X hB1 ⊢
  have R1 := right15 x w1 (h.below hB1)
  have HB1 := Lib.hid hB1
  have HX := Lib.hid (show Box w1 w.heap.size 24 #[.int .i64 x.kind, .int .i64 x.n0, .int .i64 x.n1, .int .i64 x.n2, .int .i64 x.n3, .int .i64 x.n4, .int .i64 x.n5, .int .i64 x.n6, .slice x.li.a x.li.n x.li.cap] from X)
  clear hB1 X h
  go_wp2_with (refine wpList_load_row rfl 24 _ rfl w.heap.size rfl 24 _ (0, 0) _ HX.out Try.underlying24 rfl (by kernel_rfl) ?_)
  refine R1.mono ?_
  rintro e w2 ⟨rfl, hb2⟩
  have HB2 := Lib.hid (below_two HB1.out hb2)
  clear R1 hb2
  go_wp2_with fail
  go_ret
  exact ⟨ret_bool rfl, HB2.out⟩

theorem all_take {α : Type} (p : α → Bool) [Inhabited α] (xs : List α) (k : Nat) (hk : k < xs.length) (h : (xs.take k).all p = true) (h2 : p (xs.getD k default) = true) : (xs.take (k + 1)).all p = true := by
  rw [List.take_add_one, List.all_append, h]
  simpa [List.getD, List.getElem?_eq_getElem hk] using h2

set_option maxHeartbeats 3200000 in
set_option maxRecDepth 100000 in
theorem find15 (s : RowOf Ms15) (w : World) (h : s.In Ms15.cells (fun w x => Ms15.In w x) 9 w) :
    Calls Try.prog 41 #[.slice s.a s.n s.cap, .func (.func 26) #[] #[]] w fun e w' => (∃ z : Int, e = .returned (.int .i64 z) ∧ -1 ≤ z ∧ (z = -1 ↔ s.xs.all rightM = true) ∧ z ≤ 9223372036854775807) ∧ Below w.heap.size w w' := by
  obtain ⟨a, n, cap, xs⟩ := s
  have hlen : xs.length = n := h.1
  have hcap : n ≤ 9223372036854775807 := Nat.le_trans h.2.1 h.2.2.1
  have HI := Lib.hid h
  have HL := Lib.hid hlen
  clear hlen h
  simp only
  go_enter Try.func41, Try.ntmps41
  go_wp2_with fail
  go_loopw [8] (fun i' wr => ∃ k : Nat, k ≤ n ∧ i' = .int .i64 k ∧ Hid ((xs.take k).all rightM = true) ∧ Hid (Below w.heap.size w wr)) (fun i' _ => n - (intOf i').toNat)
  case atStart => exact ⟨0, by omega, rfl, Lib.hid rfl, Lib.hid (Below.refl _ _)⟩
  case round =>
    obtain ⟨k, hk, rfl, hA, hB⟩ := hrel
    by_cases hlt : k < n
    · have hI := HI.out.below Ms15.len hB.out (fun x hx => hx.below hB.out)
      obtain ⟨b, off, x, ha, hx, hm, hin, hc⟩ := hI.at_ hlt
      simp only at ha hx hm
      subst ha
      have hc' : ∀ j, j < 9 → wr.cell? ⟨b, off + k * 9 + j, none⟩ = (#[.int .i64 x.kind, .int .i64 x.n0, .int .i64 x.n1, .int .i64 x.n2, .int .i64 x.n3, .int .i64 x.n4, .int .i64 x.n5, .int .i64 x.n6, .slice x.li.a x.li.n x.li.cap] : Array Value)[j]? := fun j hj => by rw [hc j hj]; simp [Ms15.cells]
      have HC := Lib.hid hc'
      have R1 := wrong15 x wr hin
      have HNx : Hid (rightM x = true → (xs.take (k + 1)).all rightM = true) := Lib.hid (fun h2 => all_take rightM xs k (by rw [HL.out]; exact hlt) hA.out (by rw [hx]; exact h2))
      have HNo : Hid (rightM x = false → xs.all rightM = false) := Lib.hid (fun h2 => by
        apply Bool.eq_false_iff.mpr
        intro h3
        rw [List.all_eq_true.1 h3 x hm] at h2
        cases h2)
      clear hI hin hc hc' hx hm
      have hlt2 : (k : Int) < (n : Int) := by omega
      cases hr : rightM x with
      | true =>
        have hz := Lib.hid (HNx.out hr)
        rw [hr] at R1
        go_wp2_with (refine wpList_load_part rfl 24 _ rfl b (off + k * 9) rfl #[.int .i64 x.kind, .int .i64 x.n0, .int .i64 x.n1, .int .i64 x.n2, .int .i64 x.n3, .int .i64 x.n4, .int .i64 x.n5, .int .i64 x.n6, .slice x.li.a x.li.n x.li.cap] _ HC.out Try.underlying24 rfl (by kernel_rfl) ?_)
        refine R1.mono ?_
        rintro e w2 ⟨rfl, hb2⟩
        have HB2 := Lib.hid (below_two hB.out hb2)
        clear R1 hb2
        go_wp2_with fail
        go_roundw
        case rel => exact ⟨k + 1, by omega, by go_num, hz, HB2⟩
        case measure => simp [intOf]; omega
      | false =>
        have hz := Lib.hid (HNo.out hr)
        rw [hr] at R1
        go_wp2_with (refine wpList_load_part rfl 24 _ rfl b (off + k * 9) rfl #[.int .i64 x.kind, .int .i64 x.n0, .int .i64 x.n1, .int .i64 x.n2, .int .i64 x.n3, .int .i64 x.n4, .int .i64 x.n5, .int .i64 x.n6, .slice x.li.a x.li.n x.li.cap] _ HC.out Try.underlying24 rfl (by kernel_rfl) ?_)
        refine R1.mono ?_
        rintro e w2 ⟨rfl, hb2⟩
        have HB2 := Lib.hid (below_two hB.out hb2)
        clear R1 hb2
        go_wp2_with fail
        go_ret
        exact ⟨⟨k, rfl, by omega, ⟨fun h => by omega, fun h => by rw [hz.out] at h; cases h⟩, by omega⟩, HB2.out⟩
    · obtain rfl : k = n := by omega
      have hz : Hid (xs.all rightM = true) := Lib.hid (by
        have := hA.out
        rwa [List.take_of_length_le (by rw [HL.out]; exact Nat.le_refl _)] at this)
      go_wp2_with fail
      go_ret
      exact ⟨⟨-1, rfl, by omega, ⟨fun _ => hz.out, fun _ => rfl⟩, by omega⟩, hB.out⟩

set_option maxHeartbeats 1600000 in
set_option maxRecDepth 100000 in
theorem rights15 (s : RowOf Ms15) (w : World) (h : s.In Ms15.cells (fun w x => Ms15.In w x) 9 w) :
    Calls Try.prog 11 #[.slice s.a s.n s.cap] w fun e w' => e = .returned (.bool (s.xs.all rightM)) ∧ Below w.heap.size w w' := by
  have F1 := find15 s w h
  clear h
  have C1 : Calls Try.prog 25 #[.slice s.a s.n s.cap, .func (.func 26) #[] #[]] w fun e w' => e = .returned (.bool (!s.xs.all rightM)) ∧ Below w.heap.size w w' := by
    generalize s.xs.all rightM = r at F1 ⊢
    go_enter Try.func25, Try.ntmps25
    go_wp2_with fail
    refine F1.mono ?_
    rintro e w2 ⟨⟨z, rfl, hz1, hz2, hz3⟩, hb⟩
    have HB := Lib.hid hb
    clear F1 hb
    cases r with
    | true =>
      obtain rfl : z = -1 := hz2.2 rfl
      clear hz1 hz2 hz3
      go_wp2_with fail
      go_ret
      exact ⟨rfl, HB.out⟩
    | false =>
      have h0 : 0 ≤ z := by
        have : z ≠ -1 := fun e => by have := hz2.1 e; cases this
        omega
      clear hz1 hz2 hz3
      go_wp2_with fail
      go_ret
      exact ⟨rfl, HB.out⟩
  generalize s.xs.all rightM = r at C1 ⊢
  clear F1
  go_enter Try.func11, Try.ntmps11
  go_wp2_with fail
  refine C1.mono ?_
  rintro e w2 ⟨rfl, hb⟩
  have HB := Lib.hid hb
  clear C1 hb
  go_wp2_with fail
  go_ret
  exact ⟨ret_bool (by simp), HB.out⟩

end Go.Proofs.Ytobogkilkmnpmaa
