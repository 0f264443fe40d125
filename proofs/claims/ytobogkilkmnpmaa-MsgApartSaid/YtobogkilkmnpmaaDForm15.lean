/-
  Contracts of the document's Form, has, Num and Right of messages.
-/
import Derived.Test.YtobogkilkmnpmaaRight15
import Derived.Test.YtobogkilkmnpmaaBaList
import Derived.BigQuiet
import Derived.Deep.CutRange
namespace Go.Proofs.Ytobogkilkmnpmaa
open Go.RowKit Go.Maps
set_option linter.unusedVariables false
set_option linter.unusedSimpArgs false

/-- letters as a string -/
def strL (l : List Nat) : ByteArray := ⟨(l.map UInt8.ofNat).toArray⟩
/-- the letters of a kind -/
def fl (k : Int) : List Nat :=
  if k = 13 then [114, 112] else if k = 12 then [114, 112, 107] else if k = 11 then [114, 107] else if k = 10 then [114] else if k = 9 then [114, 107, 43] else if k = 8 then [101, 114, 116] else if k = 7 then [101, 115, 116] else if k = 6 then [101] else if k = 5 then [101, 115, 116] else if k = 4 then [101, 114, 112, 107] else if k = 3 then [101, 114, 112, 108, 115, 116, 43] else if k = 2 then [101, 114, 112, 108, 43] else if k = 1 then [101, 114, 112, 107] else []
theorem fl_none {k : Int} (h : k < 1 ∨ 13 < k) : fl k = [] := by
  unfold fl
  rw [if_neg (by omega), if_neg (by omega), if_neg (by omega), if_neg (by omega), if_neg (by omega), if_neg (by omega), if_neg (by omega), if_neg (by omega), if_neg (by omega), if_neg (by omega), if_neg (by omega), if_neg (by omega), if_neg (by omega)]
/-- the letter of number i -/
def lt15 (i : Nat) : Nat := ([101, 114, 112, 108, 115, 116, 107] : List Nat).getD i 0
theorem fl_has (k : Int) (i : Nat) (hi : i < 7) : (fl k).contains (lt15 i) = (fm k).testBit i := by
  have h7 : i = 0 ∨ i = 1 ∨ i = 2 ∨ i = 3 ∨ i = 4 ∨ i = 5 ∨ i = 6 := by omega
  rcases kind_cases k with rfl | rfl | rfl | rfl | rfl | rfl | rfl | rfl | rfl | rfl | rfl | rfl | rfl | h
  case inr.inr.inr.inr.inr.inr.inr.inr.inr.inr.inr.inr.inr => rw [fm_none h, fl_none h]; simp
  all_goals rcases h7 with rfl | rfl | rfl | rfl | rfl | rfl | rfl <;> decide
theorem fl_list (k : Int) : (fl k).contains 43 = (fm k).testBit 7 := by
  rcases kind_cases k with rfl | rfl | rfl | rfl | rfl | rfl | rfl | rfl | rfl | rfl | rfl | rfl | rfl | h
  case inr.inr.inr.inr.inr.inr.inr.inr.inr.inr.inr.inr.inr => rw [fm_none h, fl_none h]; simp
  all_goals decide
theorem fl_zero (k : Int) : fl k = [] ↔ fm k = 0 := by
  rcases kind_cases k with rfl | rfl | rfl | rfl | rfl | rfl | rfl | rfl | rfl | rfl | rfl | rfl | rfl | h
  case inr.inr.inr.inr.inr.inr.inr.inr.inr.inr.inr.inr.inr => rw [fm_none h, fl_none h]; simp
  all_goals decide
theorem fl_wf (k : Int) : (∀ c ∈ fl k, c < 256) ∧ (fl k).length ≤ 7 := by
  rcases kind_cases k with rfl | rfl | rfl | rfl | rfl | rfl | rfl | rfl | rfl | rfl | rfl | rfl | rfl | h
  case inr.inr.inr.inr.inr.inr.inr.inr.inr.inr.inr.inr.inr => rw [fl_none h]; simp
  all_goals decide
theorem strL_size (l : List Nat) : (strL l).size = l.length := by
  show (strL l).data.size = _
  simp [strL]
theorem strL_toList (l : List Nat) : (strL l).toList = l.map UInt8.ofNat := by
  rw [ba_toList]; simp [strL]
theorem run_lenL (l : List Nat) (ty : TypeId) (w : World) : Sem.run Try.prog (Builtin.len_ #[9] ty #[.string (strL l)]) w = .ok (.int .i64 (l.length : Int)) w := by
  rw [run_len_string w _ _ _ Try.underlying9, strL_size]; rfl
theorem run_indexL (l : List Nat) (hl : ∀ c ∈ l, c < 256) (i : Nat) (hi : i < l.length) (w : World) : Sem.run Try.prog (Instr.index 9 (.string (strL l)) (.int .i64 (i : Int))) w = .ok (.int .u8 ((l.getD i 0 : Nat) : Int)) w := by
  rw [run_index_string w _ _ _ _ Try.underlying9, dif_pos (by rw [strL_size]; omega)]
  have h1 : l.getD i 0 = l[i] := by simp [List.getD, hi]
  have h2 : l[i] < 256 := hl _ (List.getElem_mem hi)
  congr 2
  have e : ((strL l)[(i : Int).toNat]'(by rw [strL_size]; omega)) = UInt8.ofNat l[i] := by
    show (strL l).data[(i : Int).toNat]'_ = _
    simp [strL]
  rw [e, h1]
  have : (UInt8.ofNat l[i]).toNat = l[i] := by rw [UInt8.toNat_ofNat']; omega
  rw [this]

set_option maxHeartbeats 3200000 in
set_option maxRecDepth 100000 in
theorem form15 (k : Int) (w : World) :
    Calls Try.prog 17 #[.int .i64 k] w fun e w' => e = .returned (.string (strL (fl k))) ∧ w' = w := by
  rcases kind_cases k with rfl | rfl | rfl | rfl | rfl | rfl | rfl | rfl | rfl | rfl | rfl | rfl | rfl | h
  case inr.inr.inr.inr.inr.inr.inr.inr.inr.inr.inr.inr.inr =>
    have e1 : (k == 1) = false := by simp; omega
    have e2 : (k == 2) = false := by simp; omega
    have e3 : (k == 3) = false := by simp; omega
    have e4 : (k == 4) = false := by simp; omega
    have e5 : (k == 5) = false := by simp; omega
    have e6 : (k == 6) = false := by simp; omega
    have e7 : (k == 7) = false := by simp; omega
    have e8 : (k == 8) = false := by simp; omega
    have e9 : (k == 9) = false := by simp; omega
    have e10 : (k == 10) = false := by simp; omega
    have e11 : (k == 11) = false := by simp; omega
    have e12 : (k == 12) = false := by simp; omega
    have e13 : (k == 13) = false := by simp; omega
    have H := Lib.hid (fl_none h)
    clear h
    go_enter Try.func17, Try.ntmps17
    go_wp2
    go_ret
    exact ⟨by rw [H.out]; rfl, rfl⟩
  all_goals
    go_enter Try.func17, Try.ntmps17
    go_wp2
    go_ret
    exact ⟨rfl, rfl⟩

set_option maxHeartbeats 1600000 in
set_option maxRecDepth 100000 in
theorem has15 (l : List Nat) (hl : ∀ c ∈ l, c < 256) (hn : l.length ≤ 100) (c : Nat) (w : World) :
    Calls Try.prog 23 #[.string (strL l), .int .u8 (c : Int)] w fun e w' => e = .returned (.bool (l.contains c)) ∧ w' = w := by
  have LN := run_lenL l
  have IX := Lib.hid (run_indexL l hl)
  generalize strL l = S at LN IX ⊢
  obtain ⟨n, hln⟩ : ∃ n, l.length = n := ⟨_, rfl⟩
  rw [hln] at LN hn
  have HL := Lib.hid hln
  clear hl hln
  go_enter Try.func23, Try.ntmps23
  go_wp2_with fail
  go_loopw [5] (fun i' wr => ∃ k : Nat, k ≤ n ∧ i' = .int .i64 k ∧ Hid ((l.take k).contains c = false) ∧ wr = w) (fun i' _ => n - (intOf i').toNat)
  case atStart => exact ⟨0, by omega, rfl, Lib.hid (by simp), rfl⟩
  case round =>
    obtain ⟨k, hk, rfl, hT, rfl⟩ := hrel
    have ln := LN 3 wr
    by_cases hlt : k < n
    · have ix := IX.out k (by rw [HL.out]; exact hlt) wr
      have hlt2 : (k : Int) < (n : Int) := by omega
      have hst : (l.take (k + 1)).contains c = (l.getD k 0 == c) := by
        rw [List.take_add_one, List.getElem?_eq_getElem (by rw [HL.out]; exact hlt)]
        have h1 := hT.out
        have h2 : l.getD k 0 = l[k]'(by rw [HL.out]; exact hlt) := by simp [List.getD, List.getElem?_eq_getElem (show k < l.length by rw [HL.out]; exact hlt)]
        rw [h2]
        simp only [Option.toList_some, List.contains_eq_any_beq, List.any_append, List.any_cons, List.any_nil, Bool.or_false] at h1 ⊢
        rw [h1]
        simp [BEq.comm]
      have hin : l.getD k 0 = c → l.contains c = true := fun e => by
        have h2 : l.getD k 0 = l[k]'(by rw [HL.out]; exact hlt) := by simp [List.getD, List.getElem?_eq_getElem (show k < l.length by rw [HL.out]; exact hlt)]
        rw [List.contains_iff_mem, ← e, h2]
        exact List.getElem_mem _
      generalize l.getD k 0 = z at ix hst hin
      by_cases he : z = c
      · subst he
        have hz := Lib.hid (hin rfl)
        have hb : ((z : Int) == (z : Int)) = true := by simp
        clear hst hin
        go_wp2_with fail
        go_ret
        exact ⟨ret_bool hz.out.symm, rfl⟩
      · have hb : ((z : Int) == (c : Int)) = false := by simp; omega
        have hz : Hid ((l.take (k + 1)).contains c = false) := Lib.hid (by rw [hst]; simpa using he)
        clear hst hin
        go_wp2_with fail
        go_roundw
        case rel => exact ⟨k + 1, by omega, by go_num, hz, trivial⟩
        case measure => simp [intOf]; omega
    · obtain rfl : k = n := by omega
      have hz : Hid (l.contains c = false) := Lib.hid (by
        have := hT.out
        rwa [List.take_of_length_le (by rw [HL.out]; exact Nat.le_refl _)] at this)
      go_wp2_with fail
      go_ret
      exact ⟨ret_bool hz.out.symm, rfl⟩

set_option maxHeartbeats 3200000 in
set_option maxRecDepth 100000 in
theorem dnum15 (x : Ms15) (i : Nat) (hi : i < 7) (w : World) :
    Calls Try.prog 24 #[.agg #[.int .i64 x.kind, .int .i64 x.n0, .int .i64 x.n1, .int .i64 x.n2, .int .i64 x.n3, .int .i64 x.n4, .int .i64 x.n5, .int .i64 x.n6, .slice x.li.a x.li.n x.li.cap], .int .u8 (lt15 i : Int)] w fun e w' => e = .returned (.int .i64 (x.num i)) ∧ Below w.heap.size w w' := by
  have X := ms_box x w
  have hB := (Below.refl w.heap.size w).alloc (Nat.le_refl _) (.cells #[.int .i64 x.kind, .int .i64 x.n0, .int .i64 x.n1, .int .i64 x.n2, .int .i64 x.n3, .int .i64 x.n4, .int .i64 x.n5, .int .i64 x.n6, .slice x.li.a x.li.n x.li.cap] 24)
  have HB := Lib.hid hB
  have c1 : (w.alloc (.cells #[.int .i64 x.kind, .int .i64 x.n0, .int .i64 x.n1, .int .i64 x.n2, .int .i64 x.n3, .int .i64 x.n4, .int .i64 x.n5, .int .i64 x.n6, .slice x.li.a x.li.n x.li.cap] 24)).cell? ⟨w.heap.size, 1, none⟩ = some (.int .i64 x.n0) := X.cell 1
  have c2 : (w.alloc (.cells #[.int .i64 x.kind, .int .i64 x.n0, .int .i64 x.n1, .int .i64 x.n2, .int .i64 x.n3, .int .i64 x.n4, .int .i64 x.n5, .int .i64 x.n6, .slice x.li.a x.li.n x.li.cap] 24)).cell? ⟨w.heap.size, 2, none⟩ = some (.int .i64 x.n1) := X.cell 2
  have c3 : (w.alloc (.cells #[.int .i64 x.kind, .int .i64 x.n0, .int .i64 x.n1, .int .i64 x.n2, .int .i64 x.n3, .int .i64 x.n4, .int .i64 x.n5, .int .i64 x.n6, .slice x.li.a x.li.n x.li.cap] 24)).cell? ⟨w.heap.size, 3, none⟩ = some (.int .i64 x.n2) := X.cell 3
  have c4 : (w.alloc (.cells #[.int .i64 x.kind, .int .i64 x.n0, .int .i64 x.n1, .int .i64 x.n2, .int .i64 x.n3, .int .i64 x.n4, .int .i64 x.n5, .int .i64 x.n6, .slice x.li.a x.li.n x.li.cap] 24)).cell? ⟨w.heap.size, 4, none⟩ = some (.int .i64 x.n3) := X.cell 4
  have c5 : (w.alloc (.cells #[.int .i64 x.kind, .int .i64 x.n0, .int .i64 x.n1, .int .i64 x.n2, .int .i64 x.n3, .int .i64 x.n4, .int .i64 x.n5, .int .i64 x.n6, .slice x.li.a x.li.n x.li.cap] 24)).cell? ⟨w.heap.size, 5, none⟩ = some (.int .i64 x.n4) := X.cell 5
  have c6 : (w.alloc (.cells #[.int .i64 x.kind, .int .i64 x.n0, .int .i64 x.n1, .int .i64 x.n2, .int .i64 x.n3, .int .i64 x.n4, .int .i64 x.n5, .int .i64 x.n6, .slice x.li.a x.li.n x.li.cap] 24)).cell? ⟨w.heap.size, 6, none⟩ = some (.int .i64 x.n5) := X.cell 6
  have c7 : (w.alloc (.cells #[.int .i64 x.kind, .int .i64 x.n0, .int .i64 x.n1, .int .i64 x.n2, .int .i64 x.n3, .int .i64 x.n4, .int .i64 x.n5, .int .i64 x.n6, .slice x.li.a x.li.n x.li.cap] 24)).cell? ⟨w.heap.size, 7, none⟩ = some (.int .i64 x.n6) := X.cell 7
  clear X hB
  have h7 : i = 0 ∨ i = 1 ∨ i = 2 ∨ i = 3 ∨ i = 4 ∨ i = 5 ∨ i = 6 := by omega
  clear hi
  rcases h7 with rfl | rfl | rfl | rfl | rfl | rfl | rfl
  all_goals
    go_enter Try.func24, Try.ntmps24
    go_upto_region 1 with fail
    generalize (w.alloc (.cells #[.int .i64 x.kind, .int .i64 x.n0, .int .i64 x.n1, .int .i64 x.n2, .int .i64 x.n3, .int .i64 x.n4, .int .i64 x.n5, .int .i64 x.n6, .slice x.li.a x.li.n x.li.cap] 24)) = w1 at c1 c2 c3 c4 c5 c6 c7 HB ⊢
    go_wp2_with fail
    go_ret
    exact ⟨rfl, HB.out⟩

theorem allL (i : Nat) (hi : i < 7) : ([101, 114, 112, 108, 115, 116, 107] : List Nat).getD i 0 = lt15 i := rfl

set_option maxHeartbeats 6400000 in
set_option maxRecDepth 100000 in
theorem dright15 (x : Ms15) (w : World) (h : x.In w) :
    Calls Try.prog 10 #[.agg #[.int .i64 x.kind, .int .i64 x.n0, .int .i64 x.n1, .int .i64 x.n2, .int .i64 x.n3, .int .i64 x.n4, .int .i64 x.n5, .int .i64 x.n6, .slice x.li.a x.li.n x.li.cap]] w fun e w' => e = .returned (.bool (rightM x)) ∧ Below w.heap.size w w' := by
  have X := ms_box x w
  have hB1 := (Below.refl w.heap.size w).alloc (Nat.le_refl _) (.cells #[.int .i64 x.kind, .int .i64 x.n0, .int .i64 x.n1, .int .i64 x.n2, .int .i64 x.n3, .int .i64 x.n4, .int .i64 x.n5, .int .i64 x.n6, .slice x.li.a x.li.n x.li.cap] 24)
  have F1 := form15 x.kind
  have HN := Lib.hid (fun (i : Nat) (hi : i < 7) => wf64 (h.num i hi))
  have HS := fun c W => has15 (fl x.kind) (fl_wf x.kind).1 (by have := (fl_wf x.kind).2; omega) c W
  have HFH := Lib.hid (fl_has x.kind)
  have HFL := Lib.hid (fl_list x.kind)
  have hz := fl_zero x.kind
  have hes : (strL (fl x.kind)).toList.isEmpty = decide (fm x.kind = 0) := by
    rw [strL_toList, List.isEmpty_map]
    by_cases h0 : fm x.kind = 0
    · rw [hz.2 h0, decide_eq_true h0]; rfl
    · rw [decide_eq_false h0]
      apply Bool.eq_false_iff.mpr
      intro h2
      exact h0 (hz.1 (List.isEmpty_iff.1 h2))
  have hll := h.li.1.2.1
  generalize strL (fl x.kind) = S at F1 HS hes
  go_enter Try.func10, Try.ntmps10
  go_upto_region 1 with fail
  generalize (w.alloc (.cells #[.int .i64 x.kind, .int .i64 x.n0, .int .i64 x.n1, .int .i64 x.n2, .int .i64 x.n3, .int .i64 x.n4, .int .i64 x.n5, .int .i64 x.n6, .slice x.li.a x.li.n x.li.cap] 24)) = w1 at X hB1 ⊢
  have c0 : w1.cell? ⟨w.heap.size, 0, none⟩ = some (.int .i64 x.kind) := X.cell 0
  have c8 : w1.cell? ⟨w.heap.size, 8, none⟩ = some (.slice x.li.a x.li.n x.li.cap) := X.cell 8
  have HX := Lib.hid (X : Box w1 w.heap.size 24 #[.int .i64 x.kind, .int .i64 x.n0, .int .i64 x.n1, .int .i64 x.n2, .int .i64 x.n3, .int .i64 x.n4, .int .i64 x.n5, .int .i64 x.n6, .slice x.li.a x.li.n x.li.cap])
  have HB := Lib.hid hB1
  clear X hB1 h hz
  have hR1 : Hid (fm x.kind = 0 → rightM x = false) := Lib.hid (fun h0 => by unfold rightM; rw [h0]; rfl)
  have hR2 : Hid (most15 (fm x.kind) < x.li.n → rightM x = false) := Lib.hid (fun h0 => by unfold rightM; rw [decide_eq_false (by omega : ¬ x.li.n ≤ _)]; simp)
  have hR3 : Hid (fm x.kind ≠ 0 → okTo (fm x.kind) x 7 → x.li.n ≤ most15 (fm x.kind) → rightM x = true) := Lib.hid (fun h0 h1 h2 => by unfold rightM; rw [decide_eq_true h0, decide_eq_true h1, decide_eq_true h2]; rfl)
  have HB0 : Hid (∀ k, k < 7 → okn (fm x.kind) (x.num k) k = false → rightM x = false) := Lib.hid (fun k hk hb => okn_bad hk hb rfl)
  have HM : Hid (most15 (fm x.kind) = if (fm x.kind).testBit 7 then 4096 else 0) := Lib.hid rfl
  obtain ⟨f, hf⟩ : ∃ f, fm x.kind = f := ⟨_, rfl⟩
  rw [hf] at hes hR1 hR2 hR3 HB0 HM HFH HFL
  clear hf
  by_cases h0 : f = 0
  · have hz := Lib.hid (hR1.out h0)
    rw [decide_eq_true h0] at hes
    clear HS
    go_wp2_with (go_at_call 17; refine (F1 _).mono ?_; rintro e w1 ⟨rfl, rfl⟩)
    go_ret
    exact ⟨ret_bool hz.out.symm, HB.out⟩
  · rw [decide_eq_false h0] at hes
    have LNA : ∀ (ty : TypeId) (W : World), Sem.run Try.prog (Builtin.len_ #[9] ty #[.string { data := #[101, 114, 112, 108, 115, 116, 107] }]) W = .ok (.int .i64 7) W := run_lenL [101, 114, 112, 108, 115, 116, 107]
    have IXA : Hid (∀ (i : Nat), i < 7 → ∀ W : World, Sem.run Try.prog (Instr.index 9 (.string { data := #[101, 114, 112, 108, 115, 116, 107] }) (.int .i64 (i : Int))) W = .ok (.int .u8 (lt15 i : Int)) W) := Lib.hid (fun i hi W => run_indexL [101, 114, 112, 108, 115, 116, 107] (by decide) i hi W)
    by_cases h1 : 4096 < x.li.n
    · have hz := Lib.hid (hR2.out (by rw [HM.out]; split <;> omega))
      have h1' : (4096 : Int) < (x.li.n : Int) := by omega
      clear HS LNA
      go_wp2_with (go_at_call 17; refine (F1 _).mono ?_; rintro e w1 ⟨rfl, rfl⟩)
      go_ret
      exact ⟨ret_bool hz.out.symm, HB.out⟩
    · have h1' : ¬ (4096 : Int) < (x.li.n : Int) := by omega
      by_cases h2 : x.li.n = 0
      · have HT : Hid (okTo f x 7 → rightM x = true) := Lib.hid (fun h3 => hR3.out h0 h3 (by omega))
        have h2' : ¬ (0 : Int) < (x.li.n : Int) := by omega
        clear h2
        go_wp2_with (go_at_call 17; refine (F1 _).mono ?_; rintro e w1 ⟨rfl, rfl⟩)
        clear h2' h1'
        go_loopw [5] (fun i' wr => ∃ k : Nat, k ≤ 7 ∧ i' = .int .i64 k ∧ Hid (okTo f x k) ∧ Hid (Box wr w.heap.size 24 x.cells.toArray) ∧ Hid (Below w.heap.size w wr)) (fun i' _ => 7 - (intOf i').toNat)
        case atStart => exact ⟨0, by omega, rfl, Lib.hid (fun i hi => by omega), HX, HB⟩
        case round =>
          obtain ⟨k, hk, rfl, hOK, hX, hB⟩ := hrel
          by_cases hlt : k < 7
          · have ln := LNA 3 wr
            have ix : ∀ V, Sem.run Try.prog (Instr.index 9 (.string { data := #[101, 114, 112, 108, 115, 116, 107] }) (.int .i64 (k : Int))) V = .ok (.int .u8 (lt15 k : Int)) V := IXA.out k hlt
            have hlt2 : (k : Int) < 7 := by omega
            have wN := HN.out k hlt
            have DN := dnum15 x k hlt wr.drew
            have HBk := Lib.hid (HB0.out k hlt)
            have HNx : Hid (okn f (x.num k) k = true → okTo f x (k + 1)) := Lib.hid (fun h2 => okTo_next hOK.out h2)
            have HSk := HS (lt15 k)
            have hfh := HFH.out k hlt
            rw [hfh] at HSk
            have m0 : wr.cell? ⟨w.heap.size, 0, none⟩ = some (.int .i64 x.kind) := hX.out.cell 0
            have m1 : wr.cell? ⟨w.heap.size, 1, none⟩ = some (.int .i64 x.n0) := hX.out.cell 1
            have m2 : wr.cell? ⟨w.heap.size, 2, none⟩ = some (.int .i64 x.n1) := hX.out.cell 2
            have m3 : wr.cell? ⟨w.heap.size, 3, none⟩ = some (.int .i64 x.n2) := hX.out.cell 3
            have m4 : wr.cell? ⟨w.heap.size, 4, none⟩ = some (.int .i64 x.n3) := hX.out.cell 4
            have m5 : wr.cell? ⟨w.heap.size, 5, none⟩ = some (.int .i64 x.n4) := hX.out.cell 5
            have m6 : wr.cell? ⟨w.heap.size, 6, none⟩ = some (.int .i64 x.n5) := hX.out.cell 6
            have m7 : wr.cell? ⟨w.heap.size, 7, none⟩ = some (.int .i64 x.n6) := hX.out.cell 7
            have m8 : wr.cell? ⟨w.heap.size, 8, none⟩ = some (.slice x.li.a x.li.n x.li.cap) := hX.out.cell 8
            have HIX := Lib.hid ix
            have hb' : ∀ {wb : World}, Below wr.drew.heap.size wr.drew wb → Below wr.heap.size wr wb := fun h => ((Below.refl _ wr).drew).trans h
            have ls := trivial
            generalize x.num k = n at *
            generalize lt15 k = lc at *
            clear hfh ls
            go_upto_region 8 with fail
            go_cut [6] from 35 to 39 (fun v wx => v = .int .i64 n ∧ Hid (Box wx w.heap.size 24 x.cells.toArray) ∧ Hid (Below w.heap.size w wx))
            case first =>
              have q0 := ix wr.drew
              go_region_held3 (fun V => V.cell? ⟨w.heap.size, 0, none⟩ = some (.int .i64 x.kind) ∧ V.cell? ⟨w.heap.size, 1, none⟩ = some (.int .i64 x.n0) ∧ V.cell? ⟨w.heap.size, 2, none⟩ = some (.int .i64 x.n1) ∧ V.cell? ⟨w.heap.size, 3, none⟩ = some (.int .i64 x.n2) ∧ V.cell? ⟨w.heap.size, 4, none⟩ = some (.int .i64 x.n3) ∧ V.cell? ⟨w.heap.size, 5, none⟩ = some (.int .i64 x.n4) ∧ V.cell? ⟨w.heap.size, 6, none⟩ = some (.int .i64 x.n5) ∧ V.cell? ⟨w.heap.size, 7, none⟩ = some (.int .i64 x.n6) ∧ V.cell? ⟨w.heap.size, 8, none⟩ = some (.slice x.li.a x.li.n x.li.cap))
                (first | go_keep | (go_split_ands; refine ⟨?_, ?_, ?_, ?_, ?_, ?_, ?_, ?_, ?_⟩ <;> assumption))
                (first
                  | (go_at_call 24; (with_reducible refine DN.mono ?_); rintro e wb ⟨rfl, hbb⟩
                     have j0 := cell_keep m0 (hb' hbb)
                     have j1 := cell_keep m1 (hb' hbb)
                     have j2 := cell_keep m2 (hb' hbb)
                     have j3 := cell_keep m3 (hb' hbb)
                     have j4 := cell_keep m4 (hb' hbb)
                     have j5 := cell_keep m5 (hb' hbb)
                     have j6 := cell_keep m6 (hb' hbb)
                     have j7 := cell_keep m7 (hb' hbb)
                     have j8 := cell_keep m8 (hb' hbb)
                     have HXb := Lib.hid (hX.out.bel (hb' hbb))
                     have HBb := Lib.hid (below_two hB.out (hb' hbb))))
              go_wp2_with fail
              go_meet
              case rel => exact ⟨rfl, HXb, HBb⟩
            obtain ⟨rfl, hXc, hBc⟩ := hcut
            clear DN ix m0 m1 m2 m3 m4 m5 m6 m7 m8 hX hB
            by_cases c1 : n < 0
            · have hz : Hid (rightM x = false) := Lib.hid (HBk.out (by unfold okn; exact decide_eq_false (by omega)))
              go_wp2_with fail
              go_ret
              exact ⟨ret_bool hz.out.symm, hBc.out⟩
            · by_cases c2 : n ≥ 1099511627776
              · have hz : Hid (rightM x = false) := Lib.hid (HBk.out (by unfold okn; exact decide_eq_false (by omega)))
                have c2' : ¬ n < 1099511627776 := by omega
                go_wp2_with fail
                go_ret
                exact ⟨ret_bool hz.out.symm, hBc.out⟩
              · have c2' : n < 1099511627776 := by omega
                by_cases c3 : n = 0
                · have hz : Hid (okTo f x (k + 1)) := Lib.hid (HNx.out (by unfold okn; exact decide_eq_true (by omega)))
                  subst c3
                  go_wp2_with fail
                  go_roundw
                  case rel => exact ⟨k + 1, by omega, by go_num, hz, hXc, hBc⟩
                  case measure => simp [intOf]; omega
                · have c3' : 0 < n := by omega
                  cases ht : f.testBit k with
                  | true =>
                    have hz : Hid (okTo f x (k + 1)) := Lib.hid (HNx.out (by unfold okn; rw [ht]; exact decide_eq_true (by simp; omega)))
                    rw [ht] at HSk
                    have ix : ∀ V, Sem.run Try.prog (Instr.index 9 (.string { data := #[101, 114, 112, 108, 115, 116, 107] }) (.int .i64 (k : Int))) V = .ok (.int .u8 (lc : Int)) V := HIX.out
                    go_wp2_with (go_at_call 23; refine (HSk _).mono ?_; rintro e w' ⟨rfl, rfl⟩)
                    go_roundw
                    case rel => exact ⟨k + 1, by omega, by go_num, hz, hXc, hBc⟩
                    case measure => simp [intOf]; omega
                  | false =>
                    have hz : Hid (rightM x = false) := Lib.hid (HBk.out (by unfold okn; rw [ht]; exact decide_eq_false (by simp; omega)))
                    rw [ht] at HSk
                    have ix : ∀ V, Sem.run Try.prog (Instr.index 9 (.string { data := #[101, 114, 112, 108, 115, 116, 107] }) (.int .i64 (k : Int))) V = .ok (.int .u8 (lc : Int)) V := HIX.out
                    go_wp2_with (go_at_call 23; refine (HSk _).mono ?_; rintro e w' ⟨rfl, rfl⟩)
                    go_ret
                    exact ⟨ret_bool hz.out.symm, hBc.out⟩
          · obtain rfl : k = 7 := by omega
            have ln := LNA 3 wr
            have hz := Lib.hid (HT.out hOK.out)
            go_wp2_with fail
            go_ret
            exact ⟨ret_bool hz.out.symm, hB.out⟩
      · have h2' : (0 : Int) < (x.li.n : Int) := by omega
        cases ht : f.testBit 7 with
        | false =>
          have hz := Lib.hid (hR2.out (by rw [HM.out, ht, if_neg (by decide)]; omega))
          have hs := HS 43
          rw [HFL.out, ht] at hs
          go_wp2_with (first | (go_at_call 17; refine (F1 _).mono ?_; rintro e w1 ⟨rfl, rfl⟩) | (go_at_call 23; refine (hs _).mono ?_; rintro e w1 ⟨rfl, rfl⟩))
          go_ret
          exact ⟨ret_bool hz.out.symm, HB.out⟩
        | true =>
          have HT : Hid (okTo f x 7 → rightM x = true) := Lib.hid (fun h3 => hR3.out h0 h3 (by rw [HM.out, ht, if_pos rfl]; omega))
          have hs := HS 43
          rw [HFL.out, ht] at hs
          go_wp2_with (first | (go_at_call 17; refine (F1 _).mono ?_; rintro e w1 ⟨rfl, rfl⟩) | (go_at_call 23; refine (hs _).mono ?_; rintro e w1 ⟨rfl, rfl⟩))
          clear hs ht h2' h1' h2
          go_loopw [5] (fun i' wr => ∃ k : Nat, k ≤ 7 ∧ i' = .int .i64 k ∧ Hid (okTo f x k) ∧ Hid (Box wr w.heap.size 24 x.cells.toArray) ∧ Hid (Below w.heap.size w wr)) (fun i' _ => 7 - (intOf i').toNat)
          case atStart => exact ⟨0, by omega, rfl, Lib.hid (fun i hi => by omega), HX, HB⟩
          case round =>
            obtain ⟨k, hk, rfl, hOK, hX, hB⟩ := hrel
            by_cases hlt : k < 7
            · have ln := LNA 3 wr
              have ix : ∀ V, Sem.run Try.prog (Instr.index 9 (.string { data := #[101, 114, 112, 108, 115, 116, 107] }) (.int .i64 (k : Int))) V = .ok (.int .u8 (lt15 k : Int)) V := IXA.out k hlt
              have hlt2 : (k : Int) < 7 := by omega
              have wN := HN.out k hlt
              have DN := dnum15 x k hlt wr.drew
              have HBk := Lib.hid (HB0.out k hlt)
              have HNx : Hid (okn f (x.num k) k = true → okTo f x (k + 1)) := Lib.hid (fun h2 => okTo_next hOK.out h2)
              have HSk := HS (lt15 k)
              have hfh := HFH.out k hlt
              rw [hfh] at HSk
              have m0 : wr.cell? ⟨w.heap.size, 0, none⟩ = some (.int .i64 x.kind) := hX.out.cell 0
              have m1 : wr.cell? ⟨w.heap.size, 1, none⟩ = some (.int .i64 x.n0) := hX.out.cell 1
              have m2 : wr.cell? ⟨w.heap.size, 2, none⟩ = some (.int .i64 x.n1) := hX.out.cell 2
              have m3 : wr.cell? ⟨w.heap.size, 3, none⟩ = some (.int .i64 x.n2) := hX.out.cell 3
              have m4 : wr.cell? ⟨w.heap.size, 4, none⟩ = some (.int .i64 x.n3) := hX.out.cell 4
              have m5 : wr.cell? ⟨w.heap.size, 5, none⟩ = some (.int .i64 x.n4) := hX.out.cell 5
              have m6 : wr.cell? ⟨w.heap.size, 6, none⟩ = some (.int .i64 x.n5) := hX.out.cell 6
              have m7 : wr.cell? ⟨w.heap.size, 7, none⟩ = some (.int .i64 x.n6) := hX.out.cell 7
              have m8 : wr.cell? ⟨w.heap.size, 8, none⟩ = some (.slice x.li.a x.li.n x.li.cap) := hX.out.cell 8
              have HIX := Lib.hid ix
              have hb' : ∀ {wb : World}, Below wr.drew.heap.size wr.drew wb → Below wr.heap.size wr wb := fun h => ((Below.refl _ wr).drew).trans h
              have ls := trivial
              generalize x.num k = n at *
              generalize lt15 k = lc at *
              clear hfh ls
              go_upto_region 8 with fail
              go_cut [6] from 35 to 39 (fun v wx => v = .int .i64 n ∧ Hid (Box wx w.heap.size 24 x.cells.toArray) ∧ Hid (Below w.heap.size w wx))
              case first =>
                have q0 := ix wr.drew
                go_region_held3 (fun V => V.cell? ⟨w.heap.size, 0, none⟩ = some (.int .i64 x.kind) ∧ V.cell? ⟨w.heap.size, 1, none⟩ = some (.int .i64 x.n0) ∧ V.cell? ⟨w.heap.size, 2, none⟩ = some (.int .i64 x.n1) ∧ V.cell? ⟨w.heap.size, 3, none⟩ = some (.int .i64 x.n2) ∧ V.cell? ⟨w.heap.size, 4, none⟩ = some (.int .i64 x.n3) ∧ V.cell? ⟨w.heap.size, 5, none⟩ = some (.int .i64 x.n4) ∧ V.cell? ⟨w.heap.size, 6, none⟩ = some (.int .i64 x.n5) ∧ V.cell? ⟨w.heap.size, 7, none⟩ = some (.int .i64 x.n6) ∧ V.cell? ⟨w.heap.size, 8, none⟩ = some (.slice x.li.a x.li.n x.li.cap))
                  (first | go_keep | (go_split_ands; refine ⟨?_, ?_, ?_, ?_, ?_, ?_, ?_, ?_, ?_⟩ <;> assumption))
                  (first
                    | (go_at_call 24; (with_reducible refine DN.mono ?_); rintro e wb ⟨rfl, hbb⟩
                       have j0 := cell_keep m0 (hb' hbb)
                       have j1 := cell_keep m1 (hb' hbb)
                       have j2 := cell_keep m2 (hb' hbb)
                       have j3 := cell_keep m3 (hb' hbb)
                       have j4 := cell_keep m4 (hb' hbb)
                       have j5 := cell_keep m5 (hb' hbb)
                       have j6 := cell_keep m6 (hb' hbb)
                       have j7 := cell_keep m7 (hb' hbb)
                       have j8 := cell_keep m8 (hb' hbb)
                       have HXb := Lib.hid (hX.out.bel (hb' hbb))
                       have HBb := Lib.hid (below_two hB.out (hb' hbb))))
                go_wp2_with fail
                go_meet
                case rel => exact ⟨rfl, HXb, HBb⟩
              obtain ⟨rfl, hXc, hBc⟩ := hcut
              clear DN ix m0 m1 m2 m3 m4 m5 m6 m7 m8 hX hB
              by_cases c1 : n < 0
              · have hz : Hid (rightM x = false) := Lib.hid (HBk.out (by unfold okn; exact decide_eq_false (by omega)))
                go_wp2_with fail
                go_ret
                exact ⟨ret_bool hz.out.symm, hBc.out⟩
              · by_cases c2 : n ≥ 1099511627776
                · have hz : Hid (rightM x = false) := Lib.hid (HBk.out (by unfold okn; exact decide_eq_false (by omega)))
                  have c2' : ¬ n < 1099511627776 := by omega
                  go_wp2_with fail
                  go_ret
                  exact ⟨ret_bool hz.out.symm, hBc.out⟩
                · have c2' : n < 1099511627776 := by omega
                  by_cases c3 : n = 0
                  · have hz : Hid (okTo f x (k + 1)) := Lib.hid (HNx.out (by unfold okn; exact decide_eq_true (by omega)))
                    subst c3
                    go_wp2_with fail
                    go_roundw
                    case rel => exact ⟨k + 1, by omega, by go_num, hz, hXc, hBc⟩
                    case measure => simp [intOf]; omega
                  · have c3' : 0 < n := by omega
                    cases ht : f.testBit k with
                    | true =>
                      have hz : Hid (okTo f x (k + 1)) := Lib.hid (HNx.out (by unfold okn; rw [ht]; exact decide_eq_true (by simp; omega)))
                      rw [ht] at HSk
                      have ix : ∀ V, Sem.run Try.prog (Instr.index 9 (.string { data := #[101, 114, 112, 108, 115, 116, 107] }) (.int .i64 (k : Int))) V = .ok (.int .u8 (lc : Int)) V := HIX.out
                      go_wp2_with (go_at_call 23; refine (HSk _).mono ?_; rintro e w' ⟨rfl, rfl⟩)
                      go_roundw
                      case rel => exact ⟨k + 1, by omega, by go_num, hz, hXc, hBc⟩
                      case measure => simp [intOf]; omega
                    | false =>
                      have hz : Hid (rightM x = false) := Lib.hid (HBk.out (by unfold okn; rw [ht]; exact decide_eq_false (by simp; omega)))
                      rw [ht] at HSk
                      have ix : ∀ V, Sem.run Try.prog (Instr.index 9 (.string { data := #[101, 114, 112, 108, 115, 116, 107] }) (.int .i64 (k : Int))) V = .ok (.int .u8 (lc : Int)) V := HIX.out
                      go_wp2_with (go_at_call 23; refine (HSk _).mono ?_; rintro e w' ⟨rfl, rfl⟩)
                      go_ret
                      exact ⟨ret_bool hz.out.symm, hBc.out⟩
            · obtain rfl : k = 7 := by omega
              have ln := LNA 3 wr
              have hz := Lib.hid (HT.out hOK.out)
              go_wp2_with fail
              go_ret
              exact ⟨ret_bool hz.out.symm, hB.out⟩

end Go.Proofs.Ytobogkilkmnpmaa
