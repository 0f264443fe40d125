/-
  The message that a body says, in plain mathematics.
-/
import Derived.Test.YtobogkilkmnpmaaNum15
namespace Go.Proofs.Ytobogkilkmnpmaa
open Go.RowKit
set_option linter.unusedVariables false

/-- how many bytes the numbers ahead of number j have -/
def ofs (F : Nat) : Nat → Nat
  | 0 => 0
  | j + 1 => ofs F j + if F.testBit j then 5 else 0
theorem ofs_le (F : Nat) : ∀ j, ofs F j ≤ 5 * j := by
  intro j
  induction j with
  | zero => exact Nat.le_refl _
  | succ j ih => unfold ofs; split <;> omega
theorem ofs_mono (F : Nat) {i j : Nat} (h : i ≤ j) : ofs F i ≤ ofs F j := by
  induction j with
  | zero => obtain rfl : i = 0 := by omega
            exact Nat.le_refl _
  | succ j ih =>
    rcases Nat.lt_or_ge i (j + 1) with h2 | h2
    · have := ih (by omega)
      show _ ≤ ofs F j + _
      omega
    · obtain rfl : i = j + 1 := by omega
      exact Nat.le_refl _
/-- number i stored anew -/
def setM15 (x : Ms15) (i : Nat) (z : Int) : Ms15 :=
  match i with
  | 0 => ⟨x.kind, z, x.n1, x.n2, x.n3, x.n4, x.n5, x.n6, x.li⟩
  | 1 => ⟨x.kind, x.n0, z, x.n2, x.n3, x.n4, x.n5, x.n6, x.li⟩
  | 2 => ⟨x.kind, x.n0, x.n1, z, x.n3, x.n4, x.n5, x.n6, x.li⟩
  | 3 => ⟨x.kind, x.n0, x.n1, x.n2, z, x.n4, x.n5, x.n6, x.li⟩
  | 4 => ⟨x.kind, x.n0, x.n1, x.n2, x.n3, z, x.n5, x.n6, x.li⟩
  | 5 => ⟨x.kind, x.n0, x.n1, x.n2, x.n3, x.n4, z, x.n6, x.li⟩
  | _ => ⟨x.kind, x.n0, x.n1, x.n2, x.n3, x.n4, x.n5, z, x.li⟩
theorem seven {i : Nat} (h : i < 7) : i = 0 ∨ i = 1 ∨ i = 2 ∨ i = 3 ∨ i = 4 ∨ i = 5 ∨ i = 6 := by omega
theorem setM15_cells (x : Ms15) (i : Nat) (z : Int) (h : i < 7) : (setM15 x i z).cells.toArray = x.cells.toArray.setIfInBounds (1 + i) (.int .i64 z) := by
  rcases seven h with rfl | rfl | rfl | rfl | rfl | rfl | rfl <;> rfl
theorem setM15_num (x : Ms15) (i j : Nat) (z : Int) (h : i < 7) (hj : j < 7) : (setM15 x i z).num j = if j = i then z else x.num j := by
  rcases seven h with rfl | rfl | rfl | rfl | rfl | rfl | rfl <;> rcases seven hj with rfl | rfl | rfl | rfl | rfl | rfl | rfl <;> rfl
theorem setM15_kind (x : Ms15) (i : Nat) (z : Int) : (setM15 x i z).kind = x.kind := by unfold setM15; split <;> rfl
theorem setM15_li (x : Ms15) (i : Nat) (z : Int) : (setM15 x i z).li = x.li := by unfold setM15; split <;> rfl
/-- with another list -/
def withL (x : Ms15) (q : Rw) : Ms15 := ⟨x.kind, x.n0, x.n1, x.n2, x.n3, x.n4, x.n5, x.n6, q⟩
theorem withL_num (x : Ms15) (q : Rw) (i : Nat) : (withL x q).num i = x.num i := rfl
/-- number j of a body -/
def nAt (F : Nat) (bs : List Int) (j : Nat) : Nat := valS ((bs.drop (ofs F j)).take 5)
/-- what is read of the numbers ahead of number j -/
def rdN (F : Nat) (k : Int) (bs : List Int) : Nat → Ms15
  | 0 => ⟨k, 0, 0, 0, 0, 0, 0, 0, ⟨none, 0, 0, []⟩⟩
  | j + 1 => if F.testBit j then setM15 (rdN F k bs j) j (nAt F bs j : Nat) else rdN F k bs j
theorem rdN_kind (F : Nat) (k : Int) (bs : List Int) : ∀ j, (rdN F k bs j).kind = k := by
  intro j
  induction j with
  | zero => rfl
  | succ j ih => unfold rdN; split
                 · rw [setM15_kind, ih]
                 · exact ih
theorem rdN_li (F : Nat) (k : Int) (bs : List Int) : ∀ j, (rdN F k bs j).li = ⟨none, 0, 0, []⟩ := by
  intro j
  induction j with
  | zero => rfl
  | succ j ih => unfold rdN; split
                 · rw [setM15_li, ih]
                 · exact ih
theorem rdN_num (F : Nat) (k : Int) (bs : List Int) : ∀ j, j ≤ 7 → ∀ i, i < 7 → (rdN F k bs j).num i = if i < j ∧ F.testBit i = true then ((nAt F bs i : Nat) : Int) else 0 := by
  intro j
  induction j with
  | zero =>
    intro _ i hi
    rw [if_neg (by omega)]
    rcases seven hi with rfl | rfl | rfl | rfl | rfl | rfl | rfl <;> rfl
  | succ j ih =>
    intro hj i hi
    unfold rdN
    cases ht : F.testBit j with
    | true =>
      rw [if_pos rfl, setM15_num _ _ _ _ (by omega) hi, ih (by omega) i hi]
      by_cases e : i = j
      · subst e
        rw [if_pos rfl, if_pos ⟨by omega, ht⟩]
      · rw [if_neg e]
        by_cases h2 : i < j ∧ F.testBit i = true
        · rw [if_pos h2, if_pos ⟨by omega, h2.2⟩]
        · rw [if_neg h2, if_neg (fun h3 => h2 ⟨by omega, h3.2⟩)]
    | false =>
      rw [if_neg (by decide), ih (by omega) i hi]
      by_cases e : i = j
      · subst e
        rw [if_neg (by omega), if_neg (by rw [ht]; simp)]
      · by_cases h2 : i < j ∧ F.testBit i = true
        · rw [if_pos h2, if_pos ⟨by omega, h2.2⟩]
        · rw [if_neg h2, if_neg (fun h3 => h2 ⟨by omega, h3.2⟩)]
/-- how many numbers the list has, by the body -/
def cntB (F : Nat) (bs : List Int) : Nat := valS ((bs.drop (ofs F 7)).take 2)
/-- does a body say a message? -/
def okB (F : Nat) (bs : List Int) : Bool := decide (F ≠ 0) && if F.testBit 7 then decide (ofs F 7 + 2 ≤ bs.length ∧ cntB F bs ≤ 4096 ∧ bs.length = ofs F 7 + 2 + 4 * cntB F bs) else decide (bs.length = ofs F 7)
/-- the list's numbers -/
def itB (F : Nat) (bs : List Int) (K : Nat) : List Int := (List.range K).map fun j => wrap32 ((valS ((bs.drop (ofs F 7 + 2 + 4 * j)).take 4) : Nat) : Int)
theorem itB_len (F : Nat) (bs : List Int) (K : Nat) : (itB F bs K).length = K := by simp [itB]
theorem itB_step (F : Nat) (bs : List Int) (K : Nat) : itB F bs (K + 1) = itB F bs K ++ [wrap32 ((valS ((bs.drop (ofs F 7 + 2 + 4 * K)).take 4) : Nat) : Int)] := by
  unfold itB
  rw [List.range_succ, List.map_append]; rfl
theorem itB_wf (F : Nat) (bs : List Int) (K : Nat) : ∀ x ∈ itB F bs K, (Lit.int .i32 x).wf = true := by
  intro x hx
  obtain ⟨j, _, rfl⟩ := List.mem_map.1 hx
  exact wrap32_wf _
/-- the list that is read -/
def lsB (F : Nat) (bs : List Int) : List Int := if F.testBit 7 then itB F bs (cntB F bs) else []
theorem nAt_lt {F : Nat} {bs : List Int} (hw : ∀ x ∈ bs, (Lit.int .u8 x).wf = true) (j : Nat) : nAt F bs j < 1099511627776 := by
  unfold nAt
  have hl : ((bs.drop (ofs F j)).take 5).length ≤ 5 := by rw [List.length_take]; omega
  have h := valS_lt _ ((bs.drop (ofs F j)).take 5) rfl (fun x hx => hw x (List.mem_of_mem_drop (List.mem_of_mem_take hx)))
  have h2 : 256 ^ ((bs.drop (ofs F j)).take 5).length ≤ 256 ^ 5 := Nat.pow_le_pow_right (by omega) hl
  have h3 : (256 : Nat) ^ 5 = 1099511627776 := by decide
  omega
theorem rd_okTo {F : Nat} {k : Int} {bs : List Int} (hw : ∀ x ∈ bs, (Lit.int .u8 x).wf = true) (q : Rw) : okTo F (withL (rdN F k bs 7) q) 7 := by
  intro i hi
  rw [withL_num, rdN_num F k bs 7 (by omega) i hi]
  have := nAt_lt hw (F := F) i
  unfold okn
  by_cases h : i < 7 ∧ F.testBit i = true
  · rw [if_pos h]
    exact decide_eq_true ⟨by omega, by omega, Or.inr h.2⟩
  · rw [if_neg h]
    exact decide_eq_true ⟨by omega, by omega, Or.inl rfl⟩
/-- what is read is right just if there is such a kind and the list isn't too long -/
theorem rd_right {k : Int} {bs : List Int} (hw : ∀ x ∈ bs, (Lit.int .u8 x).wf = true) (q : Rw) : rightM (withL (rdN (fm k) k bs 7) q) = (decide (fm k ≠ 0) && decide (q.n ≤ most15 (fm k))) := by
  unfold rightM
  have e : (withL (rdN (fm k) k bs 7) q).kind = k := rdN_kind _ _ _ _
  rw [e, decide_eq_true (rd_okTo hw q)]
  simp only [Bool.and_true]
  rfl
theorem numsL_rd {F : Nat} {k : Int} {bs : List Int} (hw : ∀ x ∈ bs, (Lit.int .u8 x).wf = true) (q : Rw) : ∀ j, j ≤ 7 → ofs F j ≤ bs.length → numsL F (withL (rdN F k bs 7) q) j = bs.take (ofs F j) := by
  intro j
  induction j with
  | zero => intro _ _; simp [numsL, ofs]
  | succ j ih =>
    intro hj hl
    have hm : ofs F j ≤ ofs F (j + 1) := ofs_mono F (by omega)
    rw [numsL_step, ih (by omega) (by omega)]
    cases ht : F.testBit j with
    | true =>
      have ho : ofs F (j + 1) = ofs F j + 5 := by show ofs F j + _ = _; rw [ht]; rfl
      rw [if_pos rfl, withL_num, rdN_num F k bs 7 (by omega) j (by omega), if_pos ⟨by omega, ht⟩, Int.toNat_natCast]
      unfold nAt
      rw [beS_valS 5 _ (by rw [List.length_take, List.length_drop]; omega) (fun x hx => hw x (List.mem_of_mem_drop (List.mem_of_mem_take hx))), ho, List.take_add]
    | false =>
      have ho : ofs F (j + 1) = ofs F j := by show ofs F j + _ = _; rw [ht]; rfl
      rw [if_neg (by decide), ho, List.append_nil]
theorem u32_wrap32 (v : Nat) (h : v < 4294967296) : u32n (wrap32 (v : Int)) = v := by unfold u32n wrap32; omega
theorem itemsL_rd {F : Nat} {bs : List Int} (hw : ∀ x ∈ bs, (Lit.int .u8 x).wf = true) : ∀ K, ofs F 7 + 2 + 4 * K ≤ bs.length → itemsL (itB F bs K) = (bs.drop (ofs F 7 + 2)).take (4 * K) := by
  intro K
  induction K with
  | zero => intro _; simp [itB, itemsL]
  | succ K ih =>
    intro hl
    have h4 : ((bs.drop (ofs F 7 + 2 + 4 * K)).take 4).length = 4 := by rw [List.length_take, List.length_drop]; omega
    have hw4 : ∀ x ∈ (bs.drop (ofs F 7 + 2 + 4 * K)).take 4, (Lit.int .u8 x).wf = true := fun x hx => hw x (List.mem_of_mem_drop (List.mem_of_mem_take hx))
    rw [itB_step]
    have e : ∀ (A : List Int) (z : Int), itemsL (A ++ [z]) = itemsL A ++ beS 4 (u32n z) := fun A z => by unfold itemsL; simp
    rw [e, ih (by omega), u32_wrap32 _ (valS_lt 4 _ h4 hw4), beS_valS 4 _ h4 hw4, show 4 * (K + 1) = 4 * K + 4 by omega, List.take_add, List.drop_drop]
/-- such a message's body is what was read -/
theorem rd_body {k : Int} {bs : List Int} (hw : ∀ x ∈ bs, (Lit.int .u8 x).wf = true) (h : okB (fm k) bs = true) (q : Rw) (hq : q.v = lsB (fm k) bs) (hn : q.n = q.v.length) : rightM (withL (rdN (fm k) k bs 7) q) = true ∧ bodyM (fm k) (withL (rdN (fm k) k bs 7) q) = bs := by
  unfold okB at h
  rw [Bool.and_eq_true, decide_eq_true_eq] at h
  obtain ⟨h0, h⟩ := h
  rw [rd_right hw q, decide_eq_true h0]
  unfold bodyM most15
  cases ht : (fm k).testBit 7 with
  | true =>
    rw [ht, if_pos rfl, decide_eq_true_eq] at h
    obtain ⟨h1, h2, h3⟩ := h
    have hl : q.v = itB (fm k) bs (cntB (fm k) bs) := by rw [hq]; unfold lsB; rw [ht]; rfl
    have hn2 : q.n = cntB (fm k) bs := by rw [hn, hl, itB_len]
    refine ⟨by rw [if_pos rfl, hn2]; simpa using h2, ?_⟩
    rw [if_pos rfl, numsL_rd hw q 7 (by omega) (by omega)]
    show _ ++ (beS 2 q.n ++ itemsL q.v) = _
    have hc : beS 2 (cntB (fm k) bs) = (bs.drop (ofs (fm k) 7)).take 2 := by
      unfold cntB
      exact beS_valS 2 _ (by rw [List.length_take, List.length_drop]; omega) (fun x hx => hw x (List.mem_of_mem_drop (List.mem_of_mem_take hx)))
    rw [hl, hn2, itemsL_rd hw _ (by omega), hc]
    rw [← List.append_assoc, ← List.take_add, List.take_of_length_le (l := bs.drop _) (by rw [List.length_drop]; omega), List.take_append_drop]
  | false =>
    rw [ht, if_neg (by decide), decide_eq_true_eq] at h
    have hl : q.v = [] := by rw [hq]; unfold lsB; rw [ht]; rfl
    have hn2 : q.n = 0 := by rw [hn, hl]; rfl
    refine ⟨by rw [hn2]; simp, ?_⟩
    rw [if_neg (by decide), numsL_rd hw q 7 (by omega) (by omega), List.append_nil, List.take_of_length_le (by omega)]

end Go.Proofs.Ytobogkilkmnpmaa
