/-
  A right message comes back out of its bytes; bytes that say a message are its bytes: in plain mathematics.
-/
import Derived.Test.YtobogkilkmnpmaaDFault15
import Derived.Test.YtobogkilkmnpmaaPut15
import Derived.Test.YtobogkilkmnpmaaSame15
namespace Go.Proofs.Ytobogkilkmnpmaa
open Go.RowKit Go.Maps
set_option linter.unusedVariables false
set_option linter.unusedSimpArgs false

/-- bytes without a fault are the frame of what they hold -/
theorem frm_back {xs : List Int} (hw : ∀ x ∈ xs, (Lit.int .u8 x).wf = true) (h : flt xs = 0) : frm (knd xs) (bdy xs) = xs := by
  obtain ⟨h1, h2, h3⟩ := flt_ok h
  have hle := csz_le h1
  obtain ⟨h4, h5, h6⟩ := csz_ok h1
  obtain ⟨k12, e0, e1, e2, kle, kd⟩ := dsz_ok h4
  have hlen : len14 xs + 12 = xs.length := by rw [← h2, h6, kd]
  have hb : (bdy xs).length = xs.length - 12 := by unfold bdy; rw [List.length_take, List.length_drop]; omega
  have hpre : pre14 (knd xs) (bdy xs) = xs.take (xs.length - 4) := by
    have hbe : be14 (bdy xs).length = (xs.drop 4).take 4 := by
      rw [hb, ← hlen, Nat.add_sub_cancel]
      unfold len14
      have hn : n14 (xs.drop 4) = n14 ((xs.drop 4).take 4) := by
        have e : ∀ i, i < 4 → ((xs.drop 4).take 4).getD i 0 = (xs.drop 4).getD i 0 := fun i hi => by simp [List.getD, List.getElem?_take, hi]
        unfold n14
        rw [e 0 (by omega), e 1 (by omega), e 2 (by omega), e 3 (by omega)]
      rw [hn]
      exact be14_n14 (by rw [List.length_take, List.length_drop]; omega) (fun x hx => hw x (List.mem_of_mem_drop (List.mem_of_mem_take hx)))
    unfold pre14
    rw [hbe]
    have hhead : [80, 76, 1, knd xs] = xs.take 4 := by
      have g : ∀ i (hi : i < xs.length), xs.getD i 0 = xs[i] := fun i hi => by simp [List.getD, List.getElem?_eq_getElem hi]
      rw [g 0 (by omega)] at e0
      rw [g 1 (by omega)] at e1
      rw [g 2 (by omega)] at e2
      unfold knd
      rw [g 3 (by omega)]
      apply List.ext_getElem
      · simp; omega
      · intro i h1 h2
        simp only [List.length_cons, List.length_nil] at h1
        have h7 : i = 0 ∨ i = 1 ∨ i = 2 ∨ i = 3 := by omega
        rcases h7 with rfl | rfl | rfl | rfl <;> simp [e0, e1, e2]
    rw [hhead, ← List.take_add]
    unfold bdy
    rw [show (4 : Nat) + 4 = 8 by rfl, ← List.take_add, show 8 + (xs.length - 12) = xs.length - 4 by omega]
  unfold frm
  rw [hpre]
  unfold sd at h3
  rw [← of_decide_eq_true h3, List.take_append_drop]

theorem p256 : (256 : Nat) ^ 5 = 1099511627776 ∧ (256 : Nat) ^ 2 = 65536 ∧ (256 : Nat) ^ 4 = 4294967296 := by decide
theorem numsL_length (F : Nat) (x : Ms15) : ∀ j, (numsL F x j).length = ofs F j := by
  intro j
  induction j with
  | zero => rfl
  | succ j ih =>
    rw [numsL_step, List.length_append, ih]
    show _ = ofs F j + _
    split
    · rw [beS_len]
    · rfl
theorem numsL_pre (F : Nat) (x : Ms15) : ∀ d j, j + d = 7 → ∃ r, numsL F x 7 = numsL F x j ++ r := by
  intro d
  induction d with
  | zero => intro j hj; obtain rfl : j = 7 := by omega
            exact ⟨[], by simp⟩
  | succ d ih =>
    intro j hj
    obtain ⟨r, hr⟩ := ih (j + 1) (by omega)
    rw [numsL_step F x j, List.append_assoc] at hr
    exact ⟨_, hr⟩
theorem nAt_body {F : Nat} {x : Ms15} (j : Nat) (hj : j < 7) (ht : F.testBit j = true) (h : okn F (x.num j) j = true) : (nAt F (bodyM F x) j : Int) = x.num j := by
  obtain ⟨r, hr⟩ := numsL_pre F x (7 - (j + 1)) (j + 1) (by omega)
  rw [numsL_step F x j, ht, if_pos rfl] at hr
  have hb := okn_bd h
  unfold nAt bodyM
  rw [hr, List.append_assoc, List.append_assoc, List.drop_left' (numsL_length F x j), List.take_left' (beS_len _ _), valS_beS 5 _ (by rw [p256.1]; omega)]
  omega
theorem itemsL_drop (zs : List Int) (j : Nat) : (itemsL zs).drop (4 * j) = itemsL (zs.drop j) := by
  by_cases hj : j ≤ zs.length
  · have h : itemsL zs = itemsL (zs.take j) ++ itemsL (zs.drop j) := by unfold itemsL; rw [← List.flatMap_append, List.take_append_drop]
    have hl : (itemsL (zs.take j)).length = 4 * j := by rw [itemsL_len, List.length_take]; omega
    rw [h, List.drop_left' hl]
  · rw [List.drop_eq_nil_of_le (by rw [itemsL_len]; omega), @List.drop_eq_nil_of_le _ zs j (by omega)]; rfl
theorem wrap_u32n {z : Int} (h : (Lit.int .i32 z).wf = true) : wrap32 ((u32n z : Nat) : Int) = z := by
  have := wf32 h
  unfold wrap32 u32n
  omega
/-- what a right message's body says -/
theorem body_says {x : Ms15} (hl : x.li.v.length = x.li.n) (hw : ∀ z ∈ x.li.v, (Lit.int .i32 z).wf = true) (hr : rightM x = true) :
    okB (fm x.kind) (bodyM (fm x.kind) x) = true ∧ lsB (fm x.kind) (bodyM (fm x.kind) x) = x.li.v ∧ ∀ j, j < 7 → (rdN (fm x.kind) x.kind (bodyM (fm x.kind) x) 7).num j = x.num j := by
  obtain ⟨h0, hok, hn⟩ := right_parts hr
  have hnum : ∀ j, j < 7 → (rdN (fm x.kind) x.kind (bodyM (fm x.kind) x) 7).num j = x.num j := fun j hj => by
    rw [rdN_num _ _ _ 7 (by omega) j hj]
    cases ht : (fm x.kind).testBit j with
    | true => rw [if_pos ⟨hj, rfl⟩]; exact nAt_body j hj ht (hok j hj)
    | false =>
      rw [if_neg (by simp)]
      have := okn_bd (hok j hj)
      rw [ht] at this
      rcases this.2.2 with h | h
      · exact h.symm
      · cases h
  cases ht : (fm x.kind).testBit 7 with
  | true =>
    unfold most15 at hn
    rw [ht, if_pos rfl] at hn
    have hb : bodyM (fm x.kind) x = numsL (fm x.kind) x 7 ++ (beS 2 x.li.n ++ itemsL x.li.v) := by unfold bodyM; rw [ht]; rfl
    have hlen := numsL_length (fm x.kind) x 7
    have hc : cntB (fm x.kind) (bodyM (fm x.kind) x) = x.li.n := by
      unfold cntB
      rw [hb, List.drop_left' hlen, List.take_left' (beS_len _ _), valS_beS 2 _ (by rw [p256.2.1]; omega)]
    have hd : (bodyM (fm x.kind) x).drop (ofs (fm x.kind) 7 + 2) = itemsL x.li.v := by
      rw [← List.drop_drop, hb, List.drop_left' hlen, List.drop_left' (beS_len _ _)]
    refine ⟨?_, ?_, hnum⟩
    · unfold okB
      have e : ofs (fm x.kind) 7 + 2 ≤ (bodyM (fm x.kind) x).length ∧ x.li.n ≤ 4096 ∧ (bodyM (fm x.kind) x).length = ofs (fm x.kind) 7 + 2 + 4 * x.li.n := ⟨by rw [hb, List.length_append, List.length_append, hlen, beS_len]; omega, hn, by rw [hb, List.length_append, List.length_append, hlen, beS_len, itemsL_len, hl]; omega⟩
      rw [decide_eq_true h0, ht, if_pos rfl, hc, decide_eq_true e]; rfl
    · unfold lsB
      rw [ht, if_pos rfl, hc]
      apply List.ext_getElem
      · rw [itB_len, hl]
      · intro i h1 h2
        have hi : i < x.li.n := by rw [itB_len] at h1; exact h1
        simp only [itB, List.getElem_map, List.getElem_range]
        rw [← List.drop_drop, hd, itemsL_drop, List.drop_eq_getElem_cons (by rw [hl]; exact hi)]
        have e : itemsL (x.li.v[i] :: x.li.v.drop (i + 1)) = beS 4 (u32n x.li.v[i]) ++ itemsL (x.li.v.drop (i + 1)) := rfl
        rw [e, List.take_left' (beS_len _ _), valS_beS 4 _ (by rw [p256.2.2]; exact u32_lt _)]
        exact wrap_u32n (hw _ (List.getElem_mem _))
  | false =>
    unfold most15 at hn
    rw [ht, if_neg (by decide)] at hn
    have hb : bodyM (fm x.kind) x = numsL (fm x.kind) x 7 := by unfold bodyM; rw [ht]; simp
    refine ⟨?_, ?_, hnum⟩
    · unfold okB
      rw [decide_eq_true h0, ht, if_neg (by decide), hb, numsL_length, decide_eq_true rfl]; rfl
    · unfold lsB
      rw [ht, if_neg (by decide)]
      exact (List.eq_nil_of_length_eq_zero (by rw [hl]; omega)).symm
/-- the bytes of a right message: what Parse tells of them -/
theorem frame_says {x : Ms15} (hl : x.li.v.length = x.li.n) (hw : ∀ z ∈ x.li.v, (Lit.int .i32 z).wf = true) (hr : rightM x = true) :
    flt15 (frm x.kind (bodyM (fm x.kind) x)) = 0 ∧ knd (frm x.kind (bodyM (fm x.kind) x)) = x.kind ∧ bdy (frm x.kind (bodyM (fm x.kind) x)) = bodyM (fm x.kind) x := by
  have hbl := bodyM_len (fm x.kind) rfl hl hr
  have e1 : knd (frm x.kind (bodyM (fm x.kind) x)) = x.kind := frm_kind _ _
  have e2 : bdy (frm x.kind (bodyM (fm x.kind) x)) = bodyM (fm x.kind) x := by unfold bdy; rw [frm_len, Nat.add_sub_cancel]; exact frm_body _ _
  refine ⟨?_, e1, e2⟩
  unfold flt15
  rw [flt_frm (by omega), e1, e2, (body_says hl hw hr).1]; rfl
/-- what is read back is the message -/
theorem read_same {x y : Ms15} (hl : x.li.v.length = x.li.n) (hw : ∀ z ∈ x.li.v, (Lit.int .i32 z).wf = true) (hr : rightM x = true) {g : Rw} (hy : withL (rdN (fm x.kind) x.kind (bodyM (fm x.kind) x) 7) g = y) (hg : g.v = lsB (fm x.kind) (bodyM (fm x.kind) x)) : sameM y x = true := by
  obtain ⟨h1, h2, h3⟩ := body_says hl hw hr
  have hP : sameP y x := by
    refine ⟨?_, fun i hi => ?_, ?_⟩
    · rw [← hy]; exact rdN_kind _ _ _ _
    · rw [← hy]; exact h3 i hi
    · rw [← hy]; exact hg.trans h2
  exact decide_eq_true hP
/-- a message without fault is right, and its bytes are those that were read -/
theorem parse_right {xs : List Int} (hw : ∀ x ∈ xs, (Lit.int .u8 x).wf = true) (h : flt15 xs = 0) {y : Ms15} {g : Rw} (hy : withL (rdN (fm (knd xs)) (knd xs) (bdy xs) 7) g = y) (hg : g.v = lsB (fm (knd xs)) (bdy xs)) (hn : g.n = g.v.length) :
    rightM y = true ∧ frm y.kind (bodyM (fm y.kind) y) = xs := by
  have hf : flt xs = 0 := by
    unfold flt15 at h
    by_cases h1 : flt xs = 0
    · exact h1
    · rw [if_pos h1] at h; exact absurd h h1
  have hok : okB (fm (knd xs)) (bdy xs) = true := by
    unfold flt15 at h
    rw [if_neg (by simpa using hf)] at h
    cases ho : okB (fm (knd xs)) (bdy xs) with
    | true => rfl
    | false => rw [ho] at h; simp at h
  have hwb : ∀ x ∈ bdy xs, (Lit.int .u8 x).wf = true := fun x hx => hw x (List.mem_of_mem_drop (List.mem_of_mem_take hx))
  obtain ⟨h1, h2⟩ := rd_body (k := knd xs) hwb hok g hg hn
  have hk : y.kind = knd xs := by rw [← hy]; exact rdN_kind _ _ _ _
  rw [hy] at h1 h2
  refine ⟨h1, ?_⟩
  rw [hk, h2]
  exact frm_back hw hf
theorem sameM_refl (x : Ms15) : sameM x x = true := by
  have hP : sameP x x := ⟨rfl, fun _ _ => rfl, rfl⟩
  exact decide_eq_true hP

end Go.Proofs.Ytobogkilkmnpmaa
