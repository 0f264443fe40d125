/-
  Frames in plain mathematics: a frame of a kind and a body; how many bytes a frame has; the first error of bytes; which frames bytes begin with; one byte turned.
-/
import Derived.Test.YtobogkilkmnpmaaCrc
namespace Go.Proofs.Ytobogkilkmnpmaa
open Go.RowKit
set_option linter.unusedVariables false

/-- a number in four bytes, the greatest first -/
def be14 (c : Nat) : List Int := [((c / 16777216 : Nat) : Int), ((c / 65536 % 256 : Nat) : Int), ((c / 256 % 256 : Nat) : Int), ((c % 256 : Nat) : Int)]
/-- four bytes as a number -/
def n14 (xs : List Int) : Nat := (((xs.getD 0 0).toNat * 256 + (xs.getD 1 0).toNat) * 256 + (xs.getD 2 0).toNat) * 256 + (xs.getD 3 0).toNat
/-- a frame's bytes ahead of its sum -/
def pre14 (k : Int) (body : List Int) : List Int := [80, 76, 1, k] ++ be14 body.length ++ body
/-- a frame -/
def frm (k : Int) (body : List Int) : List Int := pre14 k body ++ be14 (csum (pre14 k body))

theorem b14_wf (x : Int) (h0 : 0 ≤ x) (h1 : x ≤ 255) : (Lit.int .u8 x).wf = true := by
  simp [Lit.wf, IntKind.min, IntKind.max, IntKind.signed, IntKind.bits]; omega
theorem be14_wf (c : Nat) (hc : c < 4294967296) : ∀ x ∈ be14 c, (Lit.int .u8 x).wf = true := by
  intro x hx
  simp only [be14, List.mem_cons, List.not_mem_nil, or_false] at hx
  rcases hx with rfl | rfl | rfl | rfl <;> exact b14_wf _ (by omega) (by omega)
theorem pre14_len (k : Int) (body : List Int) : (pre14 k body).length = body.length + 8 := by simp [pre14, be14]
theorem frm_len (k : Int) (body : List Int) : (frm k body).length = body.length + 12 := by unfold frm; rw [List.length_append, pre14_len]; simp [be14]
theorem pre14_wf {k : Int} {body : List Int} (hk : (Lit.int .u8 k).wf = true) (hb : ∀ x ∈ body, (Lit.int .u8 x).wf = true) (hl : body.length < 4294967296) : ∀ x ∈ pre14 k body, (Lit.int .u8 x).wf = true := by
  intro x hx
  unfold pre14 at hx
  rcases List.mem_append.1 hx with h | h
  · rcases List.mem_append.1 h with h | h
    · simp only [List.mem_cons, List.not_mem_nil, or_false] at h
      rcases h with rfl | rfl | rfl | rfl
      · rfl
      · rfl
      · rfl
      · exact hk
    · exact be14_wf _ hl x h
  · exact hb x h
theorem frm_wf {k : Int} {body : List Int} (hk : (Lit.int .u8 k).wf = true) (hb : ∀ x ∈ body, (Lit.int .u8 x).wf = true) (hl : body.length < 4294967296) : ∀ x ∈ frm k body, (Lit.int .u8 x).wf = true := by
  intro x hx
  rcases List.mem_append.1 hx with h | h
  · exact pre14_wf hk hb hl x h
  · exact be14_wf _ (csum_lt _) x h
theorem n14_be14 (c : Nat) (hc : c < 4294967296) (zs : List Int) : n14 (be14 c ++ zs) = c := by
  simp only [n14, be14, List.cons_append, List.getD_cons_zero, List.getD_cons_succ, Int.toNat_natCast]
  omega
theorem be14_n14 {ys : List Int} (hl : ys.length = 4) (hw : ∀ x ∈ ys, (Lit.int .u8 x).wf = true) : be14 (n14 ys) = ys := by
  match ys, hl with
  | [a, b, c, d], _ =>
    have ha := wfu8 (hw a (by simp))
    have hb := wfu8 (hw b (by simp))
    have hc := wfu8 (hw c (by simp))
    have hd := wfu8 (hw d (by simp))
    simp only [n14, be14, List.getD_cons_zero, List.getD_cons_succ, List.cons.injEq, and_true]
    omega
theorem be14_inj {c d : Nat} (hc : c < 4294967296) (hd : d < 4294967296) (h : be14 c = be14 d) : c = d := by
  have h2 := congrArg (fun l => n14 (l ++ [])) h
  simp only [n14_be14 _ hc, n14_be14 _ hd] at h2
  exact h2
theorem n14_lt {ys : List Int} (hw : ∀ x ∈ ys, (Lit.int .u8 x).wf = true) : n14 ys < 4294967296 := by
  have hb : ∀ k, (ys.getD k 0).toNat ≤ 255 := by
    intro k
    by_cases hk : k < ys.length
    · have := wfu8 (hw _ (getD_mem hk)); omega
    · rw [List.getD_eq_getElem?_getD, List.getElem?_eq_none (by omega)]; simp
  unfold n14
  have := hb 0
  have := hb 1
  have := hb 2
  have := hb 3
  omega

/-! ### sizes, errors -/

/-- the length that a frame's beginning says -/
def len14 (xs : List Int) : Nat := n14 (xs.drop 4)
/-- how many bytes a frame has that begins so, or the error -/
def dsz (xs : List Int) : Nat × Nat :=
  if xs.length < 12 then (0, 70) else if ¬ (xs.getD 0 0 = 80 ∧ xs.getD 1 0 = 76) then (0, 71) else if xs.getD 2 0 ≠ 1 then (0, 141) else if 1048576 < len14 xs then (0, 140) else (len14 xs + 12, 0)
/-- the same, of bytes that are at least so many -/
def csz (xs : List Int) : Nat × Nat := if (dsz xs).2 ≠ 0 then (0, (dsz xs).2) else if xs.length < (dsz xs).1 then (0, 70) else ((dsz xs).1, 0)
/-- are the last four bytes the sum of those ahead? -/
def sd (f : List Int) : Bool := decide (f.drop (f.length - 4) = be14 (csum (f.take (f.length - 4))))
/-- the first error of bytes (0: none) -/
def flt (xs : List Int) : Nat := if (csz xs).2 ≠ 0 then (csz xs).2 else if (csz xs).1 < xs.length then 72 else if sd xs then 0 else 73
/-- do the bytes begin with a frame? -/
def bg (xs : List Int) : Bool := decide ((csz xs).2 = 0) && sd (xs.take (csz xs).1)

theorem dsz_two (xs : List Int) : (dsz xs).2 = 0 ∨ (dsz xs).2 = 70 ∨ (dsz xs).2 = 71 ∨ (dsz xs).2 = 141 ∨ (dsz xs).2 = 140 := by
  unfold dsz
  repeat' split
  all_goals simp
theorem dsz_ok {xs : List Int} (h : (dsz xs).2 = 0) : 12 ≤ xs.length ∧ xs.getD 0 0 = 80 ∧ xs.getD 1 0 = 76 ∧ xs.getD 2 0 = 1 ∧ len14 xs ≤ 1048576 ∧ dsz xs = (len14 xs + 12, 0) := by
  unfold dsz at h ⊢
  repeat' split at h
  all_goals first
    | (simp at h; done)
    | (rename_i a b c d
       simp only [Classical.not_not] at b c
       refine ⟨by omega, b.1, b.2, c, by omega, ?_⟩
       rw [if_neg a, if_neg (by simp only [Classical.not_not]; exact b), if_neg (by simp only [ne_eq, Classical.not_not]; exact c), if_neg d])
theorem csz_ok {xs : List Int} (h : (csz xs).2 = 0) : (dsz xs).2 = 0 ∧ (dsz xs).1 ≤ xs.length ∧ csz xs = ((dsz xs).1, 0) := by
  unfold csz at h ⊢
  by_cases h1 : (dsz xs).2 ≠ 0
  · rw [if_pos h1] at h; exact absurd h h1
  · rw [if_neg h1] at h ⊢
    simp only [ne_eq, Classical.not_not] at h1
    by_cases h2 : xs.length < (dsz xs).1
    · rw [if_pos h2] at h; simp at h
    · rw [if_neg h2]; exact ⟨h1, by omega, rfl⟩
theorem csz_eq {xs : List Int} (h : 12 ≤ xs.length) : csz xs = if ¬ (xs.getD 0 0 = 80 ∧ xs.getD 1 0 = 76) then (0, 71) else if xs.getD 2 0 ≠ 1 then (0, 141) else if 1048576 < len14 xs then (0, 140) else if xs.length < len14 xs + 12 then (0, 70) else (len14 xs + 12, 0) := by
  unfold csz dsz
  rw [if_neg (show ¬ xs.length < 12 by omega)]
  by_cases h1 : ¬ (xs.getD 0 0 = 80 ∧ xs.getD 1 0 = 76)
  · rw [if_pos h1, if_pos h1, if_pos (by simp)]
  · rw [if_neg h1, if_neg h1]
    by_cases h2 : xs.getD 2 0 ≠ 1
    · rw [if_pos h2, if_pos h2, if_pos (by simp)]
    · rw [if_neg h2, if_neg h2]
      by_cases h3 : 1048576 < len14 xs
      · rw [if_pos h3, if_pos h3, if_pos (by simp)]
      · rw [if_neg h3, if_neg h3, if_neg (by simp)]
theorem dsz_eq {xs : List Int} (h : 12 ≤ xs.length) : dsz xs = if ¬ (xs.getD 0 0 = 80 ∧ xs.getD 1 0 = 76) then (0, 71) else if xs.getD 2 0 ≠ 1 then (0, 141) else if 1048576 < len14 xs then (0, 140) else (len14 xs + 12, 0) := by
  unfold dsz
  rw [if_neg (show ¬ xs.length < 12 by omega)]
theorem csz_le {xs : List Int} (h : (csz xs).2 = 0) : 12 ≤ (csz xs).1 ∧ (csz xs).1 ≤ xs.length ∧ (csz xs).1 ≤ 1048588 := by
  obtain ⟨h1, h2, h3⟩ := csz_ok h
  obtain ⟨a, b, c, d, e, f⟩ := dsz_ok h1
  rw [h3]
  rw [f] at h2 ⊢
  refine ⟨?_, h2, ?_⟩ <;> show _ ≤ _ <;> simp only <;> omega
theorem csz_err {xs : List Int} (h : (csz xs).2 ≠ 0) : (csz xs).1 = 0 := by
  unfold csz at h ⊢
  repeat' split
  · rfl
  · rfl
  · rename_i h1 h2
    rw [if_neg h1, if_neg h2] at h
    exact absurd rfl h
theorem flt_two (xs : List Int) : flt xs = 0 ∨ flt xs = 70 ∨ flt xs = 71 ∨ flt xs = 141 ∨ flt xs = 140 ∨ flt xs = 72 ∨ flt xs = 73 := by
  have := dsz_two xs
  unfold flt csz
  repeat' split
  all_goals first
    | (simp; done)
    | omega
    | (simp only [ne_eq, Classical.not_not] at *; simp; omega)
theorem flt_ok {xs : List Int} (h : flt xs = 0) : (csz xs).2 = 0 ∧ (csz xs).1 = xs.length ∧ sd xs = true := by
  unfold flt at h
  by_cases h1 : (csz xs).2 ≠ 0
  · rw [if_pos h1] at h; exact absurd h h1
  · rw [if_neg h1] at h
    simp only [ne_eq, Classical.not_not] at h1
    have := (csz_le h1).2.1
    by_cases h2 : (csz xs).1 < xs.length
    · rw [if_pos h2] at h; simp at h
    · rw [if_neg h2] at h
      refine ⟨h1, by omega, ?_⟩
      cases hs : sd xs with
      | true => rfl
      | false => rw [hs] at h; simp at h
theorem sd_code {f : List Int} (hw : ∀ x ∈ f, (Lit.int .u8 x).wf = true) (h4 : 4 ≤ f.length) : sd f = decide (csum (f.take (f.length - 4)) = n14 (f.drop (f.length - 4))) := by
  have hd : (f.drop (f.length - 4)).length = 4 := by rw [List.length_drop]; omega
  have hb := be14_n14 hd (fun x hx => hw x (List.mem_of_mem_drop hx))
  have hn := n14_lt (ys := f.drop (f.length - 4)) (fun x hx => hw x (List.mem_of_mem_drop hx))
  unfold sd
  by_cases h : csum (f.take (f.length - 4)) = n14 (f.drop (f.length - 4))
  · rw [decide_eq_true h, h, decide_eq_true hb.symm]
  · rw [decide_eq_false h, decide_eq_false]
    intro h2
    rw [← hb] at h2
    exact h (be14_inj hn (csum_lt _) h2).symm
/-- bytes that begin alike -/
theorem dsz_take {xs : List Int} {n : Nat} (h12 : 12 ≤ n) (hn : n ≤ xs.length) : dsz (xs.take n) = dsz xs := by
  have e : ∀ i, i < 8 → (xs.take n).getD i 0 = xs.getD i 0 := fun i hi => by simp [List.getD, show i < n by omega]
  have l : len14 (xs.take n) = len14 xs := by
    unfold len14 n14
    have e2 : ∀ i, i < 4 → ((xs.take n).drop 4).getD i 0 = (xs.drop 4).getD i 0 := fun i hi => by
      simp only [List.getD, List.getElem?_drop, List.getElem?_take, show 4 + i < n by omega, if_true]
    rw [e2 0 (by omega), e2 1 (by omega), e2 2 (by omega), e2 3 (by omega)]
  have hl : (xs.take n).length = n := by rw [List.length_take]; omega
  unfold dsz
  rw [e 0 (by omega), e 1 (by omega), e 2 (by omega), l, hl]
  by_cases h : xs.length < 12
  · omega
  · rw [if_neg h, if_neg (by omega)]
/-- the first bytes of bytes that begin with a frame's beginning: their error -/
theorem flt_take {xs : List Int} (h : (csz xs).2 = 0) : flt (xs.take (csz xs).1) = if sd (xs.take (csz xs).1) then 0 else 73 := by
  have hle := csz_le h
  obtain ⟨h1, h2, h3⟩ := csz_ok h
  have ht := dsz_take hle.1 hle.2.1
  have hl : (xs.take (csz xs).1).length = (csz xs).1 := by rw [List.length_take]; omega
  have e : csz (xs.take (csz xs).1) = csz xs := by
    have e2 : csz (xs.take (csz xs).1) = if (dsz (xs.take (csz xs).1)).2 ≠ 0 then (0, (dsz (xs.take (csz xs).1)).2) else if (xs.take (csz xs).1).length < (dsz (xs.take (csz xs).1)).1 then (0, 70) else ((dsz (xs.take (csz xs).1)).1, 0) := rfl
    rw [e2, ht, hl, if_neg (by simpa using h1), if_neg (by rw [h3]; simp), h3]
  unfold flt
  rw [e, hl, if_neg (by simpa using h), if_neg (by omega)]
/-- a frame, whatever stands behind it -/
theorem csz_frm {k : Int} {body : List Int} (zs : List Int) (hl : body.length ≤ 1048576) : csz (frm k body ++ zs) = (body.length + 12, 0) := by
  have hlen : (frm k body ++ zs).length = body.length + 12 + zs.length := by rw [List.length_append, frm_len]
  have e0 : (frm k body ++ zs).getD 0 0 = 80 := by simp [frm, pre14]
  have e1 : (frm k body ++ zs).getD 1 0 = 76 := by simp [frm, pre14]
  have e2 : (frm k body ++ zs).getD 2 0 = 1 := by simp [frm, pre14]
  have e3 : len14 (frm k body ++ zs) = body.length := by
    unfold len14
    have : (frm k body ++ zs).drop 4 = be14 body.length ++ (body ++ be14 (csum (pre14 k body)) ++ zs) := by simp [frm, pre14]
    rw [this, n14_be14 _ (by omega)]
  have ed : dsz (frm k body ++ zs) = (body.length + 12, 0) := by
    unfold dsz
    rw [hlen, e0, e1, e2, e3, if_neg (by omega), if_neg (by simp), if_neg (by simp), if_neg (by omega)]
  unfold csz
  rw [ed, hlen, if_neg (by simp), if_neg (by simp only; omega)]
theorem sd_frm (k : Int) (body : List Int) : sd (frm k body) = true := by
  unfold sd
  have e : (frm k body).length - 4 = (pre14 k body).length := by rw [frm_len, pre14_len]; omega
  rw [e]
  unfold frm
  rw [List.drop_left, List.take_left]
  simp
theorem bg_frm {k : Int} {body : List Int} (zs : List Int) (hl : body.length ≤ 1048576) : bg (frm k body ++ zs) = true := by
  unfold bg
  rw [csz_frm zs hl, List.take_left' (frm_len k body), sd_frm]
  rfl
theorem flt_frm {k : Int} {body : List Int} (hl : body.length ≤ 1048576) : flt (frm k body) = 0 := by
  have h := csz_frm (k := k) [] hl
  rw [List.append_nil] at h
  unfold flt
  rw [h, frm_len, sd_frm]
  simp
/-- what a frame holds -/
theorem frm_kind (k : Int) (body : List Int) : (frm k body).getD 3 0 = k := by simp [frm, pre14]
theorem frm_body (k : Int) (body : List Int) : ((frm k body).drop 8).take body.length = body := by
  have : (frm k body).drop 8 = body ++ be14 (csum (pre14 k body)) := by simp [frm, pre14, be14]
  rw [this, List.take_left]
/-- fewer bytes of a frame; a byte more -/
theorem flt_cut {k : Int} {body : List Int} (hl : body.length ≤ 1048576) {j : Nat} (hj : j < body.length + 12) : flt ((frm k body).take j) ≠ 0 := by
  intro h
  obtain ⟨h1, h2, _⟩ := flt_ok h
  have hlen : ((frm k body).take j).length = j := by rw [List.length_take, frm_len]; omega
  rw [hlen] at h2
  have h12 := (csz_le h1).1
  obtain ⟨a, b, c⟩ := csz_ok h1
  have hd := dsz_take (xs := frm k body) (n := j) (by omega) (by rw [frm_len]; omega)
  have hf := csz_frm (k := k) [] hl
  rw [List.append_nil] at hf
  have hf2 := (csz_ok (xs := frm k body) (by rw [hf])).2.2
  rw [hf] at hf2
  rw [c, hd] at h2
  have := congrArg Prod.fst hf2
  simp only at this h2
  omega
theorem flt_more {k : Int} {body : List Int} (hl : body.length ≤ 1048576) (x : Int) : flt (frm k body ++ [x]) = 72 := by
  have h := csz_frm (k := k) [x] hl
  unfold flt
  rw [h, List.length_append, frm_len]
  simp
/-- no frame is how another one begins -/
theorem frm_apart {k l : Int} {A B : List Int} (hA : A.length ≤ 1048576) (hB : B.length ≤ 1048576) (h : (frm k A).take (min (A.length + 12) (B.length + 12)) = (frm l B).take (min (A.length + 12) (B.length + 12))) : k = l ∧ A = B := by
  have g : ∀ i, i < min (A.length + 12) (B.length + 12) → (frm k A).getD i 0 = (frm l B).getD i 0 := fun i hi => by
    have := congrArg (fun z => z.getD i 0) h
    simpa only [List.getD, List.getElem?_take, if_pos hi] using this
  have hm : 12 ≤ min (A.length + 12) (B.length + 12) := by omega
  have hk := g 3 (by omega)
  rw [frm_kind, frm_kind] at hk
  have hlen : A.length = B.length := by
    have e : ∀ (k : Int) (X : List Int), X.length ≤ 1048576 → len14 (frm k X) = X.length := fun k X hX => by
      unfold len14
      have : (frm k X).drop 4 = be14 X.length ++ (X ++ be14 (csum (pre14 k X))) := by simp [frm, pre14]
      rw [this, n14_be14 _ (by omega)]
    rw [← e k A hA, ← e l B hB]
    unfold len14 n14
    have e2 : ∀ i, i < 4 → ((frm k A).drop 4).getD i 0 = ((frm l B).drop 4).getD i 0 := fun i hi => by
      have := g (4 + i) (by omega)
      simpa [List.getD, List.getElem?_drop] using this
    rw [e2 0 (by omega), e2 1 (by omega), e2 2 (by omega), e2 3 (by omega)]
  refine ⟨hk, ?_⟩
  rw [hlen, Nat.min_self, List.take_of_length_le (by rw [frm_len]; omega), List.take_of_length_le (by rw [frm_len]; omega)] at h
  rw [← frm_body k A, ← frm_body l B, h, hlen]

/-! ### one byte turned -/

theorem stp_bit (r : Nat) (h : r < 4294967296) : (stp r).testBit 31 = decide (r % 2 = 1) := by
  have h2 : (r / 2).testBit 31 = false := Nat.testBit_lt_two_pow (by omega)
  unfold stp
  by_cases hb : r % 2 = 1
  · rw [if_pos hb, Nat.testBit_xor, h2, decide_eq_true hb]; decide
  · rw [if_neg hb, h2, decide_eq_false hb]
theorem xor_inj {a b c : Nat} (h : a ^^^ c = b ^^^ c) : a = b := by
  have := congrArg (· ^^^ c) h
  simpa [Nat.xor_assoc] using this
theorem stp_inj {r s : Nat} (hr : r < 4294967296) (hs : s < 4294967296) (h : stp r = stp s) : r = s := by
  have hb : decide (r % 2 = 1) = decide (s % 2 = 1) := by rw [← stp_bit r hr, ← stp_bit s hs, h]
  unfold stp at h
  by_cases h1 : r % 2 = 1
  · have h2 : s % 2 = 1 := by rw [decide_eq_true h1] at hb; exact of_decide_eq_true hb.symm
    rw [if_pos h1, if_pos h2] at h
    have := xor_inj h
    omega
  · have h2 : ¬ s % 2 = 1 := by rw [decide_eq_false h1] at hb; exact of_decide_eq_false hb.symm
    rw [if_neg h1, if_neg h2] at h
    omega
theorem bitsN_inj (n : Nat) {r s : Nat} (hr : r < 4294967296) (hs : s < 4294967296) (h : bitsN n r = bitsN n s) : r = s := by
  induction n with
  | zero => exact h
  | succ n ih => exact ih (stp_inj (bitsN_lt n r hr) (bitsN_lt n s hs) h)
theorem byt_inj_r {r s : Nat} {x : Int} (hr : r < 4294967296) (hs : s < 4294967296) (hx : x ≤ 255) (h : byt r x = byt s x) : r = s :=
  xor_inj (bitsN_inj 8 (Nat.xor_lt_two_pow (n := 32) (by omega) (by omega)) (Nat.xor_lt_two_pow (n := 32) (by omega) (by omega)) h)
theorem byt_inj_x {r : Nat} {x y : Int} (hr : r < 4294967296) (hx : 0 ≤ x ∧ x ≤ 255) (hy : 0 ≤ y ∧ y ≤ 255) (h : byt r x = byt r y) : x = y := by
  have h2 := bitsN_inj 8 (Nat.xor_lt_two_pow (n := 32) (by omega) (by omega)) (Nat.xor_lt_two_pow (n := 32) (by omega) (by omega)) h
  rw [Nat.xor_comm r, Nat.xor_comm r] at h2
  have := xor_inj h2
  omega
theorem crcL_inj {xs : List Int} (hw : ∀ x ∈ xs, x ≤ 255) : ∀ {r s : Nat}, r < 4294967296 → s < 4294967296 → crcL r xs = crcL s xs → r = s := by
  induction xs with
  | nil => intro r s _ _ h; exact h
  | cons x xs ih =>
    intro r s hr hs h
    have hx := hw x (by simp)
    exact byt_inj_r hr hs hx (ih (fun y hy => hw y (by simp [hy])) (byt_lt r x hr hx) (byt_lt s x hs hx) h)
/-- lists that are unlike in one place -/
theorem crc_one : ∀ {xs ys : List Int} (i : Nat) {r : Nat}, r < 4294967296 → xs.length = ys.length → (∀ x ∈ xs, (Lit.int .u8 x).wf = true) → (∀ x ∈ ys, (Lit.int .u8 x).wf = true) → i < xs.length →
    (∀ j, j ≠ i → xs.getD j 0 = ys.getD j 0) → xs.getD i 0 ≠ ys.getD i 0 → crcL r xs ≠ crcL r ys := by
  intro xs
  induction xs with
  | nil => intro ys i r _ _ _ _ hi; exact absurd hi (by simp)
  | cons x xs ih =>
    intro ys i r hr hl hx hy hi hj hne h
    match ys, hl with
    | y :: ys, hl =>
      have wx := wfu8 (hx x (by simp))
      have wy := wfu8 (hy y (by simp))
      have hl2 : xs.length = ys.length := by simpa using hl
      cases i with
      | zero =>
        have e : xs = ys := by
          apply List.ext_getElem hl2
          intro j h1 h2
          have := hj (j + 1) (by omega)
          simpa [List.getD, h1, h2] using this
        subst e
        have h2 := crcL_inj (fun z hz => (wfu8 (hx z (by simp [hz]))).2) (byt_lt r x hr wx.2) (byt_lt r y hr wy.2) h
        exact hne (by simpa using byt_inj_x hr wx wy h2)
      | succ i =>
        have e : x = y := by simpa using hj 0 (by omega)
        subst e
        exact ih i (byt_lt r x hr wx.2) hl2 (fun z hz => hx z (by simp [hz])) (fun z hz => hy z (by simp [hz])) (by simpa using hi) (fun j hne2 => by simpa using hj (j + 1) (by omega)) (by simpa using hne) h
/-- a row of bytes with a right sum at its end, one byte turned: no right sum -/
theorem sd_turned {f : List Int} (hf : sd f = true) (h4 : 4 ≤ f.length) (hw : ∀ x ∈ f, (Lit.int .u8 x).wf = true) {i : Nat} (hi : i < f.length) {y : Int} (wy : (Lit.int .u8 y).wf = true) (hne : f.getD i 0 ≠ y) : sd (f.set i y) = false := by
  apply Bool.eq_false_iff.mpr
  intro hg
  unfold sd at hf hg
  have hf := of_decide_eq_true hf
  have hg := of_decide_eq_true hg
  rw [List.length_set] at hg
  have gw : ∀ x ∈ f.set i y, (Lit.int .u8 x).wf = true := fun x hx => by
    rcases List.mem_or_eq_of_mem_set hx with h1 | h1
    · exact hw x h1
    · rw [h1]; exact wy
  by_cases hin : i < f.length - 4
  · have hd : (f.set i y).drop (f.length - 4) = f.drop (f.length - 4) := List.drop_set_of_lt (by omega)
    rw [hd, hf] at hg
    have hs := be14_inj (csum_lt _) (csum_lt _) hg
    have l1 := crcL_lt (f.take (f.length - 4)) 4294967295 (by omega) (fun x hx => (wfu8 (hw x (List.mem_of_mem_take hx))).2)
    have l2 := crcL_lt ((f.set i y).take (f.length - 4)) 4294967295 (by omega) (fun x hx => (wfu8 (gw x (List.mem_of_mem_take hx))).2)
    unfold csum at hs
    have hlt : (f.take (f.length - 4)).length = f.length - 4 := by rw [List.length_take]; omega
    refine crc_one (xs := f.take (f.length - 4)) (ys := (f.set i y).take (f.length - 4)) i (r := 4294967295) (by omega) (by rw [List.length_take, List.length_take, List.length_set]) (fun x hx => hw x (List.mem_of_mem_take hx)) (fun x hx => gw x (List.mem_of_mem_take hx)) (by rw [hlt]; exact hin) (fun j hj => ?_) ?_ (by omega)
    · simp only [List.getD, List.getElem?_take, List.getElem?_set]
      by_cases h : j < f.length - 4
      · rw [if_pos h, if_pos h, if_neg (fun e => hj e.symm)]
      · rw [if_neg h, if_neg h]
    · intro e
      apply hne
      simp only [List.getD, List.getElem?_take, List.getElem?_set, if_pos hin, if_true, if_pos hi, Option.getD_some] at e
      simpa [List.getD] using e
  · have ht : (f.set i y).take (f.length - 4) = f.take (f.length - 4) := List.take_set_of_le (by omega)
    rw [ht, ← hf] at hg
    apply hne
    have := congrArg (fun z => z.getD (i - (f.length - 4)) 0) hg
    simp only [List.getD, List.getElem?_drop, List.getElem?_set, show f.length - 4 + (i - (f.length - 4)) = i by omega, if_true, if_pos hi, Option.getD_some] at this
    simpa [List.getD] using this.symm

/-! ### which frames bytes begin with -/

/-- bytes, the frames that they begin with, what is left -/
def SplitR : List Int → List (List Int) → List Int → Prop
  | xs, [], rest => rest = xs ∧ bg xs = false
  | xs, f :: fs, rest => bg xs = true ∧ f = xs.take (csz xs).1 ∧ SplitR (xs.drop (csz xs).1) fs rest
theorem SplitR.one : ∀ {xs : List Int} {fs gs : List (List Int)} {r s : List Int}, SplitR xs fs r → SplitR xs gs s → fs = gs ∧ r = s := by
  intro xs fs
  induction fs generalizing xs with
  | nil =>
    intro gs r s h h2
    cases gs with
    | nil => exact ⟨rfl, h.1.trans h2.1.symm⟩
    | cons g gs => exact absurd (h.2.symm.trans h2.1) (by simp)
  | cons f fs ih =>
    intro gs r s h h2
    cases gs with
    | nil => exact absurd (h2.2.symm.trans h.1) (by simp)
    | cons g gs =>
      obtain ⟨e1, e2⟩ := ih h.2.2 h2.2.2
      exact ⟨by rw [h.2.1, h2.2.1, e1], e2⟩
theorem SplitR.all : ∀ {xs : List Int} {fs : List (List Int)} {r : List Int}, SplitR xs fs r → xs = fs.flatten ++ r := by
  intro xs fs
  induction fs generalizing xs with
  | nil => intro r h; simpa using h.1.symm
  | cons f fs ih =>
    intro r h
    rw [List.flatten_cons, List.append_assoc, ← ih h.2.2, h.2.1, List.take_append_drop]
/-- a loop: what it found so far, what is still ahead -/
def SplitI (xs : List Int) (fs : List (List Int)) (ys : List Int) : Prop := xs = fs.flatten ++ ys ∧ ∀ gs r, SplitR ys gs r → SplitR xs (fs ++ gs) r
theorem SplitI.start (xs : List Int) : SplitI xs [] xs := ⟨rfl, fun gs r h => h⟩
theorem SplitI.step {xs : List Int} {fs : List (List Int)} {ys : List Int} (h : SplitI xs fs ys) (hb : bg ys = true) : SplitI xs (fs ++ [ys.take (csz ys).1]) (ys.drop (csz ys).1) := by
  refine ⟨by rw [h.1]; simp, fun gs r hg => ?_⟩
  rw [List.append_assoc]
  exact h.2 _ _ ⟨hb, rfl, hg⟩
theorem SplitI.fin {xs : List Int} {fs : List (List Int)} {ys : List Int} (h : SplitI xs fs ys) (hb : bg ys = false) : SplitR xs fs ys := by
  have := h.2 [] ys ⟨rfl, hb⟩
  rwa [List.append_nil] at this
/-- frames one behind the other are found -/
theorem splitR_frms : ∀ {fs : List (List Int)} {tail r : List Int} {gs : List (List Int)}, (∀ f ∈ fs, ∃ k body, f = frm k body ∧ body.length ≤ 1048576) → SplitR (fs.flatten ++ tail) gs r → fs.length ≤ gs.length := by
  intro fs
  induction fs with
  | nil => intro tail r gs _ _; simp
  | cons f fs ih =>
    intro tail r gs hf h
    obtain ⟨k, body, rfl, hl⟩ := hf f (by simp)
    rw [List.flatten_cons, List.append_assoc] at h
    have hb := bg_frm (k := k) (body := body) (fs.flatten ++ tail) hl
    cases gs with
    | nil => exact absurd (h.2.symm.trans hb) (by simp)
    | cons g gs =>
      have h3 := h.2.2
      rw [csz_frm _ hl, List.drop_left' (frm_len k body)] at h3
      have := ih (fun g hg => hf g (by simp [hg])) h3
      simpa using this
theorem bg_len {xs : List Int} (h : bg xs = true) : (csz xs).2 = 0 ∧ 12 ≤ (csz xs).1 ∧ (csz xs).1 ≤ xs.length ∧ (csz xs).1 ≤ 1048588 := by
  unfold bg at h
  have h1 : (csz xs).2 = 0 := of_decide_eq_true (Bool.and_eq_true_iff.mp h).1
  exact ⟨h1, csz_le h1⟩
/-- where the frames end -/
def ends14 (fs : List (List Int)) : List Int := (List.range fs.length).map fun i => (((fs.take (i + 1)).flatten.length : Nat) : Int)
theorem ends_len (fs : List (List Int)) : (ends14 fs).length = fs.length := by simp [ends14]
theorem ends_at (fs : List (List Int)) {i : Nat} (hi : i < fs.length) : (ends14 fs).getD i 0 = ((fs.take (i + 1)).flatten.length : Nat) := by simp [ends14, List.getD, hi]
theorem ends_snoc (fs : List (List Int)) (f : List Int) : ends14 (fs ++ [f]) = ends14 fs ++ [(((fs ++ [f]).flatten.length : Nat) : Int)] := by
  unfold ends14
  rw [List.length_append, List.length_singleton, List.range_succ, List.map_append]
  congr 1
  · apply List.map_congr_left
    intro i hi
    rw [List.take_append_of_le_length (by have := List.mem_range.1 hi; omega)]
  · simp only [List.map_cons, List.map_nil]
    rw [List.take_of_length_le (by simp)]
/-- frame i, cut out of all bytes -/
theorem flat_cut (fs : List (List Int)) (r : List Int) {i : Nat} (hi : i < fs.length) : ((fs.flatten ++ r).take (fs.take (i + 1)).flatten.length).drop (fs.take i).flatten.length = fs.getD i [] := by
  have e1 : fs.flatten ++ r = (fs.take (i + 1)).flatten ++ ((fs.drop (i + 1)).flatten ++ r) := by
    rw [← List.append_assoc, ← List.flatten_append, List.take_append_drop]
  rw [e1, List.take_left]
  rw [List.take_add_one, List.flatten_append, List.drop_left]
  simp [List.getD, hi]

end Go.Proofs.Ytobogkilkmnpmaa
