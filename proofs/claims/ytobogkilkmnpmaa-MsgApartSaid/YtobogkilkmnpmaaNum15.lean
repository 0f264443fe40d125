/-
  Numbers in so many bytes, the greatest first; a message's body, in plain mathematics.
-/
import Derived.Test.YtobogkilkmnpmaaMath15
namespace Go.Proofs.Ytobogkilkmnpmaa
open Go.RowKit
set_option linter.unusedVariables false

/-- a number in s bytes, the greatest first -/
def beS (s N : Nat) : List Int := (List.range s).map fun i => ((N / 2 ^ (8 * (s - 1 - i)) % 256 : Nat) : Int)
/-- bytes as a number -/
def valS (xs : List Int) : Nat := xs.foldl (fun a x => a * 256 + x.toNat) 0
theorem beS_len (s N : Nat) : (beS s N).length = s := by simp [beS]
theorem beS_wf (s N : Nat) : ∀ x ∈ beS s N, (Lit.int .u8 x).wf = true := by
  intro x hx
  obtain ⟨i, _, rfl⟩ := List.mem_map.1 hx
  exact b14_wf _ (by omega) (by omega)
theorem beS_step {s k : Nat} (N : Nat) (hk : k < s) : (beS s N).take (k + 1) = (beS s N).take k ++ [((N / 2 ^ (8 * (s - 1 - k)) % 256 : Nat) : Int)] := by
  rw [List.take_add_one]
  congr 1
  simp [beS, hk]
theorem beS_succ (s N : Nat) : beS (s + 1) N = beS s (N / 256) ++ [((N % 256 : Nat) : Int)] := by
  unfold beS
  rw [List.range_succ, List.map_append]
  congr 1
  · apply List.map_congr_left
    intro i hi
    have hi := List.mem_range.1 hi
    congr 2
    rw [Nat.div_div_eq_div_mul, show 8 * (s + 1 - 1 - i) = 8 + 8 * (s - 1 - i) by omega, Nat.pow_add]
  · simp
theorem valS_snoc (xs : List Int) (x : Int) : valS (xs ++ [x]) = valS xs * 256 + x.toNat := by simp [valS]
theorem valS_beS : ∀ (s N : Nat), N < 256 ^ s → valS (beS s N) = N := by
  intro s
  induction s with
  | zero => intro N h; simp only [Nat.pow_zero] at h; have : N = 0 := by omega
            subst this; rfl
  | succ s ih =>
    intro N h
    rw [Nat.pow_succ] at h
    rw [beS_succ, valS_snoc, ih (N / 256) (by omega), Int.toNat_natCast]
    omega
theorem snoc_cases {α : Type} (xs : List α) (n : Nat) (h : xs.length = n + 1) : ∃ ys y, xs = ys ++ [y] ∧ ys.length = n := by
  have hne : xs ≠ [] := fun e => by rw [e] at h; cases h
  refine ⟨xs.dropLast, xs.getLast hne, (List.dropLast_concat_getLast hne).symm, ?_⟩
  rw [List.length_dropLast, h]; rfl
theorem valS_lt : ∀ (s : Nat) (xs : List Int), xs.length = s → (∀ x ∈ xs, (Lit.int .u8 x).wf = true) → valS xs < 256 ^ s := by
  intro s
  induction s with
  | zero => intro xs h _; obtain rfl := List.eq_nil_of_length_eq_zero h; decide
  | succ s ih =>
    intro xs h hw
    obtain ⟨ys, y, rfl, hl⟩ := snoc_cases xs s h
    have h1 := ih ys hl (fun x hx => hw x (by simp [hx]))
    have h2 := wfu8 (hw y (by simp))
    rw [valS_snoc, Nat.pow_succ]
    omega
theorem beS_valS : ∀ (s : Nat) (xs : List Int), xs.length = s → (∀ x ∈ xs, (Lit.int .u8 x).wf = true) → beS s (valS xs) = xs := by
  intro s
  induction s with
  | zero => intro xs h _; obtain rfl := List.eq_nil_of_length_eq_zero h; rfl
  | succ s ih =>
    intro xs h hw
    obtain ⟨ys, y, rfl, hl⟩ := snoc_cases xs s h
    have h2 := wfu8 (hw y (by simp))
    rw [valS_snoc, beS_succ, show (valS ys * 256 + y.toNat) / 256 = valS ys by omega, ih ys hl (fun x hx => hw x (by simp [hx]))]
    congr 2
    omega
theorem beS_inj {s a b : Nat} (ha : a < 256 ^ s) (hb : b < 256 ^ s) (h : beS s a = beS s b) : a = b := by
  have := congrArg valS h
  rwa [valS_beS s a ha, valS_beS s b hb] at this

/-- a number of 32 bits, as one that is not below 0 -/
def u32n (z : Int) : Nat := (z % 4294967296).toNat
theorem u32_lt (z : Int) : u32n z < 4294967296 := by unfold u32n; omega
theorem u32_inj {y z : Int} (hy : (Lit.int .i32 y).wf = true) (hz : (Lit.int .i32 z).wf = true) (h : u32n y = u32n z) : y = z := by
  have := wf32 hy
  have := wf32 hz
  unfold u32n at h
  omega
/-- the numbers' bytes -/
def numsL (F : Nat) (x : Ms15) (j : Nat) : List Int := (List.range j).flatMap fun i => if F.testBit i then beS 5 (x.num i).toNat else []
/-- the list's bytes -/
def itemsL (zs : List Int) : List Int := zs.flatMap fun z => beS 4 (u32n z)
/-- a message's body -/
def bodyM (F : Nat) (x : Ms15) : List Int := numsL F x 7 ++ if F.testBit 7 then beS 2 x.li.n ++ itemsL x.li.v else []
theorem numsL_step (F : Nat) (x : Ms15) (j : Nat) : numsL F x (j + 1) = numsL F x j ++ if F.testBit j then beS 5 (x.num j).toNat else [] := by
  unfold numsL
  rw [List.range_succ, List.flatMap_append]
  simp
theorem numsL_wf (F : Nat) (x : Ms15) (j : Nat) : ∀ y ∈ numsL F x j, (Lit.int .u8 y).wf = true := by
  intro y hy
  obtain ⟨i, _, hi⟩ := List.mem_flatMap.1 hy
  split at hi
  · exact beS_wf _ _ y hi
  · cases hi
theorem itemsL_wf (zs : List Int) : ∀ y ∈ itemsL zs, (Lit.int .u8 y).wf = true := by
  intro y hy
  obtain ⟨i, _, hi⟩ := List.mem_flatMap.1 hy
  exact beS_wf _ _ y hi
theorem bodyM_wf (F : Nat) (x : Ms15) : ∀ y ∈ bodyM F x, (Lit.int .u8 y).wf = true := by
  intro y hy
  unfold bodyM at hy
  rcases List.mem_append.1 hy with h | h
  · exact numsL_wf _ _ _ y h
  · split at h
    · rcases List.mem_append.1 h with h | h
      · exact beS_wf _ _ y h
      · exact itemsL_wf _ y h
    · cases h
theorem numsL_len (F : Nat) (x : Ms15) : ∀ j, (numsL F x j).length ≤ 5 * j := by
  intro j
  induction j with
  | zero => simp [numsL]
  | succ j ih =>
    rw [numsL_step, List.length_append]
    split
    · rw [beS_len]; omega
    · simp only [List.length_nil]; omega
theorem itemsL_len (zs : List Int) : (itemsL zs).length = 4 * zs.length := by
  induction zs with
  | nil => rfl
  | cons z zs ih => unfold itemsL at ih ⊢; rw [List.flatMap_cons, List.length_append, beS_len, ih, List.length_cons]; omega
theorem itemsL_step (zs : List Int) (k : Nat) (hk : k < zs.length) : itemsL (zs.take (k + 1)) = itemsL (zs.take k) ++ beS 4 (u32n (zs.getD k 0)) := by
  unfold itemsL
  rw [List.take_add_one, List.flatMap_append]
  simp [List.getD, List.getElem?_eq_getElem hk]

end Go.Proofs.Ytobogkilkmnpmaa
