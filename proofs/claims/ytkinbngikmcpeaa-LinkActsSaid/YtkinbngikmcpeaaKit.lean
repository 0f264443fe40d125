/-
  The kit of these texts, of no stage: the nearest number of a range; a number shifted down to the nearest; slices of integers that read as lists, how they are kept over new memory, and rows that a call makes or grows; sums, wrapped.
-/
import Derived.Test.YtkinbngikmcpeaaProg
import Derived.WalkKit
import Derived.WalkLawsBesides
import Derived.WalkSpells
import Derived.BigQuiet
import Derived.Deep.QuietTactic
import Derived.Outline
import Derived.Lib.Hide
import Derived.Below
import Derived.DataReads
import Derived.Deep.Draws
import Derived.Deep.OwnRows
import Derived.OwnWalk
import Derived.WalkSmall
import Derived.RowKit3
import Derived.Deep.AppendLies
namespace Go.Proofs.Ytkinbngikmcpeaa
open Go.RowKit
set_option linter.unusedVariables false


/-- the number of [lo, hi] nearest to x -/
def near (x lo hi : Int) : Int := if x < lo then lo else if hi < x then hi else x

theorem ret_int {k : IntKind} {a b : Int} (h : a = b) : Ending.returned (.int k a) = .returned (.int k b) := by rw [h]

theorem ret_bool {a b : Bool} (h : a = b) : Ending.returned (.bool a) = .returned (.bool b) := by rw [h]

theorem near_in (x lo hi : Int) (h : lo ≤ hi) : lo ≤ near x lo hi ∧ near x lo hi ≤ hi := by unfold near; split <;> (try split) <;> omega

/-! ### plain mathematics -/

/-- x divided by P to the nearest, of two the even one -/
def half (x P : Int) : Int := if P - x % P < x % P ∨ (x % P = P - x % P ∧ x / P % 2 = 1) then x / P + 1 else x / P
/-- x shifted down by n -/
def shr (x n : Int) : Int := if near n 0 62 = 0 then x else half x (2 ^ (near n 0 62).toNat)

theorem pow_bounds (m : Int) (h0 : 0 ≤ m) (h : m ≤ 62) : (1 : Int) ≤ 2 ^ m.toNat ∧ (2 : Int) ^ m.toNat ≤ 4611686018427387904 := by
  have hk : m.toNat ≤ 62 := by omega
  generalize m.toNat = k at hk
  constructor
  · exact Int.pow_pos (by decide)
  · have : (2 : Nat) ^ k ≤ 2 ^ 62 := Nat.pow_le_pow_right (by decide) hk
    have h2 : ((2 : Int) ^ k) = ((2 ^ k : Nat) : Int) := by simp
    rw [h2]; have : (2 : Nat) ^ 62 = 4611686018427387904 := by decide
    omega

theorem pow_half (m : Int) (h0 : 1 ≤ m) : (2 : Int) ^ m.toNat = 2 * 2 ^ (m.toNat - 1) := by
  obtain ⟨k, hk⟩ : ∃ k, m.toNat = k + 1 := ⟨m.toNat - 1, by omega⟩
  rw [hk, Int.pow_succ, Nat.add_sub_cancel]; omega

theorem and_mask (x : Int) (k : Nat) (hk : k ≤ 62) : bits .and .i64 x (2 ^ k - 1) = x % 2 ^ k := by
  have hp : (2 : Nat) ^ k ≤ 2 ^ 62 := Nat.pow_le_pow_right (by decide) hk
  have hp' : (2 : Nat) ^ 62 = 4611686018427387904 := by decide
  have h1 : 1 ≤ (2 : Nat) ^ k := Nat.two_pow_pos k
  have e2 : (2 : Int) ^ k = ((2 ^ k : Nat) : Int) := by simp
  have ea : (BitVec.ofInt 64 x).toNat = (x % 18446744073709551616).toNat := by simp [BitVec.toNat_ofInt]
  have eb : (BitVec.ofInt 64 (2 ^ k - 1)).toNat = 2 ^ k - 1 := by
    rw [BitVec.toNat_ofInt, e2]
    have : ((2 ^ k : Nat) : Int) - 1 = ((2 ^ k - 1 : Nat) : Int) := by omega
    rw [this]
    have h3 : (((2 ^ k - 1 : Nat) : Int) % ((2 ^ 64 : Nat) : Int)) = ((2 ^ k - 1 : Nat) : Int) := by
      apply Int.emod_eq_of_lt (by omega)
      have : (2 : Nat) ^ 64 = 18446744073709551616 := by decide
      omega
    rw [h3, Int.toNat_natCast]
  have hb : bits .and .i64 x (2 ^ k - 1) = IntKind.i64.wrap (((BitVec.ofInt 64 x) &&& (BitVec.ofInt 64 (2 ^ k - 1))).toNat : Nat) := rfl
  rw [hb, BitVec.toNat_and, ea, eb, Nat.and_two_pow_sub_one_eq_mod]
  have hd : ((2 ^ k : Nat) : Int) ∣ 18446744073709551616 := by
    have : (2 : Nat) ^ k ∣ 2 ^ 64 := Nat.pow_dvd_pow 2 (by omega)
    exact Int.natCast_dvd_natCast.mpr this
  have hm : (((x % 18446744073709551616).toNat % 2 ^ k : Nat) : Int) = x % 2 ^ k := by
    rw [e2, Int.natCast_emod, Int.toNat_of_nonneg (Int.emod_nonneg _ (by decide)), Int.emod_emod_of_dvd _ hd]
  rw [hm, e2]
  have hl := Int.emod_nonneg x (b := ((2 ^ k : Nat) : Int)) (by omega)
  have hu := Int.emod_lt_of_pos x (b := ((2 ^ k : Nat) : Int)) (by omega)
  exact IntWalk.i64_in _ ⟨by omega, by omega⟩

theorem and_one (x : Int) : bits .and .i64 x 1 = x % 2 := by
  have := and_mask x 1 (by decide)
  simpa using this

theorem quo_bounds (x P : Int) (h1 : -9223372036854775808 ≤ x) (h2 : x ≤ 9223372036854775807) (hP : 2 ≤ P) : -4611686018427387904 ≤ x / P ∧ x / P ≤ 4611686018427387903 := by
  constructor
  · exact Int.le_ediv_of_mul_le (by omega) (by have := Int.mul_le_mul_of_nonpos_left (a := -4611686018427387904) (by decide) hP; omega)
  · have : x / P < 4611686018427387904 := Int.ediv_lt_of_lt_mul (by omega) (by have := Int.mul_le_mul_of_nonneg_left hP (show (0 : Int) ≤ 4611686018427387904 by decide); omega)
    omega

theorem tdiv_neg_ne (x p : Int) (hx : x < 0) (hp : 1 ≤ p) (hr : x % p ≠ 0) : x.tdiv p = x / p + 1 ∧ x.tmod p = x % p - p := by
  have h1 : x.tdiv p = x / p + 1 := by
    rw [Int.tdiv_eq_ediv]
    have : ¬ (0 ≤ x ∨ p ∣ x) := by
      intro h; rcases h with h | h
      · omega
      · exact hr (Int.emod_eq_zero_of_dvd h)
    rw [if_neg this, Int.sign_eq_one_of_pos (by omega)]
  refine ⟨h1, ?_⟩
  have h2 := Int.tmod_add_mul_tdiv x p
  have h3 := Int.emod_add_mul_ediv x p
  rw [h1, Int.mul_add] at h2
  omega

theorem tdiv_neg_eq (x p : Int) (hr : x % p = 0) : x.tdiv p = x / p ∧ x.tmod p = 0 := by
  have hd : p ∣ x := Int.dvd_of_emod_eq_zero hr
  refine ⟨?_, Int.tmod_eq_zero_of_dvd hd⟩
  rw [Int.tdiv_eq_ediv_of_dvd hd]

theorem tmod_two (q : Int) : (q.tmod 2 != 0) = decide (q % 2 = 1) := by
  have h : q.tmod 2 = 0 ↔ q % 2 = 0 := by
    rcases Int.le_total 0 q with h | h
    · rw [Int.tmod_eq_emod_of_nonneg h]
    · have h1 := Int.neg_tmod q 2
      have h2 := Int.tmod_eq_emod_of_nonneg (a := -q) (b := 2) (by omega)
      omega
  by_cases c : q % 2 = 1
  · rw [decide_eq_true c]
    simp only [bne_iff_ne]
    omega
  · have : q.tmod 2 = 0 := h.mpr (by omega)
    rw [this, decide_eq_false c]; rfl

theorem hid62 {p : Int} (h : p = 2 ^ 62) : Hid ((4611686018427387904 : Int) = p) := by
  have : (2 : Int) ^ 62 = 4611686018427387904 := by decide
  exact Lib.hid (by omega)


theorem val_int {k : IntKind} {a b : Int} (h : a = b) : Value.int k a = Value.int k b := by rw [h]

/-- two stretches behind one another, each of which leaves alone what it found -/
theorem below_two {w a b : World} (h1 : Below w.heap.size w a) (h2 : Below a.heap.size a b) : Below w.heap.size w b := h1.trans (h2.mono h1.size)

/-- The slice at a with n elements of kind k reads as xs in w (a matters only where n is above 0). -/
def Elems (k : IntKind) (w : World) (a : Option Addr) (n : Nat) (xs : List Int) : Prop :=
  xs.length = n ∧ n ≤ 9223372036854775807 ∧ (∀ x ∈ xs, (Lit.int k x).wf = true) ∧
    (0 < n → ∃ b off, a = some ⟨b, off, none⟩ ∧ ∀ i, i < n → w.cell? ⟨b, off + i, none⟩ = some (.int k (xs.getD i 0)))

theorem Elems.nil_ (k : IntKind) (w : World) (a : Option Addr) : Elems k w a 0 [] := ⟨rfl, by omega, by simp, fun h => absurd h (by omega)⟩

theorem Elems.below {k : IntKind} {w w' : World} {a : Option Addr} {n : Nat} {xs : List Int} (h : Elems k w a n xs) (hb : Below w.heap.size w w') : Elems k w' a n xs := by
  refine ⟨h.1, h.2.1, h.2.2.1, fun hn => ?_⟩
  obtain ⟨b, off, rfl, hc⟩ := h.2.2.2 hn
  exact ⟨b, off, rfl, fun i hi => (hb.cell (p := ⟨b, off + i, none⟩) (World.block_lt_of_cell? _ _ (hc i hi))).trans (hc i hi)⟩

theorem Elems.drewN {k : IntKind} {w : World} {a : Option Addr} {n : Nat} {xs : List Int} (h : Elems k w a n xs) (d : Nat) : Elems k (w.drewN d) a n xs := h

/-- the first m elements, and those from m on -/
theorem Elems.take {k : IntKind} {w : World} {a : Option Addr} {n : Nat} {xs : List Int} (h : Elems k w a n xs) (m : Nat) (hm : m ≤ n) : Elems k w a m (xs.take m) := by
  refine ⟨by rw [List.length_take, h.1]; omega, by have := h.2.1; omega, fun x hx => h.2.2.1 x (List.mem_of_mem_take hx), fun hn => ?_⟩
  obtain ⟨b, off, rfl, hc⟩ := h.2.2.2 (by omega)
  refine ⟨b, off, rfl, fun i hi => ?_⟩
  rw [hc i (by omega)]
  simp [List.getD, hi]

theorem Elems.drop {k : IntKind} {w : World} {b off n : Nat} {xs : List Int} (h : Elems k w (some ⟨b, off, none⟩) n xs) (m : Nat) (hm : m ≤ n) : Elems k w (some ⟨b, off + m, none⟩) (n - m) (xs.drop m) := by
  refine ⟨by rw [List.length_drop, h.1], by have := h.2.1; omega, fun x hx => h.2.2.1 x (List.mem_of_mem_drop hx), fun hn => ?_⟩
  obtain ⟨b', off', he, hc⟩ := h.2.2.2 (by omega)
  simp only [Option.some.injEq, Addr.mk.injEq] at he
  obtain ⟨rfl, rfl, _⟩ := he
  refine ⟨b, off + m, rfl, fun i hi => ?_⟩
  rw [show off + m + i = off + (m + i) by omega, hc (m + i) (by omega)]
  simp [List.getD, List.getElem?_drop]

/-- what 's[lo:]' leads to, where the capacity is not used up -/
theorem Elems.cut {k : IntKind} {w : World} {a : Option Addr} {n : Nat} {xs : List Int} (h : Elems k w a n xs) (m : Nat) (hm : m ≤ n) : Elems k w (a.map (fun x => x.add m)) (n - m) (xs.drop m) := by
  refine ⟨by rw [List.length_drop, h.1], by have := h.2.1; omega, fun x hx => h.2.2.1 x (List.mem_of_mem_drop hx), fun hn => ?_⟩
  obtain ⟨b, off, rfl, hc⟩ := h.2.2.2 (by omega)
  refine ⟨b, off + m, ?_, fun i hi => ?_⟩
  · simp only [Option.map_some, Addr.add]
    split
    · rename_i e; subst e; rfl
    · rfl
  · rw [show off + m + i = off + (m + i) by omega, hc (m + i) (by omega)]
    simp [List.getD, List.getElem?_drop]
theorem Elems.empty {k : IntKind} {w : World} {n : Nat} {xs : List Int} (a : Option Addr) (h : xs.length = n) (hn : n = 0) : Elems k w a n xs := by
  subst hn
  obtain rfl : xs = [] := List.length_eq_zero_iff.1 h
  exact Elems.nil_ k w a

theorem pair_elems {k : IntKind} {w : World} {g : Nat} {p q : Int} (h0 : w.cell? ⟨g, 0, none⟩ = some (.int k p)) (h1 : w.cell? ⟨g, 1, none⟩ = some (.int k q)) (wp : (Lit.int k p).wf = true) (wq : (Lit.int k q).wf = true) :
    Elems k w (some ⟨g, 0, none⟩) 2 [p, q] := by
  refine ⟨rfl, by omega, ?_, fun _ => ⟨g, 0, rfl, fun i hi => ?_⟩⟩
  · intro x hx
    simp only [List.mem_cons, List.not_mem_nil, or_false] at hx
    rcases hx with rfl | rfl
    · exact wp
    · exact wq
  · match i, hi with
    | 0, _ => exact h0
    | 1, _ => exact h1

theorem getD_mem {xs : List Int} {i : Nat} (h : i < xs.length) : xs.getD i 0 ∈ xs := by
  rw [List.getD_eq_getElem?_getD, List.getElem?_eq_getElem h]; exact List.getElem_mem h

/-- One element, as a round of a loop wants it. -/
theorem Elems.at_ {k : IntKind} {w : World} {a : Option Addr} {n : Nat} {xs : List Int} (h : Elems k w a n xs) {i : Nat} (hi : i < n) :
    ∃ b off v, a = some ⟨b, off, none⟩ ∧ w.cell? ⟨b, off + i, none⟩ = some (.int k v) ∧ Hid (xs.getD i 0 = v) ∧ (Lit.int k v).wf = true := by
  obtain ⟨b, off, rfl, hc⟩ := h.2.2.2 (by omega)
  exact ⟨b, off, _, rfl, hc i hi, Lib.hid rfl, h.2.2.1 _ (getD_mem (by rw [h.1]; exact hi))⟩

/-- What the shell's walk is told of a slice that came in, as a list. -/
theorem elems_of_row {k : IntKind} {w : World} {a : Option Addr} {len cap : Nat} {zs : List Int}
    (h : (a = none ∧ len = 0 ∧ cap = 0 ∧ zs = []) ∨ ∃ x, a = some x ∧ len ≤ cap ∧ cap ≤ maxLen ∧ zs.length = cap ∧ (∀ i, i < zs.length → w.cell? (x.add i) = some (.int k (zs.getD i 0))) ∧ ∀ n ∈ zs, (Lit.int k n).wf = true) :
    (∃ xs, Elems k w a len xs) ∧ len ≤ cap ∧ cap ≤ 9223372036854775807 := by
  rcases h with ⟨rfl, rfl, rfl, _⟩ | ⟨x, rfl, hl, hm, hz, hc, hw⟩
  · exact ⟨⟨[], Elems.nil_ k w none⟩, by omega, by omega⟩
  · unfold maxLen at hm
    refine ⟨?_, hl, by omega⟩
    by_cases h0 : len = 0
    · subst h0; exact ⟨[], Elems.nil_ k w (some x)⟩
    · obtain ⟨b, off, spot⟩ := x
      have hs : spot = none := by simpa [Addr.add] using World.cell?_spot (hc 0 (by omega))
      subst hs
      have hE : Elems k w (some ⟨b, off, none⟩) cap zs := by
        refine ⟨hz, by omega, hw, fun _ => ⟨b, off, rfl, fun i hi => ?_⟩⟩
        have := hc i (by omega)
        unfold Addr.add at this
        split at this
        · rename_i e; subst e; exact this
        · exact this
      exact ⟨_, hE.take len hl⟩

theorem rest9 (n : Int) : -8 ≤ n.tmod 9 ∧ n.tmod 9 ≤ 8 := by
  rcases Int.le_total 0 n with h | h
  · have := Int.tmod_eq_emod_of_nonneg (b := 9) h; omega
  · have h1 := Int.neg_tmod n 9
    have h2 := Int.tmod_eq_emod_of_nonneg (a := -n) (b := 9) (by omega)
    omega
/-- a rest by a number above 0 that is not known -/
theorem rest_by (n m : Int) (hm : 1 ≤ m) : -m < n.tmod m ∧ n.tmod m < m := by
  rcases Int.le_total 0 n with h | h
  · rw [Int.tmod_eq_emod_of_nonneg h]
    have := Int.emod_nonneg n (b := m) (by omega); have := Int.emod_lt_of_pos n (b := m) (by omega); omega
  · have h1 := Int.neg_tmod n m
    have h2 := Int.tmod_eq_emod_of_nonneg (a := -n) (b := m) (by omega)
    have := Int.emod_nonneg (-n) (b := m) (by omega); have := Int.emod_lt_of_pos (-n) (b := m) (by omega); omega

theorem wf8 {n : Int} (h : (Lit.int .i8 n).wf = true) : -128 ≤ n ∧ n ≤ 127 := by
  simp [Lit.wf, IntKind.min, IntKind.max, IntKind.signed, IntKind.bits] at h; omega
theorem wf32 {n : Int} (h : (Lit.int .i32 n).wf = true) : -2147483648 ≤ n ∧ n ≤ 2147483647 := by
  simp [Lit.wf, IntKind.min, IntKind.max, IntKind.signed, IntKind.bits] at h; omega
theorem wfu64 {n : Int} (h : (Lit.int .u64 n).wf = true) : 0 ≤ n ∧ n ≤ 18446744073709551615 := by
  simp [Lit.wf, IntKind.min, IntKind.max, IntKind.signed, IntKind.bits] at h; omega
theorem wfu32 {n : Int} (h : (Lit.int .u32 n).wf = true) : 0 ≤ n ∧ n ≤ 4294967295 := by
  simp [Lit.wf, IntKind.min, IntKind.max, IntKind.signed, IntKind.bits] at h; omega
theorem wf64 {n : Int} (h : (Lit.int .i64 n).wf = true) : -9223372036854775808 ≤ n ∧ n ≤ 9223372036854775807 := by
  simp [Lit.wf, IntKind.min, IntKind.max, IntKind.signed, IntKind.bits] at h; omega

/-- the sum of the first numbers, one more -/
theorem sum_step (xs : List Int) (k : Nat) (hk : k < xs.length) : (xs.take (k + 1)).sum = (xs.take k).sum + xs.getD k 0 := by
  rw [List.take_add_one, List.sum_append]
  simp [List.getD, List.getElem?_eq_getElem hk]
theorem sum_all (xs : List Int) (k : Nat) (hk : xs.length ≤ k) : xs.take k = xs := List.take_of_length_le hk

theorem sum_cut (xs : List Int) (k m : Nat) : (xs.take (k + m)).sum = (xs.take k).sum + ((xs.drop k).take m).sum := by
  rw [List.take_add, List.sum_append]
theorem sum_rest (xs : List Int) (k : Nat) : xs.sum = (xs.take k).sum + (xs.drop k).sum := by
  rw [← List.sum_append, List.take_append_drop]

/-- a sum of whole numbers, wrapped to 32 bits -/
def wsum (xs : List Int) : Int := wrap32 xs.sum

theorem wrap32_bd (x : Int) : -2147483648 ≤ wrap32 x ∧ wrap32 x ≤ 2147483647 := by unfold wrap32; omega
theorem wrap32_in (x : Int) (h : -2147483648 ≤ x ∧ x ≤ 2147483647) : wrap32 x = x := by unfold wrap32; omega
theorem wrap64_bd (x : Int) : -9223372036854775808 ≤ wrap64 x ∧ wrap64 x ≤ 9223372036854775807 := by unfold wrap64; omega
theorem wrap32_wrap64 (x : Int) : wrap32 (wrap64 x) = wrap32 x := by unfold wrap32 wrap64; omega
theorem wrap64_add (x y : Int) : wrap64 (wrap64 x + y) = wrap64 (x + y) := by unfold wrap64; omega
theorem wrap32_add (x y : Int) : wrap32 (wrap32 x + y) = wrap32 (x + y) := by unfold wrap32; omega
theorem wsum_wf (xs : List Int) : (Lit.int .i32 (wsum xs)).wf = true := wrap32_wf _
theorem wrap32_add2 (x y : Int) : wrap32 (wrap32 x + wrap32 y) = wrap32 (x + y) := by unfold wrap32; omega

theorem own_form {k : IntKind} {w : World} {base : Nat} {e : TypeId} {v : Value} {n : Nat} {cs : List Int} (h : w.ownsRow base e 1 v n (cs.map (.int k)))
    (hn : n ≤ 9223372036854775807) (hw : ∀ c ∈ cs, (Lit.int k c).wf = true) : ∃ a cap, v = .slice a n cap ∧ Elems k w a n cs := by
  have hl : cs.length = n := by have := h.1; simpa using this
  rcases h.2 with ⟨rfl, rfl⟩ | ⟨g, cap, cur, rfl, hb, hg, hnc, hcm, hcs, ht⟩
  · exact ⟨none, 0, rfl, by obtain rfl : cs = [] := List.length_eq_zero_iff.1 hl
                            exact Elems.nil_ _ _ _⟩
  · refine ⟨some ⟨g, 0, none⟩, cap, rfl, hl, hn, hw, fun _ => ⟨g, 0, rfl, fun i hi => ?_⟩⟩
    rw [Nat.zero_add, h.cellAt i (by omega), List.getElem?_map, List.getD_eq_getElem?_getD, List.getElem?_eq_getElem (by omega)]
    rfl

theorem own_nil (w : World) (base : Nat) (e : TypeId) : w.ownsRow base e 1 (.slice none 0 0) 0 [] := ⟨rfl, .inl ⟨rfl, rfl⟩⟩

theorem info_int64 : (Try.prog.info? 2).map (fun i => (i.zero, i.size, i.bytes)) = some (some (.int .i64 0), 1, 8) := by kernel_rfl
theorem info_int32 : (Try.prog.info? 21).map (fun i => (i.zero, i.size, i.bytes)) = some (some (.int .i32 0), 1, 4) := by kernel_rfl

theorem one_cell {k : IntKind} {v : Int} : ∀ u ∈ [Value.int k v], u.oneCell' = true := by
  intro u hu; simp only [List.mem_singleton] at hu; subst hu; rfl

/-- behind an append onto a row of the call's own (or nil) -/
theorem own_lt {w : World} {base : Nat} {e : TypeId} {v : Value} {n : Nat} {xs : List Value} (h : w.ownsRow base e 1 v n xs) : ∀ k, v.ownBlock = some k → base ≤ k := fun k hk => (h.lt k hk).1

theorem take_map_snoc (f : Int → Value) (xs : List Int) (k : Nat) (hk : k < xs.length) : (xs.take k).map f ++ [f (xs.getD k 0)] = (xs.take (k + 1)).map f := by
  rw [List.take_add_one, List.map_append]
  simp [List.getD, List.getElem?_eq_getElem hk]

/-- one group more -/
theorem own_elems {k : IntKind} {w : World} {base : Nat} {e : TypeId} {g n cap : Nat} {cs : List Int} (h : w.ownsRow base e 1 (.slice (some ⟨g, 0, none⟩) n cap) n (cs.map (.int k)))
    (hn : n ≤ 9223372036854775807) (hw : ∀ c ∈ cs, (Lit.int k c).wf = true) : Elems k w (some ⟨g, 0, none⟩) n cs := by
  have hl : cs.length = n := by have := h.1; simpa using this
  refine ⟨hl, hn, hw, fun _ => ⟨g, 0, rfl, fun i hi => ?_⟩⟩
  rw [Nat.zero_add, h.cellAt i (by omega), List.getElem?_map, List.getD_eq_getElem?_getD, List.getElem?_eq_getElem (by omega)]
  rfl


/-- k of the n numbers are written (number i is f i), the rest is 0 -/
def FilledBy (f : Nat → Int) (n k : Nat) (cs : List Int) : Prop := cs.length = n ∧ ∀ i, i < n → cs.getD i 0 = if i < k then f i else 0

theorem filledBy_start (f : Nat → Int) (n : Nat) : FilledBy f n 0 (List.replicate n 0) := by
  refine ⟨by simp, fun i hi => ?_⟩
  rw [if_neg (by omega), List.getD_eq_getElem?_getD, List.getElem?_replicate, if_pos hi]; rfl
theorem filledBy_step {f : Nat → Int} {n k : Nat} {cs : List Int} (h : FilledBy f n k cs) (hk : k < n) : FilledBy f n (k + 1) (cs.set k (f k)) := by
  refine ⟨by simpa using h.1, fun i hi => ?_⟩
  rw [List.getD_eq_getElem?_getD, List.getElem?_set]
  by_cases e : k = i
  · subst e
    rw [if_pos rfl, if_pos (by rw [h.1]; exact hk), if_pos (by omega)]; rfl
  · rw [if_neg e, ← List.getD_eq_getElem?_getD, h.2 i hi]
    by_cases h2 : i < k
    · rw [if_pos h2, if_pos (by omega)]
    · rw [if_neg h2, if_neg (by omega)]
theorem filledBy_end {f : Nat → Int} {n : Nat} {cs xs : List Int} {g : Int → Int} (h : FilledBy f n n cs) (hx : xs.length = n) (hf : ∀ i, i < n → f i = g (xs.getD i 0)) : cs = xs.map g := by
  apply List.ext_getElem (by rw [h.1, List.length_map, hx])
  intro i h1 h2
  have h3 := h.2 i (by rw [← h.1]; exact h1)
  rw [if_pos (by rw [← h.1]; exact h1), hf i (by rw [← h.1]; exact h1), List.getD_eq_getElem?_getD, List.getD_eq_getElem?_getD, List.getElem?_eq_getElem h1, List.getElem?_eq_getElem (by simpa using h2)] at h3
  simpa using h3
theorem made_zeros (k : IntKind) (n : Nat) : (madeCells (Value.int k 0).cells (n * 1)).toList = (List.replicate n 0).map (Value.int k) := by
  rw [Nat.mul_one]
  apply List.ext_getElem (by simp [size_madeCells])
  intro i h1 h2
  simp [madeCells, Value.cells, Nat.mod_one]

/-- an append (of nothing, too) at a step of a region that draws its order -/
theorem step_append_any {P : Program} (w : World) {ops : Array Oper} {o : Oper} {a : Act} {K : Act → World → Prop} {Q : Exit → Act → World → Prop} {E : Prop} (hgd : o.guard = none) (s x : Operand) (t : TypeId)
    (ho : o.op = .call { callee := .builtin .append, args := #[s, x], argTypes := #[t, t] })
    (base : Nat) (e : TypeId) (i : TypeInfo) (z : Value) (size bytes : Nat) (ht : P.underlying t = some (.slice e)) (hi : P.info? e = some i) (hz : i.zero = some z)
    (hsize : i.size = size) (hby : i.bytes = bytes) (hzs : z.cells.size = size) (hsz : 0 < size)
    (v : Value) (n : Nat) (xs : List Value) (hs : a.eval s = v) (hown : w.ownsRow base e size v n xs)
    (ad : Addr) (m c : Nat) (news : List Value) (hx : a.eval x = .slice (some ad) m c) (hl : news.length = m * size) (hnews : ∀ j u, news[j]? = some u → w.cell? (ad.add j) = some u) (h1 : ∀ u ∈ news, u.oneCell' = true)
    (h63 : n + m ≤ maxLen) (hbytes : (n + m) * bytes ≤ 140737488355328) (hbase : base ≤ w.heap.size)
    (h : ∀ v' w', w'.ownsRow base e size v' (n + m) (xs ++ news) → w.grownBy w' v.ownBlock → K (a.put o.dst v') w') :
    if Region.wanted o (yielded ops a.tmps) = true then Oper.wp P o a w K Q else E := by
  have hw : Region.wanted o (yielded ops a.tmps) = true := by simp [Region.wanted, hgd]
  rw [if_pos hw]
  obtain ⟨v', w', hr, h2, h3, _, _⟩ := run_append_own_at (P := P) w base t o.type e i z size bytes ht hi hz hsize hby hzs hsz v n xs hown ad m c news hl hnews h1 h63 hbytes hbase
  unfold Oper.wp execOp
  simp only [ho, resolve, invoke, builtin, Sem.run_bind, Sem.run_pure, Result.andThen_ok, List.map_toArray, List.map_cons, List.map_nil, hs, hx, hr]
  exact h v' w' h2 h3

/-- a slice's numbers, as an append takes them -/
theorem Elems.news {k : IntKind} {w : World} {b off n : Nat} {xs : List Int} (h : Elems k w (some ⟨b, off, none⟩) n xs) : ∀ j u, (xs.map (Value.int k))[j]? = some u → w.cell? ((⟨b, off, none⟩ : Addr).add j) = some u := by
  intro j u hu
  have hl := h.1
  have hj : j < xs.length := by
    have := (List.getElem?_eq_some_iff.1 hu).1
    simpa using this
  obtain ⟨b', off', he, hc⟩ := h.2.2.2 (by omega)
  simp only [Option.some.injEq, Addr.mk.injEq] at he
  obtain ⟨rfl, rfl, _⟩ := he
  have ha : (⟨b, off, none⟩ : Addr).add j = ⟨b, off + j, none⟩ := by
    unfold Addr.add
    split
    · rename_i e; subst e; rfl
    · rfl
  rw [ha, hc j (by omega), ← hu, List.getElem?_map, List.getElem?_eq_getElem hj, List.getD_eq_getElem?_getD, List.getElem?_eq_getElem hj]
  rfl
theorem Elems.grown {k : IntKind} {w w' : World} {g off n : Nat} {xs : List Int} {row : Option Nat} (h : Elems k w (some ⟨g, off, none⟩) n xs) (hg : w.grownBy w' row) (hne : some g ≠ row) : Elems k w' (some ⟨g, off, none⟩) n xs := by
  refine ⟨h.1, h.2.1, h.2.2.1, fun hn => ?_⟩
  obtain ⟨b', off', he, hc⟩ := h.2.2.2 hn
  simp only [Option.some.injEq, Addr.mk.injEq] at he
  obtain ⟨rfl, rfl, _⟩ := he
  refine ⟨g, off, rfl, fun i hi => ?_⟩
  have hlt := World.block_lt_of_cell? _ _ (hc i hi)
  rw [hg.cell_far _ hlt hne]; exact hc i hi
theorem own_below {w w' : World} {base : Nat} {e : TypeId} {size : Nat} {v : Value} {n : Nat} {xs : List Value} (h : w.ownsRow base e size v n xs) (hb : Below w.heap.size w w') : w'.ownsRow base e size v n xs := by
  refine ⟨h.1, ?_⟩
  rcases h.2 with h0 | ⟨g, cap, cur, hv, hbs, hg, hnc, hcm, hcs, ht⟩
  · exact .inl h0
  · refine .inr ⟨g, cap, cur, hv, hbs, ?_, hnc, hcm, hcs, ht⟩
    rw [hb.block g ?_]
    · exact hg
    · rcases Nat.lt_or_ge g w.heap.size with hlt | hge
      · exact hlt
      · rw [Array.getElem?_eq_none hge] at hg; cases hg
theorem ints_one {k : IntKind} (xs : List Int) : ∀ u ∈ xs.map (Value.int k), u.oneCell' = true := by
  intro u hu; obtain ⟨x, _, rfl⟩ := List.mem_map.1 hu; rfl

end Go.Proofs.Ytkinbngikmcpeaa
