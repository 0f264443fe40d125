import Derived.Test.YtoeihigdndkjeaaGreatDoorProg
import Derived.WalkKit
import Derived.WalkLawsBesides
import Derived.WalkSpells
import Derived.BigQuiet
import Derived.Deep.QuietTactic
import Derived.Outline
import Derived.Lib.Hide
import Derived.Below
import Derived.DataReads
import Derived.Deep.Draws
import Derived.Deep.OwnRows
import Derived.OwnWalk
import Derived.WalkSmall
import Derived.RowKit3
import Derived.Deep.AppendLies
import Derived.Laws.CopyOwn
import Derived.Maps.AppendAt
import Derived.Maps.RangeWalk
import Derived.Laws.OwnMore
import Derived.Laws.Tables
import Derived.Laws.AppendOwn
/-
  The kit of these texts, of no stage: the nearest number of a range; a number shifted down to the nearest; slices of integers that read as lists, how they are kept over new memory, and rows that a call makes or grows; sums, wrapped.
-/
namespace Go.Proofs.YtoeihigdndkjeaaGreatDoor
open Go.RowKit
set_option linter.unusedVariables false


/-- the number of [lo, hi] nearest to x -/
def near (x lo hi : Int) : Int := if x < lo then lo else if hi < x then hi else x

theorem ret_int {k : IntKind} {a b : Int} (h : a = b) : Ending.returned (.int k a) = .returned (.int k b) := by rw [h]

theorem ret_bool {a b : Bool} (h : a = b) : Ending.returned (.bool a) = .returned (.bool b) := by rw [h]

theorem near_in (x lo hi : Int) (h : lo ≤ hi) : lo ≤ near x lo hi ∧ near x lo hi ≤ hi := by unfold near; split <;> (try split) <;> omega

/-! ### plain mathematics -/

/-- x divided by P to the nearest, of two the even one -/
def half (x P : Int) : Int := if P - x % P < x % P ∨ (x % P = P - x % P ∧ x / P % 2 = 1) then x / P + 1 else x / P
/-- x shifted down by n -/
def shr (x n : Int) : Int := if near n 0 62 = 0 then x else half x (2 ^ (near n 0 62).toNat)

theorem pow_bounds (m : Int) (h0 : 0 ≤ m) (h : m ≤ 62) : (1 : Int) ≤ 2 ^ m.toNat ∧ (2 : Int) ^ m.toNat ≤ 4611686018427387904 := by
  have hk : m.toNat ≤ 62 := by omega
  generalize m.toNat = k at hk
  constructor
  · exact Int.pow_pos (by decide)
  · have : (2 : Nat) ^ k ≤ 2 ^ 62 := Nat.pow_le_pow_right (by decide) hk
    have h2 : ((2 : Int) ^ k) = ((2 ^ k : Nat) : Int) := by simp
    rw [h2]; have : (2 : Nat) ^ 62 = 4611686018427387904 := by decide
    omega

theorem pow_half (m : Int) (h0 : 1 ≤ m) : (2 : Int) ^ m.toNat = 2 * 2 ^ (m.toNat - 1) := by
  obtain ⟨k, hk⟩ : ∃ k, m.toNat = k + 1 := ⟨m.toNat - 1, by omega⟩
  rw [hk, Int.pow_succ, Nat.add_sub_cancel]; omega

theorem and_mask (x : Int) (k : Nat) (hk : k ≤ 62) : bits .and .i64 x (2 ^ k - 1) = x % 2 ^ k := by
  have hp : (2 : Nat) ^ k ≤ 2 ^ 62 := Nat.pow_le_pow_right (by decide) hk
  have hp' : (2 : Nat) ^ 62 = 4611686018427387904 := by decide
  have h1 : 1 ≤ (2 : Nat) ^ k := Nat.two_pow_pos k
  have e2 : (2 : Int) ^ k = ((2 ^ k : Nat) : Int) := by simp
  have ea : (BitVec.ofInt 64 x).toNat = (x % 18446744073709551616).toNat := by simp [BitVec.toNat_ofInt]
  have eb : (BitVec.ofInt 64 (2 ^ k - 1)).toNat = 2 ^ k - 1 := by
    rw [BitVec.toNat_ofInt, e2]
    have : ((2 ^ k : Nat) : Int) - 1 = ((2 ^ k - 1 : Nat) : Int) := by omega
    rw [this]
    have h3 : (((2 ^ k - 1 : Nat) : Int) % ((2 ^ 64 : Nat) : Int)) = ((2 ^ k - 1 : Nat) : Int) := by
      apply Int.emod_eq_of_lt (by omega)
      have : (2 : Nat) ^ 64 = 18446744073709551616 := by decide
      omega
    rw [h3, Int.toNat_natCast]
  have hb : bits .and .i64 x (2 ^ k - 1) = IntKind.i64.wrap (((BitVec.ofInt 64 x) &&& (BitVec.ofInt 64 (2 ^ k - 1))).toNat : Nat) := rfl
  rw [hb, BitVec.toNat_and, ea, eb, Nat.and_two_pow_sub_one_eq_mod]
  have hd : ((2 ^ k : Nat) : Int) ∣ 18446744073709551616 := by
    have : (2 : Nat) ^ k ∣ 2 ^ 64 := Nat.pow_dvd_pow 2 (by omega)
    exact Int.natCast_dvd_natCast.mpr this
  have hm : (((x % 18446744073709551616).toNat % 2 ^ k : Nat) : Int) = x % 2 ^ k := by
    rw [e2, Int.natCast_emod, Int.toNat_of_nonneg (Int.emod_nonneg _ (by decide)), Int.emod_emod_of_dvd _ hd]
  rw [hm, e2]
  have hl := Int.emod_nonneg x (b := ((2 ^ k : Nat) : Int)) (by omega)
  have hu := Int.emod_lt_of_pos x (b := ((2 ^ k : Nat) : Int)) (by omega)
  exact IntWalk.i64_in _ ⟨by omega, by omega⟩

theorem and_one (x : Int) : bits .and .i64 x 1 = x % 2 := by
  have := and_mask x 1 (by decide)
  simpa using this

theorem quo_bounds (x P : Int) (h1 : -9223372036854775808 ≤ x) (h2 : x ≤ 9223372036854775807) (hP : 2 ≤ P) : -4611686018427387904 ≤ x / P ∧ x / P ≤ 4611686018427387903 := by
  constructor
  · exact Int.le_ediv_of_mul_le (by omega) (by have := Int.mul_le_mul_of_nonpos_left (a := -4611686018427387904) (by decide) hP; omega)
  · have : x / P < 4611686018427387904 := Int.ediv_lt_of_lt_mul (by omega) (by have := Int.mul_le_mul_of_nonneg_left hP (show (0 : Int) ≤ 4611686018427387904 by decide); omega)
    omega

theorem tdiv_neg_ne (x p : Int) (hx : x < 0) (hp : 1 ≤ p) (hr : x % p ≠ 0) : x.tdiv p = x / p + 1 ∧ x.tmod p = x % p - p := by
  have h1 : x.tdiv p = x / p + 1 := by
    rw [Int.tdiv_eq_ediv]
    have : ¬ (0 ≤ x ∨ p ∣ x) := by
      intro h; rcases h with h | h
      · omega
      · exact hr (Int.emod_eq_zero_of_dvd h)
    rw [if_neg this, Int.sign_eq_one_of_pos (by omega)]
  refine ⟨h1, ?_⟩
  have h2 := Int.tmod_add_mul_tdiv x p
  have h3 := Int.emod_add_mul_ediv x p
  rw [h1, Int.mul_add] at h2
  omega

theorem tdiv_neg_eq (x p : Int) (hr : x % p = 0) : x.tdiv p = x / p ∧ x.tmod p = 0 := by
  have hd : p ∣ x := Int.dvd_of_emod_eq_zero hr
  refine ⟨?_, Int.tmod_eq_zero_of_dvd hd⟩
  rw [Int.tdiv_eq_ediv_of_dvd hd]

theorem tmod_two (q : Int) : (q.tmod 2 != 0) = decide (q % 2 = 1) := by
  have h : q.tmod 2 = 0 ↔ q % 2 = 0 := by
    rcases Int.le_total 0 q with h | h
    · rw [Int.tmod_eq_emod_of_nonneg h]
    · have h1 := Int.neg_tmod q 2
      have h2 := Int.tmod_eq_emod_of_nonneg (a := -q) (b := 2) (by omega)
      omega
  by_cases c : q % 2 = 1
  · rw [decide_eq_true c]
    simp only [bne_iff_ne]
    omega
  · have : q.tmod 2 = 0 := h.mpr (by omega)
    rw [this, decide_eq_false c]; rfl

theorem hid62 {p : Int} (h : p = 2 ^ 62) : Hid ((4611686018427387904 : Int) = p) := by
  have : (2 : Int) ^ 62 = 4611686018427387904 := by decide
  exact Lib.hid (by omega)


theorem val_int {k : IntKind} {a b : Int} (h : a = b) : Value.int k a = Value.int k b := by rw [h]

/-- two stretches behind one another, each of which leaves alone what it found -/
theorem below_two {w a b : World} (h1 : Below w.heap.size w a) (h2 : Below a.heap.size a b) : Below w.heap.size w b := h1.trans (h2.mono h1.size)

/-- The slice at a with n elements of kind k reads as xs in w (a matters only where n is above 0). -/
def Elems (k : IntKind) (w : World) (a : Option Addr) (n : Nat) (xs : List Int) : Prop :=
  xs.length = n ∧ n ≤ 9223372036854775807 ∧ (∀ x ∈ xs, (Lit.int k x).wf = true) ∧
    (0 < n → ∃ b off, a = some ⟨b, off, none⟩ ∧ ∀ i, i < n → w.cell? ⟨b, off + i, none⟩ = some (.int k (xs.getD i 0)))

theorem Elems.nil_ (k : IntKind) (w : World) (a : Option Addr) : Elems k w a 0 [] := ⟨rfl, by omega, by simp, fun h => absurd h (by omega)⟩

theorem Elems.below {k : IntKind} {w w' : World} {a : Option Addr} {n : Nat} {xs : List Int} (h : Elems k w a n xs) (hb : Below w.heap.size w w') : Elems k w' a n xs := by
  refine ⟨h.1, h.2.1, h.2.2.1, fun hn => ?_⟩
  obtain ⟨b, off, rfl, hc⟩ := h.2.2.2 hn
  exact ⟨b, off, rfl, fun i hi => (hb.cell (p := ⟨b, off + i, none⟩) (World.block_lt_of_cell? _ _ (hc i hi))).trans (hc i hi)⟩

theorem Elems.drewN {k : IntKind} {w : World} {a : Option Addr} {n : Nat} {xs : List Int} (h : Elems k w a n xs) (d : Nat) : Elems k (w.drewN d) a n xs := h

/-- the first m elements, and those from m on -/
theorem Elems.take {k : IntKind} {w : World} {a : Option Addr} {n : Nat} {xs : List Int} (h : Elems k w a n xs) (m : Nat) (hm : m ≤ n) : Elems k w a m (xs.take m) := by
  refine ⟨by rw [List.length_take, h.1]; omega, by have := h.2.1; omega, fun x hx => h.2.2.1 x (List.mem_of_mem_take hx), fun hn => ?_⟩
  obtain ⟨b, off, rfl, hc⟩ := h.2.2.2 (by omega)
  refine ⟨b, off, rfl, fun i hi => ?_⟩
  rw [hc i (by omega)]
  simp [List.getD, hi]

theorem Elems.drop {k : IntKind} {w : World} {b off n : Nat} {xs : List Int} (h : Elems k w (some ⟨b, off, none⟩) n xs) (m : Nat) (hm : m ≤ n) : Elems k w (some ⟨b, off + m, none⟩) (n - m) (xs.drop m) := by
  refine ⟨by rw [List.length_drop, h.1], by have := h.2.1; omega, fun x hx => h.2.2.1 x (List.mem_of_mem_drop hx), fun hn => ?_⟩
  obtain ⟨b', off', he, hc⟩ := h.2.2.2 (by omega)
  simp only [Option.some.injEq, Addr.mk.injEq] at he
  obtain ⟨rfl, rfl, _⟩ := he
  refine ⟨b, off + m, rfl, fun i hi => ?_⟩
  rw [show off + m + i = off + (m + i) by omega, hc (m + i) (by omega)]
  simp [List.getD, List.getElem?_drop]

/-- what 's[lo:]' leads to, where the capacity is not used up -/
theorem Elems.cut {k : IntKind} {w : World} {a : Option Addr} {n : Nat} {xs : List Int} (h : Elems k w a n xs) (m : Nat) (hm : m ≤ n) : Elems k w (a.map (fun x => x.add m)) (n - m) (xs.drop m) := by
  refine ⟨by rw [List.length_drop, h.1], by have := h.2.1; omega, fun x hx => h.2.2.1 x (List.mem_of_mem_drop hx), fun hn => ?_⟩
  obtain ⟨b, off, rfl, hc⟩ := h.2.2.2 (by omega)
  refine ⟨b, off + m, ?_, fun i hi => ?_⟩
  · simp only [Option.map_some, Addr.add]
    split
    · rename_i e; subst e; rfl
    · rfl
  · rw [show off + m + i = off + (m + i) by omega, hc (m + i) (by omega)]
    simp [List.getD, List.getElem?_drop]
theorem Elems.empty {k : IntKind} {w : World} {n : Nat} {xs : List Int} (a : Option Addr) (h : xs.length = n) (hn : n = 0) : Elems k w a n xs := by
  subst hn
  obtain rfl : xs = [] := List.length_eq_zero_iff.1 h
  exact Elems.nil_ k w a

theorem pair_elems {k : IntKind} {w : World} {g : Nat} {p q : Int} (h0 : w.cell? ⟨g, 0, none⟩ = some (.int k p)) (h1 : w.cell? ⟨g, 1, none⟩ = some (.int k q)) (wp : (Lit.int k p).wf = true) (wq : (Lit.int k q).wf = true) :
    Elems k w (some ⟨g, 0, none⟩) 2 [p, q] := by
  refine ⟨rfl, by omega, ?_, fun _ => ⟨g, 0, rfl, fun i hi => ?_⟩⟩
  · intro x hx
    simp only [List.mem_cons, List.not_mem_nil, or_false] at hx
    rcases hx with rfl | rfl
    · exact wp
    · exact wq
  · match i, hi with
    | 0, _ => exact h0
    | 1, _ => exact h1

theorem getD_mem {xs : List Int} {i : Nat} (h : i < xs.length) : xs.getD i 0 ∈ xs := by
  rw [List.getD_eq_getElem?_getD, List.getElem?_eq_getElem h]; exact List.getElem_mem h

/-- One element, as a round of a loop wants it. -/
theorem Elems.at_ {k : IntKind} {w : World} {a : Option Addr} {n : Nat} {xs : List Int} (h : Elems k w a n xs) {i : Nat} (hi : i < n) :
    ∃ b off v, a = some ⟨b, off, none⟩ ∧ w.cell? ⟨b, off + i, none⟩ = some (.int k v) ∧ Hid (xs.getD i 0 = v) ∧ (Lit.int k v).wf = true := by
  obtain ⟨b, off, rfl, hc⟩ := h.2.2.2 (by omega)
  exact ⟨b, off, _, rfl, hc i hi, Lib.hid rfl, h.2.2.1 _ (getD_mem (by rw [h.1]; exact hi))⟩

/-- What the shell's walk is told of a slice that came in, as a list. -/
theorem elems_of_row {k : IntKind} {w : World} {a : Option Addr} {len cap : Nat} {zs : List Int}
    (h : (a = none ∧ len = 0 ∧ cap = 0 ∧ zs = []) ∨ ∃ x, a = some x ∧ len ≤ cap ∧ cap ≤ maxLen ∧ zs.length = cap ∧ (∀ i, i < zs.length → w.cell? (x.add i) = some (.int k (zs.getD i 0))) ∧ ∀ n ∈ zs, (Lit.int k n).wf = true) :
    (∃ xs, Elems k w a len xs) ∧ len ≤ cap ∧ cap ≤ 9223372036854775807 := by
  rcases h with ⟨rfl, rfl, rfl, _⟩ | ⟨x, rfl, hl, hm, hz, hc, hw⟩
  · exact ⟨⟨[], Elems.nil_ k w none⟩, by omega, by omega⟩
  · unfold maxLen at hm
    refine ⟨?_, hl, by omega⟩
    by_cases h0 : len = 0
    · subst h0; exact ⟨[], Elems.nil_ k w (some x)⟩
    · obtain ⟨b, off, spot⟩ := x
      have hs : spot = none := by simpa [Addr.add] using World.cell?_spot (hc 0 (by omega))
      subst hs
      have hE : Elems k w (some ⟨b, off, none⟩) cap zs := by
        refine ⟨hz, by omega, hw, fun _ => ⟨b, off, rfl, fun i hi => ?_⟩⟩
        have := hc i (by omega)
        unfold Addr.add at this
        split at this
        · rename_i e; subst e; exact this
        · exact this
      exact ⟨_, hE.take len hl⟩

theorem rest9 (n : Int) : -8 ≤ n.tmod 9 ∧ n.tmod 9 ≤ 8 := by
  rcases Int.le_total 0 n with h | h
  · have := Int.tmod_eq_emod_of_nonneg (b := 9) h; omega
  · have h1 := Int.neg_tmod n 9
    have h2 := Int.tmod_eq_emod_of_nonneg (a := -n) (b := 9) (by omega)
    omega
/-- a rest by a number above 0 that is not known -/
theorem rest_by (n m : Int) (hm : 1 ≤ m) : -m < n.tmod m ∧ n.tmod m < m := by
  rcases Int.le_total 0 n with h | h
  · rw [Int.tmod_eq_emod_of_nonneg h]
    have := Int.emod_nonneg n (b := m) (by omega); have := Int.emod_lt_of_pos n (b := m) (by omega); omega
  · have h1 := Int.neg_tmod n m
    have h2 := Int.tmod_eq_emod_of_nonneg (a := -n) (b := m) (by omega)
    have := Int.emod_nonneg (-n) (b := m) (by omega); have := Int.emod_lt_of_pos (-n) (b := m) (by omega); omega

theorem wf8 {n : Int} (h : (Lit.int .i8 n).wf = true) : -128 ≤ n ∧ n ≤ 127 := by
  simp [Lit.wf, IntKind.min, IntKind.max, IntKind.signed, IntKind.bits] at h; omega
theorem wf32 {n : Int} (h : (Lit.int .i32 n).wf = true) : -2147483648 ≤ n ∧ n ≤ 2147483647 := by
  simp [Lit.wf, IntKind.min, IntKind.max, IntKind.signed, IntKind.bits] at h; omega
theorem wfu64 {n : Int} (h : (Lit.int .u64 n).wf = true) : 0 ≤ n ∧ n ≤ 18446744073709551615 := by
  simp [Lit.wf, IntKind.min, IntKind.max, IntKind.signed, IntKind.bits] at h; omega
theorem wfu32 {n : Int} (h : (Lit.int .u32 n).wf = true) : 0 ≤ n ∧ n ≤ 4294967295 := by
  simp [Lit.wf, IntKind.min, IntKind.max, IntKind.signed, IntKind.bits] at h; omega
theorem wf64 {n : Int} (h : (Lit.int .i64 n).wf = true) : -9223372036854775808 ≤ n ∧ n ≤ 9223372036854775807 := by
  simp [Lit.wf, IntKind.min, IntKind.max, IntKind.signed, IntKind.bits] at h; omega

/-- the sum of the first numbers, one more -/
theorem sum_step (xs : List Int) (k : Nat) (hk : k < xs.length) : (xs.take (k + 1)).sum = (xs.take k).sum + xs.getD k 0 := by
  rw [List.take_add_one, List.sum_append]
  simp [List.getD, List.getElem?_eq_getElem hk]
theorem sum_all (xs : List Int) (k : Nat) (hk : xs.length ≤ k) : xs.take k = xs := List.take_of_length_le hk

theorem sum_cut (xs : List Int) (k m : Nat) : (xs.take (k + m)).sum = (xs.take k).sum + ((xs.drop k).take m).sum := by
  rw [List.take_add, List.sum_append]
theorem sum_rest (xs : List Int) (k : Nat) : xs.sum = (xs.take k).sum + (xs.drop k).sum := by
  rw [← List.sum_append, List.take_append_drop]

/-- a sum of whole numbers, wrapped to 32 bits -/
def wsum (xs : List Int) : Int := wrap32 xs.sum

theorem wrap32_bd (x : Int) : -2147483648 ≤ wrap32 x ∧ wrap32 x ≤ 2147483647 := by unfold wrap32; omega
theorem wrap32_in (x : Int) (h : -2147483648 ≤ x ∧ x ≤ 2147483647) : wrap32 x = x := by unfold wrap32; omega
theorem wrap64_bd (x : Int) : -9223372036854775808 ≤ wrap64 x ∧ wrap64 x ≤ 9223372036854775807 := by unfold wrap64; omega
theorem wrap32_wrap64 (x : Int) : wrap32 (wrap64 x) = wrap32 x := by unfold wrap32 wrap64; omega
theorem wrap64_add (x y : Int) : wrap64 (wrap64 x + y) = wrap64 (x + y) := by unfold wrap64; omega
theorem wrap32_add (x y : Int) : wrap32 (wrap32 x + y) = wrap32 (x + y) := by unfold wrap32; omega
theorem wsum_wf (xs : List Int) : (Lit.int .i32 (wsum xs)).wf = true := wrap32_wf _
theorem wrap32_add2 (x y : Int) : wrap32 (wrap32 x + wrap32 y) = wrap32 (x + y) := by unfold wrap32; omega

theorem own_form {k : IntKind} {w : World} {base : Nat} {e : TypeId} {v : Value} {n : Nat} {cs : List Int} (h : w.ownsRow base e 1 v n (cs.map (.int k)))
    (hn : n ≤ 9223372036854775807) (hw : ∀ c ∈ cs, (Lit.int k c).wf = true) : ∃ a cap, v = .slice a n cap ∧ Elems k w a n cs := by
  have hl : cs.length = n := by have := h.1; simpa using this
  rcases h.2 with ⟨rfl, rfl⟩ | ⟨g, cap, cur, rfl, hb, hg, hnc, hcm, hcs, ht⟩
  · exact ⟨none, 0, rfl, by obtain rfl : cs = [] := List.length_eq_zero_iff.1 hl
                            exact Elems.nil_ _ _ _⟩
  · refine ⟨some ⟨g, 0, none⟩, cap, rfl, hl, hn, hw, fun _ => ⟨g, 0, rfl, fun i hi => ?_⟩⟩
    rw [Nat.zero_add, h.cellAt i (by omega), List.getElem?_map, List.getD_eq_getElem?_getD, List.getElem?_eq_getElem (by omega)]
    rfl

theorem own_nil (w : World) (base : Nat) (e : TypeId) : w.ownsRow base e 1 (.slice none 0 0) 0 [] := ⟨rfl, .inl ⟨rfl, rfl⟩⟩

theorem info_int64 : (Tryz.prog.info? 2).map (fun i => (i.zero, i.size, i.bytes)) = some (some (.int .i64 0), 1, 8) := by kernel_rfl
theorem info_int32 : (Tryz.prog.info? 21).map (fun i => (i.zero, i.size, i.bytes)) = some (some (.int .i32 0), 1, 4) := by kernel_rfl

theorem one_cell {k : IntKind} {v : Int} : ∀ u ∈ [Value.int k v], u.oneCell' = true := by
  intro u hu; simp only [List.mem_singleton] at hu; subst hu; rfl

/-- behind an append onto a row of the call's own (or nil) -/
theorem own_lt {w : World} {base : Nat} {e : TypeId} {v : Value} {n : Nat} {xs : List Value} (h : w.ownsRow base e 1 v n xs) : ∀ k, v.ownBlock = some k → base ≤ k := fun k hk => (h.lt k hk).1

theorem take_map_snoc (f : Int → Value) (xs : List Int) (k : Nat) (hk : k < xs.length) : (xs.take k).map f ++ [f (xs.getD k 0)] = (xs.take (k + 1)).map f := by
  rw [List.take_add_one, List.map_append]
  simp [List.getD, List.getElem?_eq_getElem hk]

/-- one group more -/
theorem own_elems {k : IntKind} {w : World} {base : Nat} {e : TypeId} {g n cap : Nat} {cs : List Int} (h : w.ownsRow base e 1 (.slice (some ⟨g, 0, none⟩) n cap) n (cs.map (.int k)))
    (hn : n ≤ 9223372036854775807) (hw : ∀ c ∈ cs, (Lit.int k c).wf = true) : Elems k w (some ⟨g, 0, none⟩) n cs := by
  have hl : cs.length = n := by have := h.1; simpa using this
  refine ⟨hl, hn, hw, fun _ => ⟨g, 0, rfl, fun i hi => ?_⟩⟩
  rw [Nat.zero_add, h.cellAt i (by omega), List.getElem?_map, List.getD_eq_getElem?_getD, List.getElem?_eq_getElem (by omega)]
  rfl


/-- k of the n numbers are written (number i is f i), the rest is 0 -/
def FilledBy (f : Nat → Int) (n k : Nat) (cs : List Int) : Prop := cs.length = n ∧ ∀ i, i < n → cs.getD i 0 = if i < k then f i else 0

theorem filledBy_start (f : Nat → Int) (n : Nat) : FilledBy f n 0 (List.replicate n 0) := by
  refine ⟨by simp, fun i hi => ?_⟩
  rw [if_neg (by omega), List.getD_eq_getElem?_getD, List.getElem?_replicate, if_pos hi]; rfl
theorem filledBy_step {f : Nat → Int} {n k : Nat} {cs : List Int} (h : FilledBy f n k cs) (hk : k < n) : FilledBy f n (k + 1) (cs.set k (f k)) := by
  refine ⟨by simpa using h.1, fun i hi => ?_⟩
  rw [List.getD_eq_getElem?_getD, List.getElem?_set]
  by_cases e : k = i
  · subst e
    rw [if_pos rfl, if_pos (by rw [h.1]; exact hk), if_pos (by omega)]; rfl
  · rw [if_neg e, ← List.getD_eq_getElem?_getD, h.2 i hi]
    by_cases h2 : i < k
    · rw [if_pos h2, if_pos (by omega)]
    · rw [if_neg h2, if_neg (by omega)]
theorem filledBy_end {f : Nat → Int} {n : Nat} {cs xs : List Int} {g : Int → Int} (h : FilledBy f n n cs) (hx : xs.length = n) (hf : ∀ i, i < n → f i = g (xs.getD i 0)) : cs = xs.map g := by
  apply List.ext_getElem (by rw [h.1, List.length_map, hx])
  intro i h1 h2
  have h3 := h.2 i (by rw [← h.1]; exact h1)
  rw [if_pos (by rw [← h.1]; exact h1), hf i (by rw [← h.1]; exact h1), List.getD_eq_getElem?_getD, List.getD_eq_getElem?_getD, List.getElem?_eq_getElem h1, List.getElem?_eq_getElem (by simpa using h2)] at h3
  simpa using h3
theorem made_zeros (k : IntKind) (n : Nat) : (madeCells (Value.int k 0).cells (n * 1)).toList = (List.replicate n 0).map (Value.int k) := by
  rw [Nat.mul_one]
  apply List.ext_getElem (by simp [size_madeCells])
  intro i h1 h2
  simp [madeCells, Value.cells, Nat.mod_one]

/-- an append (of nothing, too) at a step of a region that draws its order -/
theorem step_append_any {P : Program} (w : World) {ops : Array Oper} {o : Oper} {a : Act} {K : Act → World → Prop} {Q : Exit → Act → World → Prop} {E : Prop} (hgd : o.guard = none) (s x : Operand) (t : TypeId)
    (ho : o.op = .call { callee := .builtin .append, args := #[s, x], argTypes := #[t, t] })
    (base : Nat) (e : TypeId) (i : TypeInfo) (z : Value) (size bytes : Nat) (ht : P.underlying t = some (.slice e)) (hi : P.info? e = some i) (hz : i.zero = some z)
    (hsize : i.size = size) (hby : i.bytes = bytes) (hzs : z.cells.size = size) (hsz : 0 < size)
    (v : Value) (n : Nat) (xs : List Value) (hs : a.eval s = v) (hown : w.ownsRow base e size v n xs)
    (ad : Addr) (m c : Nat) (news : List Value) (hx : a.eval x = .slice (some ad) m c) (hl : news.length = m * size) (hnews : ∀ j u, news[j]? = some u → w.cell? (ad.add j) = some u) (h1 : ∀ u ∈ news, u.oneCell' = true)
    (h63 : n + m ≤ maxLen) (hbytes : (n + m) * bytes ≤ 140737488355328) (hbase : base ≤ w.heap.size)
    (h : ∀ v' w', w'.ownsRow base e size v' (n + m) (xs ++ news) → w.grownBy w' v.ownBlock → K (a.put o.dst v') w') :
    if Region.wanted o (yielded ops a.tmps) = true then Oper.wp P o a w K Q else E := by
  have hw : Region.wanted o (yielded ops a.tmps) = true := by simp [Region.wanted, hgd]
  rw [if_pos hw]
  obtain ⟨v', w', hr, h2, h3, _, _⟩ := run_append_own_at (P := P) w base t o.type e i z size bytes ht hi hz hsize hby hzs hsz v n xs hown ad m c news hl hnews h1 h63 hbytes hbase
  unfold Oper.wp execOp
  simp only [ho, resolve, invoke, builtin, Sem.run_bind, Sem.run_pure, Result.andThen_ok, List.map_toArray, List.map_cons, List.map_nil, hs, hx, hr]
  exact h v' w' h2 h3

/-- a slice's numbers, as an append takes them -/
theorem Elems.news {k : IntKind} {w : World} {b off n : Nat} {xs : List Int} (h : Elems k w (some ⟨b, off, none⟩) n xs) : ∀ j u, (xs.map (Value.int k))[j]? = some u → w.cell? ((⟨b, off, none⟩ : Addr).add j) = some u := by
  intro j u hu
  have hl := h.1
  have hj : j < xs.length := by
    have := (List.getElem?_eq_some_iff.1 hu).1
    simpa using this
  obtain ⟨b', off', he, hc⟩ := h.2.2.2 (by omega)
  simp only [Option.some.injEq, Addr.mk.injEq] at he
  obtain ⟨rfl, rfl, _⟩ := he
  have ha : (⟨b, off, none⟩ : Addr).add j = ⟨b, off + j, none⟩ := by
    unfold Addr.add
    split
    · rename_i e; subst e; rfl
    · rfl
  rw [ha, hc j (by omega), ← hu, List.getElem?_map, List.getElem?_eq_getElem hj, List.getD_eq_getElem?_getD, List.getElem?_eq_getElem hj]
  rfl
theorem Elems.grown {k : IntKind} {w w' : World} {g off n : Nat} {xs : List Int} {row : Option Nat} (h : Elems k w (some ⟨g, off, none⟩) n xs) (hg : w.grownBy w' row) (hne : some g ≠ row) : Elems k w' (some ⟨g, off, none⟩) n xs := by
  refine ⟨h.1, h.2.1, h.2.2.1, fun hn => ?_⟩
  obtain ⟨b', off', he, hc⟩ := h.2.2.2 hn
  simp only [Option.some.injEq, Addr.mk.injEq] at he
  obtain ⟨rfl, rfl, _⟩ := he
  refine ⟨g, off, rfl, fun i hi => ?_⟩
  have hlt := World.block_lt_of_cell? _ _ (hc i hi)
  rw [hg.cell_far _ hlt hne]; exact hc i hi
theorem own_below {w w' : World} {base : Nat} {e : TypeId} {size : Nat} {v : Value} {n : Nat} {xs : List Value} (h : w.ownsRow base e size v n xs) (hb : Below w.heap.size w w') : w'.ownsRow base e size v n xs := by
  refine ⟨h.1, ?_⟩
  rcases h.2 with h0 | ⟨g, cap, cur, hv, hbs, hg, hnc, hcm, hcs, ht⟩
  · exact .inl h0
  · refine .inr ⟨g, cap, cur, hv, hbs, ?_, hnc, hcm, hcs, ht⟩
    rw [hb.block g ?_]
    · exact hg
    · rcases Nat.lt_or_ge g w.heap.size with hlt | hge
      · exact hlt
      · rw [Array.getElem?_eq_none hge] at hg; cases hg
theorem ints_one {k : IntKind} (xs : List Int) : ∀ u ∈ xs.map (Value.int k), u.oneCell' = true := by
  intro u hu; obtain ⟨x, _, rfl⟩ := List.mem_map.1 hu; rfl

end Go.Proofs.YtoeihigdndkjeaaGreatDoor

/-
  Contracts of the functions that bring a number to a range: for every argument of its type each returns the nearest number of the range and leaves memory as it was.
-/
namespace Go.Proofs.YtoeihigdndkjeaaGreatDoor
open Go.RowKit
set_option linter.unusedVariables false

theorem bring8 (x lo hi : Int) (h1 : -128 ≤ lo) (h2 : lo ≤ hi) (h3 : hi ≤ 127) (w : World) :
    Calls Tryz.prog 117 #[.int .i64 x, .int .i8 lo, .int .i8 hi] w fun e w' => e = .returned (.int .i8 (near x lo hi)) ∧ w = w' := by
  by_cases c1 : x < lo
  · go_enter Tryz.func117, Tryz.ntmps117
    go_wp2
    go_ret
    exact ⟨ret_int (by unfold near; omega), rfl⟩
  · by_cases c2 : hi < x
    · go_enter Tryz.func117, Tryz.ntmps117
      go_wp2
      go_ret
      exact ⟨ret_int (by unfold near; omega), rfl⟩
    · go_enter Tryz.func117, Tryz.ntmps117
      go_wp2
      go_ret
      exact ⟨ret_int (by unfold near; omega), rfl⟩

theorem bring32 (x lo hi : Int) (h1 : -2147483648 ≤ lo) (h2 : lo ≤ hi) (h3 : hi ≤ 2147483647) (w : World) :
    Calls Tryz.prog 141 #[.int .i64 x, .int .i32 lo, .int .i32 hi] w fun e w' => e = .returned (.int .i32 (near x lo hi)) ∧ w = w' := by
  by_cases c1 : x < lo
  · go_enter Tryz.func141, Tryz.ntmps141
    go_wp2
    go_ret
    exact ⟨ret_int (by unfold near; omega), rfl⟩
  · by_cases c2 : hi < x
    · go_enter Tryz.func141, Tryz.ntmps141
      go_wp2
      go_ret
      exact ⟨ret_int (by unfold near; omega), rfl⟩
    · go_enter Tryz.func141, Tryz.ntmps141
      go_wp2
      go_ret
      exact ⟨ret_int (by unfold near; omega), rfl⟩

theorem bring64 (x lo hi : Int) (h2 : lo ≤ hi) (w : World) :
    Calls Tryz.prog 118 #[.int .i64 x, .int .i64 lo, .int .i64 hi] w fun e w' => e = .returned (.int .i64 (near x lo hi)) ∧ w = w' := by
  by_cases c1 : x < lo
  · go_enter Tryz.func118, Tryz.ntmps118
    go_wp2
    go_ret
    exact ⟨ret_int (by unfold near; omega), rfl⟩
  · by_cases c2 : hi < x
    · go_enter Tryz.func118, Tryz.ntmps118
      go_wp2
      go_ret
      exact ⟨ret_int (by unfold near; omega), rfl⟩
    · go_enter Tryz.func118, Tryz.ntmps118
      go_wp2
      go_ret
      exact ⟨ret_int (by unfold near; omega), rfl⟩

theorem sat8 (x : Int) (w : World) :
    Calls Tryz.prog 93 #[.int .i64 x] w fun e w' => e = .returned (.int .i8 (near x (-128) 127)) ∧ w = w' := by
  go_enter Tryz.func93, Tryz.ntmps93
  go_wp2_with (go_at_call 117; refine (bring8 _ _ _ (by decide) (by decide) (by decide) _).mono ?_; rintro e w' ⟨rfl, rfl⟩)
  go_ret
  exact ⟨rfl, rfl⟩

theorem sat32 (x : Int) (w : World) :
    Calls Tryz.prog 135 #[.int .i64 x] w fun e w' => e = .returned (.int .i32 (near x (-2147483648) 2147483647)) ∧ w = w' := by
  go_enter Tryz.func135, Tryz.ntmps135
  go_wp2_with (go_at_call 141; refine (bring32 _ _ _ (by decide) (by decide) (by decide) _).mono ?_; rintro e w' ⟨rfl, rfl⟩)
  go_ret
  exact ⟨rfl, rfl⟩

theorem ref_near (x lo hi : Int) (w : World) :
    Calls Tryz.prog 70 #[.int .i64 x, .int .i64 lo, .int .i64 hi] w fun e w' => e = .returned (.int .i64 (near x lo hi)) ∧ w = w' := by
  by_cases c1 : x < lo
  · go_enter Tryz.func70, Tryz.ntmps70
    go_wp2
    go_ret
    exact ⟨ret_int (by unfold near; omega), rfl⟩
  · by_cases c2 : hi < x
    · go_enter Tryz.func70, Tryz.ntmps70
      go_wp2
      go_ret
      exact ⟨ret_int (by unfold near; omega), rfl⟩
    · go_enter Tryz.func70, Tryz.ntmps70
      go_wp2
      go_ret
      exact ⟨ret_int (by unfold near; omega), rfl⟩
end Go.Proofs.YtoeihigdndkjeaaGreatDoor

/-
  Contracts of Shift, product, Scale and Quant and of the document's Shift and Scale: for every argument of its type each returns 'shr' (the nearest whole number, of two the even one), brought to its range where it is to be, and leaves memory as it was.
-/
namespace Go.Proofs.YtoeihigdndkjeaaGreatDoor
open Go.RowKit
set_option linter.unusedVariables false


set_option maxHeartbeats 400000 in
theorem shift (x n : Int) (h1 : -9223372036854775808 ≤ x) (h2 : x ≤ 9223372036854775807) (w : World) :
    Calls Tryz.prog 94 #[.int .i64 x, .int .i64 n] w fun e w' => e = .returned (.int .i64 (shr x n)) ∧ w = w' := by
  obtain ⟨m, hm⟩ : ∃ m, near n 0 62 = m := ⟨_, rfl⟩
  have hb : ∀ w, Calls Tryz.prog 118 #[.int .i64 n, .int .i64 0, .int .i64 62] w fun e w' => e = .returned (.int .i64 m) ∧ w = w' := by
    intro w; rw [← hm]; exact bring64 n 0 62 (by decide) w
  have hm2 := near_in n 0 62 (by decide)
  rw [hm] at hm2
  obtain ⟨m1, m2⟩ := hm2
  have hs : shr x n = if m = 0 then x else half x (2 ^ m.toNat) := by unfold shr; rw [hm]
  rw [hs]
  clear hm hs
  by_cases c0 : m = 0
  · subst c0
    go_enter Tryz.func94, Tryz.ntmps94
    go_wp2_with (go_at_call 118; refine (hb _).mono ?_; rintro e w' ⟨rfl, rfl⟩)
    go_ret
    exact ⟨rfl, rfl⟩
  · rw [if_neg c0]
    have p1 := pow_bounds m (by omega) m2
    have p2 : (1 : Int) ≤ 2 ^ (m.toNat - 1) ∧ (2 : Int) ^ (m.toNat - 1) ≤ 4611686018427387904 := by have h := pow_bounds (m - 1) (by omega) (by omega); rwa [show (m - 1).toNat = m.toNat - 1 by omega] at h
    have p3 := pow_half m (by omega)
    have p4 := and_mask x m.toNat (by omega)
    have p5 := and_one (x / 2 ^ m.toNat)
    have p6 := quo_bounds x (2 ^ m.toNat) h1 h2 (by omega)
    have r1 := Int.emod_nonneg x (b := 2 ^ m.toNat) (by omega)
    have r2 := Int.emod_lt_of_pos x (b := 2 ^ m.toNat) (by omega)
    have P3 := Lib.hid p3
    clear p3
    by_cases c1 : 2 ^ (m.toNat - 1) < x % 2 ^ m.toNat
    · go_enter Tryz.func94, Tryz.ntmps94
      go_wp2_with (go_at_call 118; refine (hb _).mono ?_; rintro e w' ⟨rfl, rfl⟩)
      go_ret
      exact ⟨ret_int (by have := P3.out; unfold half; rw [if_pos (by omega)]), rfl⟩
    · by_cases c2 : x % 2 ^ m.toNat = 2 ^ (m.toNat - 1)
      · have C2 := Lib.hid c2
        have c2' : (x % 2 ^ m.toNat == 2 ^ (m.toNat - 1)) = true := by simpa using c2
        clear c2
        by_cases c3 : x / 2 ^ m.toNat % 2 = 1
        · have c3' : (x / 2 ^ m.toNat % 2 == 1) = true := by simpa using c3
          have C3 := Lib.hid c3
          clear c3
          go_enter Tryz.func94, Tryz.ntmps94
          go_wp2_with (go_at_call 118; refine (hb _).mono ?_; rintro e w' ⟨rfl, rfl⟩)
          go_ret
          exact ⟨ret_int (by have := P3.out; have := C2.out; have := C3.out; unfold half; rw [if_pos (by omega)]), rfl⟩
        · have c3' : (x / 2 ^ m.toNat % 2 == 1) = false := by simpa using c3
          have C3 := Lib.hid c3
          clear c3
          go_enter Tryz.func94, Tryz.ntmps94
          go_wp2_with (go_at_call 118; refine (hb _).mono ?_; rintro e w' ⟨rfl, rfl⟩)
          go_ret
          exact ⟨ret_int (by have := P3.out; have := C2.out; have := C3.out; unfold half; rw [if_neg (by omega)]), rfl⟩
      · have c2' : (x % 2 ^ m.toNat == 2 ^ (m.toNat - 1)) = false := by simpa using c2
        have C2 := Lib.hid c2
        clear c2
        go_enter Tryz.func94, Tryz.ntmps94
        go_wp2_with (go_at_call 118; refine (hb _).mono ?_; rintro e w' ⟨rfl, rfl⟩)
        go_ret
        exact ⟨ret_int (by have := P3.out; have := C2.out; unfold half; rw [if_neg (by omega)]), rfl⟩

end Go.Proofs.YtoeihigdndkjeaaGreatDoor

/-
  Contracts of the document's Shift and of products that are shifted: for every argument of its type the document's Shift returns 'shr', as the program's does; Scale, Quant and the document's Scale return the product, shifted, brought to its range; memory stays as it was.
-/
namespace Go.Proofs.YtoeihigdndkjeaaGreatDoor
open Go.RowKit
set_option linter.unusedVariables false

/-! ### the document's Shift: its loop makes 2^n; behind it each sign of x has its own walk -/
theorem ref_neg (x n : Int) (hn : 1 ≤ n) (hn2 : n ≤ 62) (h1 : -9223372036854775808 ≤ x) (h2 : x ≤ 9223372036854775807) (hx : x < 0) (w : World) :
    Calls Tryz.prog 72 #[.int .i64 x, .int .i64 n] w fun e w' => e = .returned (.int .i64 (half x (2 ^ n.toNat))) ∧ w = w' := by
  go_enter Tryz.func72, Tryz.ntmps72
  go_wp2
  go_loop [5, 6] (fun d i => ∃ (k : Nat) (p : Int), k ≤ n.toNat ∧ i = .int .i64 k ∧ d = .int .i64 p ∧ Hid (p = 2 ^ k) ∧ 1 ≤ p ∧ p ≤ 4611686018427387904) (fun _ i => n.toNat - (intOf i).toNat)
  case atStart => exact ⟨0, 1, by omega, rfl, rfl, Lib.hid rfl, by omega, by omega⟩
  case round =>
    obtain ⟨k, p, hk, rfl, rfl, hp, p1, p2⟩ := hrel
    by_cases hlt : k < n.toNat
    · have hlt' : (k : Int) < n := by omega
      have P : Hid (p * 2 = 2 ^ (k + 1)) := Lib.hid (by rw [Int.pow_succ, hp.out])
      have p3 : p * 2 ≤ 4611686018427387904 := by
        have h := P.out
        have := pow_bounds (((k + 1 : Nat) : Int)) (by omega) (by omega)
        rw [Int.toNat_natCast] at this
        omega
      clear hp
      go_wp2
      go_round
      case rel => exact ⟨k + 1, p * 2, by omega, by go_num, rfl, P, by omega, by omega⟩
      case measure => simp [intOf]; omega
    · have hge : ¬ ((k : Int) < n) := by omega
      obtain rfl : k = n.toNat := by omega
      have hp2 : 2 ≤ p := by
        have h := hp.out
        have := pow_half n hn
        have := pow_bounds n (by omega) hn2
        have := pow_bounds (n - 1) (by omega) (by omega)
        rw [show (n - 1).toNat = n.toNat - 1 by omega] at this
        omega
      have hq := quo_bounds x p h1 h2 hp2
      have r1 := Int.emod_nonneg x (b := p) (by omega)
      have r2 := Int.emod_lt_of_pos x (b := p) (by omega)
      have HP := Lib.hid hp.out.symm
      clear hp
      by_cases hr0 : x % p = 0
      · obtain ⟨e1, e2⟩ := tdiv_neg_eq x p hr0
        have R := Lib.hid hr0
        clear hr0 r1 r2
        have hz : ((0 : Int) == p) = false := by simp; omega
        go_wp2
        go_ret
        exact ⟨ret_int (by rw [HP.out]; have := R.out; unfold half; rw [if_neg (by omega)]), rfl⟩
      · obtain ⟨e1, e2⟩ := tdiv_neg_ne x p hx (by omega) hr0
        have r3 : 0 < x % p := by omega
        clear hr0 r1
        by_cases c1 : p - x % p < x % p
        · go_wp2
          go_ret
          exact ⟨ret_int (by rw [HP.out]; unfold half; rw [if_pos (by omega)]), rfl⟩
        · by_cases c2 : x % p = p - x % p
          · have C2 := Lib.hid c2
            have c2' : (x % p == p - x % p) = true := by simpa using c2
            clear c2
            by_cases c3 : x / p % 2 = 1
            · have C3 := Lib.hid c3
              have c3' : ((x / p).tmod 2 != 0) = true := by rw [tmod_two]; simpa using c3
              clear c3
              go_wp2
              go_ret
              exact ⟨ret_int (by rw [HP.out]; have := C2.out; have := C3.out; unfold half; rw [if_pos (by omega)]), rfl⟩
            · have C3 := Lib.hid c3
              have c3' : ((x / p).tmod 2 != 0) = false := by rw [tmod_two]; simpa using c3
              clear c3
              go_wp2
              go_ret
              exact ⟨ret_int (by rw [HP.out]; have := C2.out; have := C3.out; unfold half; rw [if_neg (by omega)]), rfl⟩
          · have C2 := Lib.hid c2
            have c2' : (x % p == p - x % p) = false := by simpa using c2
            clear c2
            go_wp2
            go_ret
            exact ⟨ret_int (by rw [HP.out]; have := C2.out; unfold half; rw [if_neg (by omega)]), rfl⟩

theorem ref_pos (x n : Int) (hn : 1 ≤ n) (hn2 : n ≤ 62) (h1 : -9223372036854775808 ≤ x) (h2 : x ≤ 9223372036854775807) (hx : 0 ≤ x) (w : World) :
    Calls Tryz.prog 72 #[.int .i64 x, .int .i64 n] w fun e w' => e = .returned (.int .i64 (half x (2 ^ n.toNat))) ∧ w = w' := by
  go_enter Tryz.func72, Tryz.ntmps72
  go_wp2
  go_loop [5, 6] (fun d i => ∃ (k : Nat) (p : Int), k ≤ n.toNat ∧ i = .int .i64 k ∧ d = .int .i64 p ∧ Hid (p = 2 ^ k) ∧ 1 ≤ p ∧ p ≤ 4611686018427387904) (fun _ i => n.toNat - (intOf i).toNat)
  case atStart => exact ⟨0, 1, by omega, rfl, rfl, Lib.hid rfl, by omega, by omega⟩
  case round =>
    obtain ⟨k, p, hk, rfl, rfl, hp, p1, p2⟩ := hrel
    by_cases hlt : k < n.toNat
    · have hlt' : (k : Int) < n := by omega
      have P : Hid (p * 2 = 2 ^ (k + 1)) := Lib.hid (by rw [Int.pow_succ, hp.out])
      have p3 : p * 2 ≤ 4611686018427387904 := by
        have h := P.out
        have := pow_bounds (((k + 1 : Nat) : Int)) (by omega) (by omega)
        rw [Int.toNat_natCast] at this
        omega
      clear hp
      go_wp2
      go_round
      case rel => exact ⟨k + 1, p * 2, by omega, by go_num, rfl, P, by omega, by omega⟩
      case measure => simp [intOf]; omega
    · have hge : ¬ ((k : Int) < n) := by omega
      obtain rfl : k = n.toNat := by omega
      have hp2 : 2 ≤ p := by
        have h := hp.out
        have := pow_half n hn
        have := pow_bounds n (by omega) hn2
        have := pow_bounds (n - 1) (by omega) (by omega)
        rw [show (n - 1).toNat = n.toNat - 1 by omega] at this
        omega
      have hq := quo_bounds x p h1 h2 hp2
      have r1 := Int.emod_nonneg x (b := p) (by omega)
      have r2 := Int.emod_lt_of_pos x (b := p) (by omega)
      have HP := Lib.hid hp.out.symm
      clear hp
      have q0 : 0 ≤ x / p := Int.ediv_nonneg hx (by omega)
      by_cases c1 : p - x % p < x % p
      · go_wp2
        go_ret
        exact ⟨ret_int (by rw [HP.out]; unfold half; rw [if_pos (by omega)]), rfl⟩
      · by_cases c2 : x % p = p - x % p
        · have C2 := Lib.hid c2
          have c2' : (x % p == p - x % p) = true := by simpa using c2
          clear c2
          by_cases c3 : x / p % 2 = 1
          · have C3 := Lib.hid c3
            have c3' : (x / p % 2 != 0) = true := by simp only [bne_iff_ne]; omega
            clear c3
            go_wp2
            go_ret
            exact ⟨ret_int (by rw [HP.out]; have := C2.out; have := C3.out; unfold half; rw [if_pos (by omega)]), rfl⟩
          · have C3 := Lib.hid c3
            have c3' : (x / p % 2 != 0) = false := by simp only [bne_eq_false_iff_eq]; omega
            clear c3
            go_wp2
            go_ret
            exact ⟨ret_int (by rw [HP.out]; have := C2.out; have := C3.out; unfold half; rw [if_neg (by omega)]), rfl⟩
        · have C2 := Lib.hid c2
          have c2' : (x % p == p - x % p) = false := by simpa using c2
          clear c2
          go_wp2
          go_ret
          exact ⟨ret_int (by rw [HP.out]; have := C2.out; unfold half; rw [if_neg (by omega)]), rfl⟩

theorem ref_neg62 (x n : Int) (hn : 62 < n) (h1 : -9223372036854775808 ≤ x) (h2 : x ≤ 9223372036854775807) (hx : x < 0) (w : World) :
    Calls Tryz.prog 72 #[.int .i64 x, .int .i64 n] w fun e w' => e = .returned (.int .i64 (half x 4611686018427387904)) ∧ w = w' := by
  go_enter Tryz.func72, Tryz.ntmps72
  go_wp2
  go_loop [5, 6] (fun d i => ∃ (k : Nat) (p : Int), k ≤ 62 ∧ i = .int .i64 k ∧ d = .int .i64 p ∧ Hid (p = 2 ^ k) ∧ 1 ≤ p ∧ p ≤ 4611686018427387904) (fun _ i => 62 - (intOf i).toNat)
  case atStart => exact ⟨0, 1, by omega, rfl, rfl, Lib.hid rfl, by omega, by omega⟩
  case round =>
    obtain ⟨k, p, hk, rfl, rfl, hp, p1, p2⟩ := hrel
    by_cases hlt : k < 62
    · have hlt' : (k : Int) < 62 := by omega
      have P : Hid (p * 2 = 2 ^ (k + 1)) := Lib.hid (by rw [Int.pow_succ, hp.out])
      have p3 : p * 2 ≤ 4611686018427387904 := by
        have h := P.out
        have := pow_bounds (((k + 1 : Nat) : Int)) (by omega) (by omega)
        rw [Int.toNat_natCast] at this
        omega
      clear hp
      go_wp2
      go_round
      case rel => exact ⟨k + 1, p * 2, by omega, by go_num, rfl, P, by omega, by omega⟩
      case measure => simp [intOf]; omega
    · have hge : ¬ ((k : Int) < 62) := by omega
      obtain rfl : k = 62 := by omega
      have hp2 : 2 ≤ p := by
        have h := hp.out
        have : (2 : Int) ^ 62 = 4611686018427387904 := by decide
        omega
      have hq := quo_bounds x p h1 h2 hp2
      have r1 := Int.emod_nonneg x (b := p) (by omega)
      have r2 := Int.emod_lt_of_pos x (b := p) (by omega)
      have HP := hid62 hp.out
      clear hp
      by_cases hr0 : x % p = 0
      · obtain ⟨e1, e2⟩ := tdiv_neg_eq x p hr0
        have R := Lib.hid hr0
        clear hr0 r1 r2
        have hz : ((0 : Int) == p) = false := by simp; omega
        go_wp2
        go_ret
        exact ⟨ret_int (by rw [HP.out]; have := R.out; unfold half; rw [if_neg (by omega)]), rfl⟩
      · obtain ⟨e1, e2⟩ := tdiv_neg_ne x p hx (by omega) hr0
        have r3 : 0 < x % p := by omega
        clear hr0 r1
        by_cases c1 : p - x % p < x % p
        · go_wp2
          go_ret
          exact ⟨ret_int (by rw [HP.out]; unfold half; rw [if_pos (by omega)]), rfl⟩
        · by_cases c2 : x % p = p - x % p
          · have C2 := Lib.hid c2
            have c2' : (x % p == p - x % p) = true := by simpa using c2
            clear c2
            by_cases c3 : x / p % 2 = 1
            · have C3 := Lib.hid c3
              have c3' : ((x / p).tmod 2 != 0) = true := by rw [tmod_two]; simpa using c3
              clear c3
              go_wp2
              go_ret
              exact ⟨ret_int (by rw [HP.out]; have := C2.out; have := C3.out; unfold half; rw [if_pos (by omega)]), rfl⟩
            · have C3 := Lib.hid c3
              have c3' : ((x / p).tmod 2 != 0) = false := by rw [tmod_two]; simpa using c3
              clear c3
              go_wp2
              go_ret
              exact ⟨ret_int (by rw [HP.out]; have := C2.out; have := C3.out; unfold half; rw [if_neg (by omega)]), rfl⟩
          · have C2 := Lib.hid c2
            have c2' : (x % p == p - x % p) = false := by simpa using c2
            clear c2
            go_wp2
            go_ret
            exact ⟨ret_int (by rw [HP.out]; have := C2.out; unfold half; rw [if_neg (by omega)]), rfl⟩

theorem ref_pos62 (x n : Int) (hn : 62 < n) (h1 : -9223372036854775808 ≤ x) (h2 : x ≤ 9223372036854775807) (hx : 0 ≤ x) (w : World) :
    Calls Tryz.prog 72 #[.int .i64 x, .int .i64 n] w fun e w' => e = .returned (.int .i64 (half x 4611686018427387904)) ∧ w = w' := by
  go_enter Tryz.func72, Tryz.ntmps72
  go_wp2
  go_loop [5, 6] (fun d i => ∃ (k : Nat) (p : Int), k ≤ 62 ∧ i = .int .i64 k ∧ d = .int .i64 p ∧ Hid (p = 2 ^ k) ∧ 1 ≤ p ∧ p ≤ 4611686018427387904) (fun _ i => 62 - (intOf i).toNat)
  case atStart => exact ⟨0, 1, by omega, rfl, rfl, Lib.hid rfl, by omega, by omega⟩
  case round =>
    obtain ⟨k, p, hk, rfl, rfl, hp, p1, p2⟩ := hrel
    by_cases hlt : k < 62
    · have hlt' : (k : Int) < 62 := by omega
      have P : Hid (p * 2 = 2 ^ (k + 1)) := Lib.hid (by rw [Int.pow_succ, hp.out])
      have p3 : p * 2 ≤ 4611686018427387904 := by
        have h := P.out
        have := pow_bounds (((k + 1 : Nat) : Int)) (by omega) (by omega)
        rw [Int.toNat_natCast] at this
        omega
      clear hp
      go_wp2
      go_round
      case rel => exact ⟨k + 1, p * 2, by omega, by go_num, rfl, P, by omega, by omega⟩
      case measure => simp [intOf]; omega
    · have hge : ¬ ((k : Int) < 62) := by omega
      obtain rfl : k = 62 := by omega
      have hp2 : 2 ≤ p := by
        have h := hp.out
        have : (2 : Int) ^ 62 = 4611686018427387904 := by decide
        omega
      have hq := quo_bounds x p h1 h2 hp2
      have r1 := Int.emod_nonneg x (b := p) (by omega)
      have r2 := Int.emod_lt_of_pos x (b := p) (by omega)
      have HP := hid62 hp.out
      clear hp
      have q0 : 0 ≤ x / p := Int.ediv_nonneg hx (by omega)
      by_cases c1 : p - x % p < x % p
      · go_wp2
        go_ret
        exact ⟨ret_int (by rw [HP.out]; unfold half; rw [if_pos (by omega)]), rfl⟩
      · by_cases c2 : x % p = p - x % p
        · have C2 := Lib.hid c2
          have c2' : (x % p == p - x % p) = true := by simpa using c2
          clear c2
          by_cases c3 : x / p % 2 = 1
          · have C3 := Lib.hid c3
            have c3' : (x / p % 2 != 0) = true := by simp only [bne_iff_ne]; omega
            clear c3
            go_wp2
            go_ret
            exact ⟨ret_int (by rw [HP.out]; have := C2.out; have := C3.out; unfold half; rw [if_pos (by omega)]), rfl⟩
          · have C3 := Lib.hid c3
            have c3' : (x / p % 2 != 0) = false := by simp only [bne_eq_false_iff_eq]; omega
            clear c3
            go_wp2
            go_ret
            exact ⟨ret_int (by rw [HP.out]; have := C2.out; have := C3.out; unfold half; rw [if_neg (by omega)]), rfl⟩
        · have C2 := Lib.hid c2
          have c2' : (x % p == p - x % p) = false := by simpa using c2
          clear c2
          go_wp2
          go_ret
          exact ⟨ret_int (by rw [HP.out]; have := C2.out; unfold half; rw [if_neg (by omega)]), rfl⟩

theorem ref_shift (x n : Int) (h1 : -9223372036854775808 ≤ x) (h2 : x ≤ 9223372036854775807) (w : World) :
    Calls Tryz.prog 72 #[.int .i64 x, .int .i64 n] w fun e w' => e = .returned (.int .i64 (shr x n)) ∧ w = w' := by
  by_cases c0 : n ≤ 0
  · have hs : shr x n = x := by unfold shr near; rw [if_pos (by split <;> omega)]
    rw [hs]
    go_enter Tryz.func72, Tryz.ntmps72
    go_wp2
    go_ret
    exact ⟨rfl, rfl⟩
  · by_cases c1 : 62 < n
    · have hn : near n 0 62 = 62 := by unfold near; rw [if_neg (by omega), if_pos c1]
      have hs : shr x n = half x 4611686018427387904 := by unfold shr; rw [hn, if_neg (by decide)]; rfl
      rw [hs]
      by_cases hx : x < 0
      · exact ref_neg62 x n c1 h1 h2 hx w
      · exact ref_pos62 x n c1 h1 h2 (by omega) w
    · have hn : near n 0 62 = n := by unfold near; rw [if_neg (by omega), if_neg c1]
      have hs : shr x n = half x (2 ^ n.toNat) := by unfold shr; rw [hn, if_neg (by omega)]
      rw [hs]
      by_cases hx : x < 0
      · exact ref_neg x n (by omega) (by omega) h1 h2 hx w
      · exact ref_pos x n (by omega) (by omega) h1 h2 (by omega) w

end Go.Proofs.YtoeihigdndkjeaaGreatDoor

/-
  Contracts of products that are shifted down and brought to a range: Scale, Quant and the document's Scale return the product, shifted, brought to its range; memory stays as it was.
-/
namespace Go.Proofs.YtoeihigdndkjeaaGreatDoor
open Go.RowKit
set_option linter.unusedVariables false

/-! ### products, shifted and brought to a range -/
theorem prod_bounds (x y : Int) (hx1 : -2147483648 ≤ x) (hx2 : x ≤ 2147483647) (hy1 : -2147483648 ≤ y) (hy2 : y ≤ 2147483647) : -4611686018427387904 ≤ x * y ∧ x * y ≤ 4611686018427387904 := by
  have ha : (x * y).natAbs ≤ 2147483648 * 2147483648 := by
    rw [Int.natAbs_mul]
    exact Nat.mul_le_mul (by omega) (by omega)
  omega

theorem product (x y n : Int) (hx1 : -2147483648 ≤ x) (hx2 : x ≤ 2147483647) (hy1 : -2147483648 ≤ y) (hy2 : y ≤ 2147483647) (w : World) :
    Calls Tryz.prog 134 #[.int .i32 x, .int .i32 y, .int .i64 n] w fun e w' => e = .returned (.int .i64 (shr (x * y) n)) ∧ w = w' := by
  obtain ⟨b1, b2⟩ := prod_bounds x y hx1 hx2 hy1 hy2
  go_enter Tryz.func134, Tryz.ntmps134
  go_wp2_with (go_at_call 94; refine (shift _ _ (by omega) (by omega) _).mono ?_; rintro e w' ⟨rfl, rfl⟩)
  go_ret
  exact ⟨rfl, rfl⟩

theorem scale (x y n : Int) (hx1 : -2147483648 ≤ x) (hx2 : x ≤ 2147483647) (hy1 : -2147483648 ≤ y) (hy2 : y ≤ 2147483647) (w : World) :
    Calls Tryz.prog 125 #[.int .i32 x, .int .i32 y, .int .i64 n] w fun e w' => e = .returned (.int .i32 (near (shr (x * y) n) (-2147483648) 2147483647)) ∧ w = w' := by
  go_enter Tryz.func125, Tryz.ntmps125
  go_wp2_with (first | (go_at_call 134; refine (product _ _ _ hx1 hx2 hy1 hy2 _).mono ?_; rintro e w' ⟨rfl, rfl⟩) | (go_at_call 135; refine (sat32 _ _).mono ?_; rintro e w' ⟨rfl, rfl⟩))
  go_ret
  exact ⟨rfl, rfl⟩

theorem quant (x y n : Int) (hx1 : -2147483648 ≤ x) (hx2 : x ≤ 2147483647) (hy1 : -2147483648 ≤ y) (hy2 : y ≤ 2147483647) (w : World) :
    Calls Tryz.prog 123 #[.int .i32 x, .int .i32 y, .int .i64 n] w fun e w' => e = .returned (.int .i8 (near (shr (x * y) n) (-128) 127)) ∧ w = w' := by
  go_enter Tryz.func123, Tryz.ntmps123
  go_wp2_with (first | (go_at_call 134; refine (product _ _ _ hx1 hx2 hy1 hy2 _).mono ?_; rintro e w' ⟨rfl, rfl⟩) | (go_at_call 93; refine (sat8 _ _).mono ?_; rintro e w' ⟨rfl, rfl⟩))
  go_ret
  exact ⟨rfl, rfl⟩

theorem ref_scale (x y n lo hi : Int) (hx1 : -2147483648 ≤ x) (hx2 : x ≤ 2147483647) (hy1 : -2147483648 ≤ y) (hy2 : y ≤ 2147483647) (w : World) :
    Calls Tryz.prog 74 #[.int .i32 x, .int .i32 y, .int .i64 n, .int .i64 lo, .int .i64 hi] w fun e w' => e = .returned (.int .i64 (near (shr (x * y) n) lo hi)) ∧ w = w' := by
  obtain ⟨b1, b2⟩ := prod_bounds x y hx1 hx2 hy1 hy2
  go_enter Tryz.func74, Tryz.ntmps74
  go_wp2_with (first | (go_at_call 72; refine (ref_shift _ _ (by omega) (by omega) _).mono ?_; rintro e w' ⟨rfl, rfl⟩) | (go_at_call 70; refine (ref_near _ _ _ _).mono ?_; rintro e w' ⟨rfl, rfl⟩))
  go_ret
  exact ⟨rfl, rfl⟩

end Go.Proofs.YtoeihigdndkjeaaGreatDoor

/-
  What the kit says of slices, under its elder name.
-/

/-
  Contract of Quants: for every list of up to 2^24 numbers it returns a new slice that holds Quant of each; what was in memory stays.
-/
namespace Go.Proofs.YtoeihigdndkjeaaGreatDoor
open Go.RowKit
set_option linter.unusedVariables false

/-- what Quant gives -/
def qua (x y n : Int) : Int := near (shr (x * y) n) (-128) 127

theorem info_int8 : (Tryz.prog.info? 64).map (fun i => (i.zero, i.size, i.bytes)) = some (some (.int .i8 0), 1, 1) := by kernel_rfl

/-- k of the n numbers are written, the rest is 0 -/
def Filled (xs : List Int) (y m : Int) (n k : Nat) (cs : List Int) : Prop :=
  cs.length = n ∧ ∀ i, i < n → cs.getD i 0 = if i < k then qua (xs.getD i 0) y m else 0

theorem filled_start (xs : List Int) (y m : Int) (n : Nat) : Filled xs y m n 0 (List.replicate n 0) := by
  refine ⟨by simp, fun i hi => ?_⟩
  rw [if_neg (by omega), List.getD_eq_getElem?_getD, List.getElem?_replicate, if_pos hi]; rfl
theorem filled_step {xs : List Int} {y m : Int} {n k : Nat} {cs : List Int} (h : Filled xs y m n k cs) (hk : k < n) : Filled xs y m n (k + 1) (cs.set k (qua (xs.getD k 0) y m)) := by
  refine ⟨by simpa using h.1, fun i hi => ?_⟩
  rw [List.getD_eq_getElem?_getD, List.getElem?_set]
  by_cases e : k = i
  · subst e
    rw [if_pos rfl, if_pos (by rw [h.1]; exact hk), if_pos (by omega)]; rfl
  · rw [if_neg e, ← List.getD_eq_getElem?_getD, h.2 i hi]
    by_cases h2 : i < k
    · rw [if_pos h2, if_pos (by omega)]
    · rw [if_neg h2, if_neg (by omega)]
theorem filled_end {xs : List Int} {y m : Int} {n : Nat} {cs : List Int} (h : Filled xs y m n n cs) (hx : xs.length = n) : cs = xs.map (qua · y m) := by
  apply List.ext_getElem (by rw [h.1, List.length_map, hx])
  intro i h1 h2
  have h3 := h.2 i (by rw [← h.1]; exact h1)
  rw [if_pos (by rw [← h.1]; exact h1), List.getD_eq_getElem?_getD, List.getD_eq_getElem?_getD, List.getElem?_eq_getElem h1, List.getElem?_eq_getElem (by simpa using h2)] at h3
  simpa using h3
theorem qua_wf (x y n : Int) : (Lit.int .i8 (qua x y n)).wf = true := WalkArith.wf_i8 (near_in _ _ _ (by decide))

theorem make_zero (n : Nat) : (madeCells (Value.int .i8 0).cells (n * 1)).toList = (List.replicate n 0).map (Value.int .i8) := by
  rw [Nat.mul_one]
  apply List.ext_getElem (by simp [size_madeCells])
  intro i h1 h2
  simp [madeCells, Value.cells, Nat.mod_one]

set_option maxHeartbeats 400000 in
theorem quants_new (y m : Int) (a : Option Addr) (n cap : Nat) (xs : List Int) (w : World) (h : Elems .i32 w a n xs) (hn : n ≤ 16777216) (hy1 : -2147483648 ≤ y) (hy2 : y ≤ 2147483647) :
    Calls Tryz.prog 107 #[.int .i32 y, .int .i64 m, .slice a n cap] w fun e w' => ∃ g, e = .returned (.slice (some ⟨g, 0, none⟩) n n) ∧ w.heap.size ≤ g ∧ Elems .i8 w' (some ⟨g, 0, none⟩) n (xs.map (qua · y m)) ∧ Below w.heap.size w w' := by
  have hmk := run_make_row' (P := Tryz.prog) 24 64 (.int .i8 0) 1 Tryz.underlying24 info_int8 rfl .i64 .i64 n (by omega) (by omega)
  go_enter Tryz.func107, Tryz.ntmps107
  go_wp2
  go_loopw [15] (fun i wr => ∃ (k : Nat) (cs : List Int), k ≤ n ∧ i = .int .i64 k ∧ wr.ownsRow w.heap.size 64 1 (.slice (some ⟨w.heap.size, 0, none⟩) n n) n (cs.map (.int .i8)) ∧ Below w.heap.size w wr ∧ Hid (Filled xs y m n k cs)) (fun i _ => n - (intOf i).toNat)
  case atStart =>
    have hown := World.ownsRow_lit (e := 64) (size := 1) w (madeCells #[Value.int .i8 0] n) n (Nat.le_refl _) (by unfold maxLen; omega) (by rw [size_madeCells, Nat.mul_one])
    refine ⟨0, List.replicate n 0, by omega, rfl, ?_, (Below.refl _ _).alloc (Nat.le_refl _) _, Lib.hid (filled_start xs y m n)⟩
    rw [← make_zero n, Nat.mul_one]
    exact hown
  case round =>
    obtain ⟨k, cs, hk, rfl, hown, hbel, hfil⟩ := hrel
    by_cases hlt : k < n
    · have hE := h.below hbel
      obtain ⟨b, off, v, rfl, hc, hv, wv⟩ := hE.at_ hlt
      obtain ⟨v1, v2⟩ := wf32 wv
      have hf := hown.frozenAt k
      have hold : wr.cell? ⟨w.heap.size, k, none⟩ = some (.int .i8 (cs.getD k 0)) := by
        have hl := hfil.out.1
        rw [hown.cellAt k (by omega), List.getElem?_map, List.getD_eq_getElem?_getD, List.getElem?_eq_getElem (by omega)]; rfl
      obtain ⟨c, hcc⟩ : ∃ c, cs.getD k 0 = c := ⟨_, rfl⟩
      rw [hcc] at hold
      clear hcc
      have hq : ∀ w, Calls Tryz.prog 123 #[.int .i32 v, .int .i32 y, .int .i64 m] w fun e w' => e = .returned (.int .i8 (qua v y m)) ∧ w = w' := fun w => quant v y m v1 v2 hy1 hy2 w
      have hnew := (hown.stored k (.int .i8 (qua v y m))).1
      have hbel' := hbel.setCell (p := ⟨w.heap.size, k, none⟩) (Nat.le_refl _) (.int .i8 (qua v y m))
      have hfil' : Hid (Filled xs y m n (k + 1) (cs.set k (qua v y m))) := Lib.hid (by have := filled_step hfil.out hlt; rwa [hv.out] at this)
      rw [← List.map_set] at hnew
      clear hv hfil hE h hown hbel
      go_wp2_with (go_at_call 123; (with_reducible refine (hq _).mono ?_); rintro e w' ⟨rfl, rfl⟩)
      go_roundw
      case rel => exact ⟨k + 1, cs.set k (qua v y m), by omega, by go_num, hnew, hbel', hfil'⟩
      case measure => simp [intOf]; omega
    · obtain rfl : k = n := by omega
      have hl := h.1
      clear h
      go_wp2
      go_ret
      exact ⟨w.heap.size, rfl, Nat.le_refl _, by rw [← filled_end hfil.out hl]; exact own_elems hown (by omega) (by rw [filled_end hfil.out hl]; intro c hc; obtain ⟨x, _, rfl⟩ := List.mem_map.1 hc; exact qua_wf _ _ _), hbel⟩

theorem quants (y m : Int) (a : Option Addr) (n cap : Nat) (xs : List Int) (w : World) (h : Elems .i32 w a n xs) (hn : n ≤ 16777216) (hy1 : -2147483648 ≤ y) (hy2 : y ≤ 2147483647) :
    Calls Tryz.prog 107 #[.int .i32 y, .int .i64 m, .slice a n cap] w fun e w' => ∃ g, e = .returned (.slice (some ⟨g, 0, none⟩) n n) ∧ Elems .i8 w' (some ⟨g, 0, none⟩) n (xs.map (qua · y m)) ∧ Below w.heap.size w w' :=
  (quants_new y m a n cap xs w h hn hy1 hy2).mono fun _ _ ⟨g, h1, _, h3, h4⟩ => ⟨g, h1, h3, h4⟩

end Go.Proofs.YtoeihigdndkjeaaGreatDoor

/-
  Contracts of Root and Inverse and of the document's: each returns the greatest r with r times r not above its number; memory stays as it was.
-/
namespace Go.Proofs.YtoeihigdndkjeaaGreatDoor
open Go.RowKit
set_option linter.unusedVariables false

/-- r is the whole root of n -/
def IsRoot (n r : Int) : Prop := 0 ≤ r ∧ r * r ≤ n ∧ n < (r + 1) * (r + 1)

theorem sq_le {a b : Int} (h0 : 0 ≤ a) (h : a ≤ b) : a * a ≤ b * b := Int.mul_le_mul h h h0 (by omega)

theorem IsRoot.unique {n r s : Int} (h : IsRoot n r) (g : IsRoot n s) : r = s := by
  rcases Int.lt_or_le r s with h1 | h1
  · have := sq_le (a := r + 1) (b := s) (by have := h.1; omega) (by omega)
    have := h.2.2; have := g.2.1; omega
  · rcases Int.lt_or_le s r with h2 | h2
    · have := sq_le (a := s + 1) (b := r) (by have := g.1; omega) (by omega)
      have := g.2.2; have := h.2.1; omega
    · omega

theorem ofInt_nat (x : Nat) (h : x ≤ 18446744073709551615) : (BitVec.ofInt 64 (x : Int)).toNat = x := by
  rw [BitVec.toNat_ofInt]
  have : (((2 ^ 64 : Nat) : Int)) = 18446744073709551616 := by decide
  rw [this]; omega

theorem or_bit (m j : Nat) (hj : j ≤ 31) (hm : 2 ^ (j + 1) * m + 2 ^ j ≤ 4294967295) : bits .or .u64 ((2 ^ (j + 1) * m : Nat) : Int) ((2 ^ j : Nat) : Int) = ((2 ^ (j + 1) * m + 2 ^ j : Nat) : Int) := by
  have hb : bits .or .u64 ((2 ^ (j + 1) * m : Nat) : Int) ((2 ^ j : Nat) : Int) = IntKind.u64.wrap (((BitVec.ofInt 64 ((2 ^ (j + 1) * m : Nat) : Int)) ||| (BitVec.ofInt 64 ((2 ^ j : Nat) : Int))).toNat : Nat) := rfl
  have hlt : 2 ^ j < 2 ^ (j + 1) := by rw [Nat.pow_succ]; have := Nat.two_pow_pos j; omega
  have e3 := Nat.two_pow_add_eq_or_of_lt hlt m
  rw [hb, BitVec.toNat_or, ofInt_nat _ (by omega), ofInt_nat _ (by omega), ← e3]
  exact IntWalk.u64_in _ ⟨by omega, by omega⟩

/-- behind the k lowest bits' rounds: the root's upper bits stand -/
def Upper (n : Int) (k : Nat) (r b : Int) : Prop :=
  ∃ m : Nat, r = ((2 ^ k * m : Nat) : Int) ∧ b = ((2 ^ k / 2 : Nat) : Int) ∧ k ≤ 32 ∧ 2 ^ k * m + 2 ^ k ≤ 4294967296 ∧ r * r ≤ n ∧ n < (r + ((2 ^ k : Nat) : Int)) * (r + ((2 ^ k : Nat) : Int))

theorem Upper.done {n r b : Int} (h : Upper n 0 r b) : b = 0 ∧ IsRoot n r ∧ r ≤ 4294967295 := by
  obtain ⟨m, hr, hb, _, hm, h1, h2⟩ := h
  simp only [Nat.pow_zero, Nat.one_mul] at hr hb hm h2
  refine ⟨by simpa using hb, ⟨by omega, h1, h2⟩, by omega⟩

theorem Upper.step {n r b : Int} {k : Nat} (h : Upper n k r b) (hk : k ≠ 0) :
    ∃ x, bits .or .u64 r b = x ∧ 0 ≤ r ∧ r ≤ 4294967295 ∧ 0 < b ∧ b ≤ 2147483648 ∧ 0 ≤ x ∧ x ≤ 4294967295 ∧ 0 ≤ x * x ∧ x * x ≤ 18446744065119617025 ∧ (x * x ≤ n → Upper n (k - 1) x (b / 2)) ∧ (¬ x * x ≤ n → Upper n (k - 1) r (b / 2)) := by
  obtain ⟨m, hr, hb, hk2, hm, h1, h2⟩ := h
  obtain ⟨j, rfl⟩ : ∃ j, k = j + 1 := ⟨k - 1, by omega⟩
  have hp := Nat.two_pow_pos j
  have hps : 2 ^ (j + 1) = 2 * 2 ^ j := by rw [Nat.pow_succ]; omega
  have hj31 : 2 ^ j ≤ 2 ^ 31 := Nat.pow_le_pow_right (by decide) (by omega)
  have h31 : (2 : Nat) ^ 31 = 2147483648 := by decide
  have hor := or_bit m j (by omega) (by omega)
  have hb' : b = ((2 ^ j : Nat) : Int) := by rw [hb, hps]; congr 1; omega
  have hq : b / 2 = ((2 ^ j / 2 : Nat) : Int) := by rw [hb']; omega
  rw [← hr, ← hb'] at hor
  have hx0 : (0 : Int) ≤ ((2 ^ (j + 1) * m + 2 ^ j : Nat) : Int) ∧ ((2 ^ (j + 1) * m + 2 ^ j : Nat) : Int) ≤ 4294967295 := by omega
  have hxr : ((2 ^ (j + 1) * m + 2 ^ j : Nat) : Int) = r + ((2 ^ j : Nat) : Int) := by rw [hr]; omega
  refine ⟨_, hor, by omega, by omega, by omega, by omega, hx0.1, hx0.2, Int.mul_nonneg hx0.1 hx0.1, ?_, ?_, ?_⟩
  · have := sq_le hx0.1 hx0.2; omega
  · intro hle
    refine ⟨2 * m + 1, ?_, hq, by omega, ?_, hle, ?_⟩
    · congr 1; rw [hps, Nat.mul_assoc, Nat.add_sub_cancel, Nat.mul_add, Nat.mul_left_comm]; omega
    · rw [Nat.add_sub_cancel, Nat.mul_add, Nat.mul_left_comm]; rw [hps, Nat.mul_assoc] at hm; omega
    · rw [Nat.add_sub_cancel, hxr, Int.add_assoc]
      have : ((2 ^ j : Nat) : Int) + ((2 ^ j : Nat) : Int) = ((2 ^ (j + 1) : Nat) : Int) := by rw [hps]; omega
      rw [this]; exact h2
  · intro hgt
    refine ⟨2 * m, ?_, hq, by omega, ?_, h1, ?_⟩
    · rw [hr]; congr 1; rw [hps, Nat.add_sub_cancel, Nat.mul_assoc, Nat.mul_left_comm]
    · rw [Nat.add_sub_cancel, Nat.mul_left_comm]; rw [hps, Nat.mul_assoc] at hm; omega
    · rw [Nat.add_sub_cancel, ← hxr]; omega

theorem root (n : Int) (h0 : 0 ≤ n) (h1 : n ≤ 18446744073709551615) (w : World) :
    Calls Tryz.prog 116 #[.int .u64 n] w fun e w' => (∃ r, e = .returned (.int .u64 r) ∧ IsRoot n r ∧ r ≤ 4294967295) ∧ w = w' := by
  have hU : Upper n 32 0 2147483648 := ⟨0, by decide, by decide, by omega, by decide, by omega, by
    have : ((0 : Int) + ((2 ^ 32 : Nat) : Int)) * ((0 : Int) + ((2 ^ 32 : Nat) : Int)) = 18446744073709551616 := by decide
    rw [this]; omega⟩
  have HU := Lib.hid hU
  clear hU
  go_enter Tryz.func116, Tryz.ntmps116
  go_wp2
  go_loop [3, 4] (fun r b => ∃ (k : Nat) (rr bb : Int), r = .int .u64 rr ∧ b = .int .u64 bb ∧ Hid (Upper n k rr bb)) (fun _ b => (intOf b).toNat)
  case atStart => exact ⟨32, 0, 2147483648, rfl, rfl, HU⟩
  case round =>
    obtain ⟨k, rr, bb, rfl, rfl, hU⟩ := hrel
    clear HU
    by_cases hz : k = 0
    · subst hz
      obtain ⟨rfl, hR, hr2⟩ := hU.out.done
      have HR := Lib.hid hR
      clear hU hR
      go_wp2
      go_ret
      exact ⟨⟨_, rfl, HR.out, hr2⟩, rfl⟩
    · obtain ⟨x, hor, r0, r1, b0, b1, x0, x1, p0, p1, hyes, hno⟩ := hU.out.step hz
      have HY := Lib.hid hyes
      have HN := Lib.hid hno
      clear hU hyes hno hz
      by_cases hc : x * x ≤ n
      · go_wp2
        go_round
        case rel => exact ⟨k - 1, x, bb / 2, rfl, rfl, Lib.hid (HY.out hc)⟩
        case measure => simp [intOf]; omega
      · go_wp2
        go_round
        case rel => exact ⟨k - 1, rr, bb / 2, rfl, rfl, Lib.hid (HN.out hc)⟩
        case measure => simp [intOf]; omega

/-- n, or 1 -/
def one_of (n : Int) : Int := if n = 0 then 1 else n

theorem inverse (n : Int) (h0 : 0 ≤ n) (h1 : n ≤ 18446744073709551615) (w : World) :
    Calls Tryz.prog 91 #[.int .u64 n] w fun e w' => (∃ r, e = .returned (.int .u64 r) ∧ IsRoot (281474976710656 / one_of n) r ∧ r ≤ 4294967295) ∧ w = w' := by
  have hb : 1 ≤ one_of n ∧ one_of n ≤ 18446744073709551615 := by unfold one_of; split <;> omega
  have hq0 : 0 ≤ 281474976710656 / one_of n := Int.ediv_nonneg (by decide) (by omega)
  have hq1 : 281474976710656 / one_of n ≤ 281474976710656 := Int.ediv_le_self _ (by decide)
  have hr := root (281474976710656 / one_of n) hq0 (by omega) w
  by_cases c : n = 0
  · subst c
    have e : one_of 0 = 1 := rfl
    rw [e] at hr ⊢
    go_enter Tryz.func91, Tryz.ntmps91
    go_wp2_with fail
    refine hr.mono ?_
    rintro e w' ⟨⟨r, rfl, hR⟩, rfl⟩
    have HR := Lib.hid hR
    clear hR
    go_wp2
    go_ret
    exact ⟨⟨_, rfl, HR.out⟩, rfl⟩
  · have e : one_of n = n := by unfold one_of; rw [if_neg c]
    rw [e] at hr hq0 hq1 ⊢
    have c1 : 1 ≤ n := by omega
    clear hb e
    go_enter Tryz.func91, Tryz.ntmps91
    go_wp2_with fail
    refine hr.mono ?_
    rintro e w' ⟨⟨r, rfl, hR⟩, rfl⟩
    have HR := Lib.hid hR
    clear hR
    go_wp2
    go_ret
    exact ⟨⟨_, rfl, HR.out⟩, rfl⟩

end Go.Proofs.YtoeihigdndkjeaaGreatDoor

/-
  Contracts of layer 5's near and meanSquare: a number brought to its range; the mean of the squares of a row, without its rest. They read memory alone.
-/
namespace Go.Proofs.YtoeihigdndkjeaaGreatDoor
open Go.RowKit
set_option linter.unusedVariables false

/-- a number, brought to the range of a row -/
def nr (x : Int) : Int := near x (-8388608) 8388607
theorem nr_bd (x : Int) : -8388608 ≤ nr x ∧ nr x ≤ 8388607 := near_in x _ _ (by decide)
theorem nr_sq (x : Int) : 0 ≤ nr x * nr x ∧ nr x * nr x ≤ 70368744177664 := by
  have h := nr_bd x
  have h1 : (nr x * nr x).natAbs ≤ 8388608 * 8388608 := by rw [Int.natAbs_mul]; exact Nat.mul_le_mul (by omega) (by omega)
  have h2 : 0 ≤ nr x * nr x := by
    rcases Int.le_total 0 (nr x) with h0 | h0
    · exact Int.mul_nonneg h0 h0
    · exact Int.mul_nonneg_of_nonpos_of_nonpos h0 h0
  omega
/-- the sum of the squares -/
def sqs (xs : List Int) : Int := (xs.map fun x => nr x * nr x).sum
theorem sqs_step (xs : List Int) (k : Nat) (hk : k < xs.length) : sqs (xs.take (k + 1)) = sqs (xs.take k) + nr (xs.getD k 0) * nr (xs.getD k 0) := by
  unfold sqs
  rw [List.take_add_one, List.map_append, List.sum_append]
  simp [List.getD, List.getElem?_eq_getElem hk]
theorem sqs_bd (xs : List Int) : 0 ≤ sqs xs ∧ sqs xs ≤ xs.length * 70368744177664 := by
  induction xs with
  | nil => simp [sqs]
  | cons x xs ih =>
    have e : sqs (x :: xs) = nr x * nr x + sqs xs := by simp [sqs]
    have h := nr_sq x
    rw [e, List.length_cons]; push_cast; omega
/-- the mean square -/
def msq (xs : List Int) : Int := sqs xs / (xs.length : Int)
theorem msq_bd (xs : List Int) : 0 ≤ msq xs ∧ msq xs ≤ 70368744177664 := by
  have h := sqs_bd xs
  unfold msq
  refine ⟨Int.ediv_nonneg h.1 (by omega), ?_⟩
  by_cases h0 : xs.length = 0
  · rw [h0]; simp
  · exact Int.ediv_le_of_le_mul (by omega) (by rw [Int.mul_comm]; exact h.2)

/-- there is a root of every number -/
theorem root_ex (n : Nat) : ∃ r : Int, IsRoot n r := by
  induction n with
  | zero => exact ⟨0, by unfold IsRoot; decide⟩
  | succ n ih =>
    obtain ⟨r, h0, h1, h2⟩ := ih
    by_cases c : (r + 1) * (r + 1) ≤ ((n + 1 : Nat) : Int)
    · refine ⟨r + 1, by omega, c, ?_⟩
      rw [Int.add_mul (r + 1) 1 (r + 1 + 1), Int.mul_add (r + 1) (r + 1) 1]
      push_cast; omega
    · exact ⟨r, h0, by push_cast; omega, by omega⟩
/-- I is the number that a row of mean square m is brought to its size by -/
def IsInv (m I : Int) : Prop := IsRoot (281474976710656 / one_of m) I
theorem inv_ex (m : Int) (h : 0 ≤ m) : ∃ I, IsInv m I := by
  obtain ⟨r, hr⟩ := root_ex (281474976710656 / one_of m).toNat
  refine ⟨r, ?_⟩
  have h1 : 0 ≤ 281474976710656 / one_of m := Int.ediv_nonneg (by decide) (by unfold one_of; split <;> omega)
  rw [Int.toNat_of_nonneg h1] at hr
  exact hr
theorem inv_bd {m I : Int} (h : 0 ≤ m) (hI : IsInv m I) : 0 ≤ I ∧ I ≤ 16777216 := by
  refine ⟨hI.1, ?_⟩
  have h1 : 281474976710656 / one_of m ≤ 281474976710656 := Int.ediv_le_self _ (by decide)
  rcases Int.lt_or_le 16777216 I with h2 | h2
  · exfalso
    have h3 : 16777217 * 16777217 ≤ I * I := Int.mul_le_mul (by omega) (by omega) (by decide) (by omega)
    have := hI.2.1
    omega
  · exact h2
theorem inverse_is (m I : Int) (h0 : 0 ≤ m) (h1 : m ≤ 18446744073709551615) (hI : IsInv m I) (w : World) :
    Calls Tryz.prog 91 #[.int .u64 m] w fun e w' => e = .returned (.int .u64 I) ∧ w = w' :=
  (inverse m h0 h1 w).mono (by rintro e w' ⟨⟨s, rfl, hs, _⟩, rfl⟩; exact ⟨by rw [hs.unique hI], rfl⟩)

theorem near5 (x : Int) (h1 : -2147483648 ≤ x) (h2 : x ≤ 2147483647) (w : World) :
    Calls Tryz.prog 95 #[.int .i32 x] w fun e w' => e = .returned (.int .i64 (nr x)) ∧ w = w' := by
  by_cases c1 : x < -8388608
  · go_enter Tryz.func95, Tryz.ntmps95
    go_wp2
    go_ret
    exact ⟨ret_int (by unfold nr near; omega), rfl⟩
  · by_cases c2 : x ≤ 8388607
    · go_enter Tryz.func95, Tryz.ntmps95
      go_wp2
      go_ret
      exact ⟨ret_int (by unfold nr near; omega), rfl⟩
    · go_enter Tryz.func95, Tryz.ntmps95
      go_wp2
      go_ret
      exact ⟨ret_int (by unfold nr near; omega), rfl⟩

theorem mean_square (a : Option Addr) (n cap : Nat) (xs : List Int) (w : World) (h : Elems .i32 w a n xs) (h0 : 0 < n) (hn : n ≤ 4096) :
    Calls Tryz.prog 92 #[.slice a n cap] w fun e w' => e = .returned (.int .u64 (msq xs)) ∧ w = w' := by
  have HL := Lib.hid h.1
  go_enter Tryz.func92, Tryz.ntmps92
  go_wp2
  go_loop [3, 9] (fun s i => ∃ (k : Nat) (q : Int), k ≤ n ∧ i = .int .i64 k ∧ s = .int .u64 q ∧ Hid (q = sqs (xs.take k)) ∧ 0 ≤ q ∧ q ≤ k * 70368744177664) (fun _ i => n - (intOf i).toNat)
  case atStart => exact ⟨0, 0, by omega, rfl, rfl, Lib.hid (by simp [sqs]), by omega, by omega⟩
  case round =>
    obtain ⟨k, q, hk, rfl, rfl, hq, q0, q1⟩ := hrel
    by_cases hlt : k < n
    · obtain ⟨b, off, v, rfl, hc, hv, wv⟩ := h.at_ hlt
      have hst : Hid (q + nr v * nr v = sqs (xs.take (k + 1))) := Lib.hid (by rw [sqs_step xs k (by rw [HL.out]; exact hlt), hq.out, hv.out])
      have hb := nr_sq v
      obtain ⟨v1, v2⟩ := wf32 wv
      have hnr := near5 v v1 v2
      obtain ⟨y, hy⟩ : ∃ y, nr v = y := ⟨_, rfl⟩
      rw [hy] at hst hb hnr
      obtain ⟨p0, p1⟩ := hb
      clear h hv wv hq hy
      go_wp2_with (go_at_call 95; refine (hnr _).mono ?_; rintro e w' ⟨rfl, rfl⟩)
      go_round
      case rel => exact ⟨k + 1, q + y * y, by omega, by go_num, rfl, hst, by omega, by push_cast; omega⟩
      case measure => simp [intOf]; omega
    · obtain rfl : k = n := by omega
      have hq2 : Hid (q / (k : Int) = msq xs) := Lib.hid (by unfold msq; rw [HL.out, hq.out, List.take_of_length_le (by rw [HL.out]; omega)])
      have hz : ((k : Int) == 0) = false := by simp; omega
      clear h hq
      go_wp2
      go_ret
      exact ⟨ret_int hq2.out, rfl⟩

end Go.Proofs.YtoeihigdndkjeaaGreatDoor

/-
  Grids as they stand in memory: one by value, a slice of them; tables of numbers by row and column; which grids are right.
-/
namespace Go.Proofs.YtoeihigdndkjeaaGreatDoor
open Go.RowKit
set_option linter.unusedVariables false

theorem bcell {W W1 : World} (hb : Below W.heap.size W W1) : (∀ b o, b < W.heap.size → W1.cell? ⟨b, o, none⟩ = W.cell? ⟨b, o, none⟩) ∧ (∀ b o, b < W.heap.size → W1.frozen? ⟨b, o, none⟩ = W.frozen? ⟨b, o, none⟩) :=
  ⟨fun b o h => hb.cell (p := ⟨b, o, none⟩) h, fun b o h => hb.frozen (p := ⟨b, o, none⟩) h⟩

/-- a result of three cells is stored in a new block -/
theorem below_res {w w1 : World} (hb : Below w.heap.size w w1) {b : Nat} (h : w.heap.size ≤ b) (p q r : Value) : Below w.heap.size w (((w1.setCell ⟨b, 0, none⟩ p).setCell ⟨b, 1, none⟩ q).setCell ⟨b, 2, none⟩ r) :=
  ((hb.setCell (p := ⟨b, 0, none⟩) h _).setCell (p := ⟨b, 1, none⟩) h _).setCell (p := ⟨b, 2, none⟩) h _
/-- a block of three cells, as it was laid, behind a stretch -/
theorem three_cells {w wb : World} {p q r : Value} {T : TypeId} (hb : Below (w.alloc (.cells #[p, q, r] T)).heap.size (w.alloc (.cells #[p, q, r] T)) wb) :
    w.heap.size < wb.heap.size ∧ wb.cell? ⟨w.heap.size, 0, none⟩ = some p ∧ wb.cell? ⟨w.heap.size, 1, none⟩ = some q ∧ wb.cell? ⟨w.heap.size, 2, none⟩ = some r ∧ wb.frozen? ⟨w.heap.size, 0, none⟩ = false ∧ wb.frozen? ⟨w.heap.size, 1, none⟩ = false ∧ wb.frozen? ⟨w.heap.size, 2, none⟩ = false := by
  obtain ⟨hcl, hfr⟩ := bcell hb
  have hsz := hb.size
  simp at hsz
  refine ⟨hsz, ?_, ?_, ?_, ?_, ?_, ?_⟩
  · rw [hcl _ _ (by simp)]; simp
  · rw [hcl _ _ (by simp)]; simp
  · rw [hcl _ _ (by simp)]; simp
  · rw [hfr _ _ (by simp)]; simp
  · rw [hfr _ _ (by simp)]; simp
  · rw [hfr _ _ (by simp)]; simp

theorem add_plain' (b off i : Nat) : (⟨b, off, none⟩ : Addr).add i = ⟨b, off + i, none⟩ := by
  unfold Addr.add
  split
  · rename_i e; subst e; rfl
  · rfl

/-- a side of a right grid -/
def sideB (x : Int) : Bool := decide (0 ≤ x ∧ x ≤ 4096)
theorem sideB_yes {x : Int} (h : sideB x = true) : 0 ≤ x ∧ x ≤ 4096 := by unfold sideB at h; exact of_decide_eq_true h
theorem sideB_no {x : Int} (h : sideB x = false) : x < 0 ∨ 4096 < x := by unfold sideB at h; have := of_decide_eq_false h; omega

/-- a grid as it stands: its sides, where its numbers lie, and what they are -/
structure Gr where
  r : Int
  c : Int
  a : Option Addr
  n : Nat
  cap : Nat
  v : List Int
deriving Inhabited

/-- what is known of where a slice lies, whatever its length -/
def Sl (a : Option Addr) (cap : Nat) : Prop := (a = none → cap = 0) ∧ ∀ x, a = some x → 0 < cap → x.spot = none

/-- the grid g may stand so in w -/
def Gr.In (w : World) (g : Gr) : Prop :=
  Elems .i32 w g.a g.n g.v ∧ g.n ≤ g.cap ∧ g.cap ≤ 9223372036854775807 ∧ Sl g.a g.cap ∧ -9223372036854775808 ≤ g.r ∧ g.r ≤ 9223372036854775807 ∧ -9223372036854775808 ≤ g.c ∧ g.c ≤ 9223372036854775807

theorem Gr.In.below {w w' : World} {g : Gr} (h : g.In w) (hb : Below w.heap.size w w') : g.In w' := ⟨h.1.below hb, h.2⟩

/-- is it right? -/
def rightB (r c : Int) (n : Nat) : Bool := sideB r && (sideB c && decide ((n : Int) = r * c))
/-- is it right, and not too large? -/
def fitB (r c : Int) (n : Nat) : Bool := rightB r c n && decide (n ≤ 1048576)

theorem rightB_yes {r c : Int} {n : Nat} (h : rightB r c n = true) : ∃ R C : Nat, r = R ∧ c = C ∧ R ≤ 4096 ∧ C ≤ 4096 ∧ n = R * C := by
  unfold rightB at h
  simp only [Bool.and_eq_true, decide_eq_true_eq] at h
  obtain ⟨h1, h2, h3⟩ := h
  have h1 := sideB_yes h1
  have h2 := sideB_yes h2
  refine ⟨r.toNat, c.toNat, by omega, by omega, by omega, by omega, ?_⟩
  have e1 : r = (r.toNat : Int) := by omega
  have e2 : c = (c.toNat : Int) := by omega
  rw [e1, e2] at h3
  exact_mod_cast h3
theorem rightB_nat (R C : Nat) (hR : R ≤ 4096) (hC : C ≤ 4096) : rightB R C (R * C) = true := by
  unfold rightB sideB
  simp only [Bool.and_eq_true, decide_eq_true_eq]
  exact ⟨by omega, by omega, by push_cast; rfl⟩
theorem fitB_yes {r c : Int} {n : Nat} (h : fitB r c n = true) : ∃ R C : Nat, r = R ∧ c = C ∧ R ≤ 4096 ∧ C ≤ 4096 ∧ n = R * C ∧ R * C ≤ 1048576 := by
  unfold fitB at h
  simp only [Bool.and_eq_true, decide_eq_true_eq] at h
  obtain ⟨R, C, h1, h2, h3, h4, h5⟩ := rightB_yes h.1
  exact ⟨R, C, h1, h2, h3, h4, h5, by omega⟩
theorem fitB_nat (R C : Nat) (hR : R ≤ 4096) (hC : C ≤ 4096) (h : R * C ≤ 1048576) : fitB R C (R * C) = true := by
  unfold fitB; rw [rightB_nat R C hR hC]; simpa using h

/-- A slice of grids at a (a matters only where n is above 0). -/
def Grids (w : World) (a : Option Addr) (n : Nat) (gs : List Gr) : Prop :=
  gs.length = n ∧ n ≤ 9223372036854775807 ∧ (∀ g ∈ gs, g.In w) ∧
    (0 < n → ∃ b off, a = some ⟨b, off, none⟩ ∧ ∀ i, i < n → w.cell? ⟨b, off + i * 3, none⟩ = some (.int .i64 (gs.getD i default).r) ∧ w.cell? ⟨b, off + i * 3 + 1, none⟩ = some (.int .i64 (gs.getD i default).c) ∧
      w.cell? ⟨b, off + i * 3 + 2, none⟩ = some (.slice (gs.getD i default).a (gs.getD i default).n (gs.getD i default).cap))

theorem Grids.below {w w' : World} {a : Option Addr} {n : Nat} {gs : List Gr} (h : Grids w a n gs) (hb : Below w.heap.size w w') : Grids w' a n gs := by
  refine ⟨h.1, h.2.1, fun g hg => (h.2.2.1 g hg).below hb, fun hn => ?_⟩
  obtain ⟨b, off, rfl, hc⟩ := h.2.2.2 hn
  refine ⟨b, off, rfl, fun i hi => ?_⟩
  obtain ⟨h0, h1, h2⟩ := hc i hi
  exact ⟨(hb.cell (p := ⟨b, _, none⟩) (World.block_lt_of_cell? _ _ h0)).trans h0, (hb.cell (p := ⟨b, _, none⟩) (World.block_lt_of_cell? _ _ h1)).trans h1, (hb.cell (p := ⟨b, _, none⟩) (World.block_lt_of_cell? _ _ h2)).trans h2⟩

/-- one of them, as a round of a loop wants it -/
theorem Grids.at_ {w : World} {a : Option Addr} {n : Nat} {gs : List Gr} (h : Grids w a n gs) {i : Nat} (hi : i < n) :
    ∃ b off g, a = some ⟨b, off, none⟩ ∧ b < w.heap.size ∧ w.cell? ⟨b, off + i * 3, none⟩ = some (.int .i64 g.r) ∧ w.cell? ⟨b, off + i * 3 + 1, none⟩ = some (.int .i64 g.c) ∧ w.cell? ⟨b, off + i * 3 + 2, none⟩ = some (.slice g.a g.n g.cap) ∧
      Hid (gs.getD i default = g) ∧ g.In w := by
  obtain ⟨b, off, rfl, hc⟩ := h.2.2.2 (by omega)
  obtain ⟨h0, h1, h2⟩ := hc i hi
  refine ⟨b, off, _, rfl, World.block_lt_of_cell? _ _ h0, h0, h1, h2, Lib.hid rfl, h.2.2.1 _ ?_⟩
  rw [List.getD_eq_getElem?_getD, List.getElem?_eq_getElem (by rw [h.1]; exact hi)]
  exact List.getElem_mem _

theorem Grids.nil_ (w : World) (a : Option Addr) : Grids w a 0 [] := ⟨rfl, by omega, by simp, fun h => absurd h (by omega)⟩

/-- one grid, laid in a block of its own -/
theorem grids_one {w : World} {T : TypeId} {b : Nat} (g : Gr) (h : g.In w) (hb : b = w.heap.size) : Grids (w.alloc (.cells #[.int .i64 g.r, .int .i64 g.c, .slice g.a g.n g.cap] T)) (some ⟨b, 0, none⟩) 1 [g] := by
  subst hb
  refine ⟨rfl, by omega, ?_, fun _ => ⟨w.heap.size, 0, rfl, fun i hi => ?_⟩⟩
  · intro x hx
    simp only [List.mem_singleton] at hx
    subst hx
    exact h.below ((Below.refl _ _).alloc (Nat.le_refl _) _)
  · obtain rfl : i = 0 := by omega
    simp only [World.cell?_alloc_new]
    exact ⟨rfl, rfl, rfl⟩
/-- two grids, laid in a block of their own -/
theorem grids_two {w : World} {T : TypeId} {b : Nat} (g k : Gr) (h : g.In w) (h2 : k.In w) (hb : b = w.heap.size) : Grids (w.alloc (.cells #[.int .i64 g.r, .int .i64 g.c, .slice g.a g.n g.cap, .int .i64 k.r, .int .i64 k.c, .slice k.a k.n k.cap] T)) (some ⟨b, 0, none⟩) 2 [g, k] := by
  subst hb
  refine ⟨rfl, by omega, ?_, fun _ => ⟨w.heap.size, 0, rfl, fun i hi => ?_⟩⟩
  · intro x hx
    simp only [List.mem_cons, List.not_mem_nil, or_false] at hx
    rcases hx with rfl | rfl
    · exact h.below ((Below.refl _ _).alloc (Nat.le_refl _) _)
    · exact h2.below ((Below.refl _ _).alloc (Nat.le_refl _) _)
  · match i, hi with
    | 0, _ => simp only [World.cell?_alloc_new]; exact ⟨rfl, rfl, rfl⟩
    | 1, _ => simp only [World.cell?_alloc_new]; exact ⟨rfl, rfl, rfl⟩

/-! ### tables -/

/-- the numbers f i j of r rows and c columns, row by row -/
def tab (r c : Nat) (f : Nat → Nat → Int) : List Int := (List.range r).flatMap fun i => (List.range c).map (f i)

theorem tab_zero (c : Nat) (f : Nat → Nat → Int) : tab 0 c f = [] := rfl
theorem tab_succ (r c : Nat) (f : Nat → Nat → Int) : tab (r + 1) c f = tab r c f ++ (List.range c).map (f r) := by
  unfold tab; rw [List.range_succ, List.flatMap_append]; simp
theorem tab_length (r c : Nat) (f : Nat → Nat → Int) : (tab r c f).length = r * c := by
  induction r with
  | zero => simp [tab_zero]
  | succ r ih => rw [tab_succ, List.length_append, ih, List.length_map, List.length_range, Nat.succ_mul]
theorem row_lt {R C i j : Nat} (hi : i < R) (hj : j < C) : i * C + j < R * C := by
  have : (i + 1) * C ≤ R * C := Nat.mul_le_mul_right C hi
  rw [Nat.succ_mul] at this; omega
theorem row_le {R C i : Nat} (hi : i < R) : i * C + C ≤ R * C := by
  have : (i + 1) * C ≤ R * C := Nat.mul_le_mul_right C hi
  rw [Nat.succ_mul] at this; omega
theorem tab_at (r c : Nat) (f : Nat → Nat → Int) (i j : Nat) (hi : i < r) (hj : j < c) : (tab r c f).getD (i * c + j) 0 = f i j := by
  induction r with
  | zero => omega
  | succ r ih =>
    rw [tab_succ]
    by_cases h : i < r
    · have hl := row_lt h hj
      rw [List.getD_eq_getElem?_getD, List.getElem?_append_left (by rw [tab_length]; exact hl), ← List.getD_eq_getElem?_getD]
      exact ih h
    · obtain rfl : i = r := by omega
      rw [List.getD_eq_getElem?_getD, List.getElem?_append_right (by rw [tab_length]; omega), tab_length, show i * c + j - i * c = j by omega]
      simp [hj]
theorem tab_congr (r c : Nat) (f g : Nat → Nat → Int) (h : ∀ i j, i < r → j < c → f i j = g i j) : tab r c f = tab r c g := by
  induction r with
  | zero => rfl
  | succ r ih =>
    rw [tab_succ, tab_succ, ih (fun i j hi hj => h i j (by omega) hj)]
    congr 1
    apply List.map_congr_left
    intro j hj
    exact h r j (by omega) (List.mem_range.1 hj)
/-- every list of r times c numbers is a table -/
theorem tab_of (r c : Nat) (xs : List Int) (h : xs.length = r * c) : tab r c (fun i j => xs.getD (i * c + j) 0) = xs := by
  apply List.ext_getElem (by rw [tab_length, h])
  intro k h1 h2
  have hc : 0 < c := by
    rcases Nat.eq_zero_or_pos c with e | e
    · subst e; rw [h] at h2; omega
    · exact e
  have hk : k / c * c + k % c = k := by rw [Nat.mul_comm]; exact Nat.div_add_mod k c
  have hj : k % c < c := Nat.mod_lt k hc
  have hi : k / c < r := by
    rw [Nat.div_lt_iff_lt_mul hc]; omega
  have := tab_at r c (fun i j => xs.getD (i * c + j) 0) (k / c) (k % c) hi hj
  simp only [hk] at this
  rw [List.getD_eq_getElem?_getD, List.getElem?_eq_getElem h1, List.getD_eq_getElem?_getD, List.getElem?_eq_getElem h2] at this
  simpa using this
theorem tab_wf {r c : Nat} {f : Nat → Nat → Int} (h : ∀ i j, i < r → j < c → (Lit.int .i32 (f i j)).wf = true) : ∀ x ∈ tab r c f, (Lit.int .i32 x).wf = true := by
  intro x hx
  unfold tab at hx
  rw [List.mem_flatMap] at hx
  obtain ⟨i, hi, hx⟩ := hx
  obtain ⟨j, hj, rfl⟩ := List.mem_map.1 hx
  exact h i j (List.mem_range.1 hi) (List.mem_range.1 hj)

/-- the first i rows, and j numbers of row i -/
def pre (c : Nat) (f : Nat → Nat → Int) (i j : Nat) : List Int := tab i c f ++ (List.range j).map (f i)
theorem pre_zero (c : Nat) (f : Nat → Nat → Int) : pre c f 0 0 = [] := rfl
theorem pre_next (c : Nat) (f : Nat → Nat → Int) (i j : Nat) : pre c f i (j + 1) = pre c f i j ++ [f i j] := by
  unfold pre; rw [List.range_succ, List.map_append, ← List.append_assoc]; rfl
theorem pre_row (c : Nat) (f : Nat → Nat → Int) (i : Nat) : pre c f i c = pre c f (i + 1) 0 := by
  unfold pre; rw [tab_succ]; simp
theorem pre_tab (c : Nat) (f : Nat → Nat → Int) (i : Nat) : pre c f i 0 = tab i c f := by unfold pre; simp
theorem pre_length (c : Nat) (f : Nat → Nat → Int) (i j : Nat) : (pre c f i j).length = i * c + j := by unfold pre; simp [tab_length]

/-- row i of a table, as a list -/
def rowOf (xs : List Int) (c i : Nat) : List Int := (xs.drop (i * c)).take c
theorem rowOf_at (xs : List Int) (c i j : Nat) (hj : j < c) : (rowOf xs c i).getD j 0 = xs.getD (i * c + j) 0 := by
  unfold rowOf
  rw [List.getD_eq_getElem?_getD, List.getElem?_take_of_lt hj, List.getElem?_drop, ← List.getD_eq_getElem?_getD]
theorem rowOf_map (xs : List Int) (r c i : Nat) (h : xs.length = r * c) (hi : i < r) : rowOf xs c i = (List.range c).map fun j => xs.getD (i * c + j) 0 := by
  have hl := row_le (C := c) hi
  apply List.ext_getElem (by unfold rowOf; simp; omega)
  intro j h1 h2
  have hj : j < c := by simpa using h2
  have := rowOf_at xs c i j hj
  rw [List.getD_eq_getElem?_getD, List.getElem?_eq_getElem h1] at this
  simpa using this

end Go.Proofs.YtoeihigdndkjeaaGreatDoor

/-
  A block of numbers that the call itself made, known whole; what a stretch leaves of it; copy into it; what a function that fills rows is asked.
-/
namespace Go.Proofs.YtoeihigdndkjeaaGreatDoor
open Go.RowKit
set_option linter.unusedVariables false

/-- block g holds the numbers cs, and none of its cells is frozen -/
def Mine (w : World) (g : Nat) (e : TypeId) (cs : List Int) : Prop := w.heap[g]? = some (.cells (cs.map (Value.int .i32)).toArray e (0, 0))

section
variable {w w' : World} {g : Nat} {e : TypeId} {cs : List Int}
theorem Mine.lt (h : Mine w g e cs) : g < w.heap.size := (Array.getElem?_eq_some_iff.1 h).1
theorem Mine.cell (h : Mine w g e cs) {k : Nat} (hk : k < cs.length) : w.cell? ⟨g, k, none⟩ = some (.int .i32 (cs.getD k 0)) := by
  rw [cell_of_row w g k _ e (0, 0) h]
  simp [List.getD, hk]
theorem Mine.frozen (h : Mine w g e cs) (k : Nat) : w.frozen? ⟨g, k, none⟩ = false := frozen_of_row w g k _ e h
theorem Mine.set (h : Mine w g e cs) (k : Nat) (v : Int) : Mine (w.setCell ⟨g, k, none⟩ (.int .i32 v)) g e (cs.set k v) := by
  have := heap_setCell_same w g k _ e (.int .i32 v) h
  unfold Mine
  rw [this]
  congr 2
  simp [List.map_set]
theorem Mine.kept (h : Mine w g e cs) {row : Option Nat} (hg : w.grownBy w' row) (hne : some g ≠ row) : Mine w' g e cs := (hg.block g h.lt hne).trans h
theorem Mine.drewN (h : Mine w g e cs) (d : Nat) : Mine (w.drewN d) g e cs := h
theorem Mine.alloc (h : Mine w g e cs) (o : Obj) : Mine (w.alloc o) g e cs := h.kept (World.grownBy_alloc w o none) (by simp)
theorem Mine.below {B : Nat} (h : Mine w g e cs) (hb : Below B w w') (hg : g < B) : Mine w' g e cs := (hb.block g hg).trans h
end

theorem Mine.elems {w : World} {g n : Nat} {e : TypeId} {cs : List Int} (h : Mine w g e cs) (hl : cs.length = n) (hn : n ≤ 9223372036854775807) (hw : ∀ x ∈ cs, (Lit.int .i32 x).wf = true) : Elems .i32 w (some ⟨g, 0, none⟩) n cs :=
  ⟨hl, hn, hw, fun _ => ⟨g, 0, rfl, fun i hi => by rw [Nat.zero_add]; exact h.cell (by omega)⟩⟩
theorem getD_wf {k : IntKind} {xs : List Int} (h : ∀ x ∈ xs, (Lit.int k x).wf = true) (h0 : (Lit.int k 0).wf = true) (i : Nat) : (Lit.int k (xs.getD i 0)).wf = true := by
  by_cases hi : i < xs.length
  · exact h _ (getD_mem hi)
  · rw [List.getD_eq_getElem?_getD, List.getElem?_eq_none (by omega)]; exact h0
theorem Elems.blk {k : IntKind} {w : World} {a : Option Addr} {n : Nat} {xs : List Int} (h : Elems k w a n xs) : ∀ x, a = some x → 0 < n → x.block < w.heap.size := by
  intro x hx hn
  obtain ⟨b, off, he, hc⟩ := h.2.2.2 hn
  rw [hx] at he
  cases he
  exact World.block_lt_of_cell? _ _ (hc 0 hn)
theorem Elems.spot {k : IntKind} {w : World} {a : Option Addr} {n : Nat} {xs : List Int} (h : Elems k w a n xs) : ∀ x, a = some x → 0 < n → x.spot = none := by
  intro x hx hn
  obtain ⟨b, off, he, _⟩ := h.2.2.2 hn
  rw [hx] at he
  cases he; rfl

theorem grownBy_refl (w : World) (row : Option Nat) : w.grownBy w row := ⟨rfl, rfl, rfl, Nat.le_refl _, fun _ _ _ => rfl⟩
theorem grownBy_setCell (w : World) (g k : Nat) (v : Value) : w.grownBy (w.setCell ⟨g, k, none⟩ v) (some g) :=
  ⟨rfl, rfl, rfl, by simp, fun i _ hi => heap_setCell_other w ⟨g, k, none⟩ i v (fun e => hi (by simp [e]))⟩
theorem grownBy_setRow (w : World) (g : Nat) (cs : Array Value) : w.grownBy (w.setRow g cs) (some g) :=
  ⟨rfl, rfl, rfl, by simp [World.setRow], fun i _ hi => setRow_other w g i cs (fun e => hi (by simp [e]))⟩
theorem grownBy_drewN (w : World) (n : Nat) (row : Option Nat) : w.grownBy (w.drewN n) row := ⟨rfl, rfl, rfl, Nat.le_refl _, fun _ _ _ => rfl⟩
theorem grownBy_drew (w : World) (row : Option Nat) : w.grownBy w.drew row := ⟨rfl, rfl, rfl, Nat.le_refl _, fun _ _ _ => rfl⟩
/-- numbers that lie in another block stay -/
theorem Elems.other {k : IntKind} {w w' : World} {b off n g : Nat} {xs : List Int} (h : Elems k w (some ⟨b, off, none⟩) n xs) (hg : w.grownBy w' (some g)) (hne : b ≠ g) : Elems k w' (some ⟨b, off, none⟩) n xs := h.grown hg (by simpa using hne)
theorem grownBy_below {w w' : World} (h : Below w.heap.size w w') (row : Option Nat) : w.grownBy w' row := ⟨h.os, h.tape, h.output, h.size, fun k hk _ => h.block k hk⟩
/-- what a stretch that wrote block g alone leaves of all that lay ahead of it -/
theorem below_grown {w0 w w' : World} {g : Nat} (hb : Below w0.heap.size w0 w) (hg : w.grownBy w' (some g)) (hle : w0.heap.size ≤ g) : Below w0.heap.size w0 w' :=
  hb.grown hg hb.size (fun k hk => by cases hk; exact hle)

theorem grownBy_res (w : World) (b : Nat) (p q r : Value) : w.grownBy (((w.setCell ⟨b, 0, none⟩ p).setCell ⟨b, 1, none⟩ q).setCell ⟨b, 2, none⟩ r) (some b) :=
  ((grownBy_setCell w b 0 p).trans (grownBy_setCell _ b 1 q)).trans (grownBy_setCell _ b 2 r)

/-- three cells of block b, none of them frozen -/
def Box3 (w : World) (b : Nat) (p q r : Value) : Prop :=
  b < w.heap.size ∧ w.cell? ⟨b, 0, none⟩ = some p ∧ w.cell? ⟨b, 1, none⟩ = some q ∧ w.cell? ⟨b, 2, none⟩ = some r ∧ w.frozen? ⟨b, 0, none⟩ = false ∧ w.frozen? ⟨b, 1, none⟩ = false ∧ w.frozen? ⟨b, 2, none⟩ = false
theorem Box3.kept {w w' : World} {b : Nat} {p q r : Value} (h : Box3 w b p q r) {row : Option Nat} (hg : w.grownBy w' row) (hne : some b ≠ row) : Box3 w' b p q r := by
  obtain ⟨h1, c0, c1, c2, f0, f1, f2⟩ := h
  have hbk := hg.block b h1 hne
  have hc : ∀ o, w'.cell? ⟨b, o, none⟩ = w.cell? ⟨b, o, none⟩ := fun o => World.cell?_of_block (a := ⟨b, o, none⟩) hbk
  have hf : ∀ o, w'.frozen? ⟨b, o, none⟩ = w.frozen? ⟨b, o, none⟩ := fun o => World.frozen?_of_block (a := ⟨b, o, none⟩) hbk
  exact ⟨Nat.lt_of_lt_of_le h1 hg.size, (hc 0).trans c0, (hc 1).trans c1, (hc 2).trans c2, (hf 0).trans f0, (hf 1).trans f1, (hf 2).trans f2⟩
theorem Box3.below {w w' : World} {b : Nat} {p q r : Value} (h : Box3 w b p q r) (hb : Below w.heap.size w w') : Box3 w' b p q r := h.kept (grownBy_below hb none) (by simp)
theorem Box3.alloc {w : World} {b : Nat} {p q r : Value} (h : Box3 w b p q r) (o : Obj) : Box3 (w.alloc o) b p q r := h.kept (World.grownBy_alloc w o none) (by simp)
theorem cell_keep {w w' : World} {a : Addr} {v : Value} (h : w.cell? a = some v) (hb : Below w.heap.size w w') : w'.cell? a = some v := (hb.cell (World.block_lt_of_cell? _ _ h)).trans h
theorem cell_alloc {w : World} {a : Addr} {v : Value} (h : w.cell? a = some v) (o : Obj) : (w.alloc o).cell? a = some v := cell_keep h ((Below.refl _ _).alloc (Nat.le_refl _) o)
theorem cell1_at {w : World} {b : Nat} (hb : b = w.heap.size) (v : Value) (T : TypeId) : (w.alloc (.cells #[v] T)).cell? ⟨b, 0, none⟩ = some v := by subst hb; simp
theorem Box3.set2 {w : World} {b : Nat} {p q r : Value} (h : Box3 w b p q r) (v : Value) : Box3 (w.setCell ⟨b, 2, none⟩ v) b p q v := by
  obtain ⟨h1, c0, c1, c2, f0, f1, f2⟩ := h
  refine ⟨by simpa using h1, ?_, ?_, World.cell?_setCell_same _ _ _ c2, ?_, ?_, ?_⟩
  · rw [World.cell?_setCell_other _ _ _ _ (by simp)]; exact c0
  · rw [World.cell?_setCell_other _ _ _ _ (by simp)]; exact c1
  · rw [World.frozen?_setCell]; exact f0
  · rw [World.frozen?_setCell]; exact f1
  · rw [World.frozen?_setCell]; exact f2
theorem box3_at {w : World} {b : Nat} (hb : b = w.heap.size) (p q r : Value) (T : TypeId) : Box3 (w.alloc (.cells #[p, q, r] T)) b p q r := by subst hb; exact three_cells (Below.refl _ _)
theorem box3_new (w : World) (p q r : Value) (T : TypeId) : Box3 (w.alloc (.cells #[p, q, r] T)) w.heap.size p q r := three_cells (Below.refl _ _)

/-- copy into a block that is known whole: of it, its row of cells behind, and what of the world stays -/
theorem wpList_copy_mine {P : Program} {w : World} {ops : Array Oper} {rest : List Oper} {o : Oper} {a : Act} {Q : Exit → Act → World → Prop} (hgd : o.guard = none) (d s : Operand) (dT sT : TypeId)
    (ho : o.op = .call { callee := .builtin .copy, args := #[d, s], argTypes := #[dT, sT] }) (elem : TypeId) (hu : P.underlying dT = some (.slice elem)) (hsz : (P.info? elem).map (·.size) = some 1)
    (dp sp : Option Addr) (dLen dCap sLen sCap : Nat) (hd : a.eval d = .slice dp dLen dCap) (hs : a.eval s = .slice sp sLen sCap)
    (g off : Nat) (cur : List Int) (t : TypeId) (hg : Mine w g t cur) (cs : List Int) (hn : cs.length = Nat.min sLen dLen)
    (hpos : 0 < cs.length → dp = some ⟨g, off, none⟩ ∧ Elems .i32 w sp cs.length cs)
    (hfit : off + cs.length ≤ cur.length)
    (h : ∀ w', Mine w' g t (splice cur off cs) → w.grownBy w' (some g) → wpList P ops Q rest (a.put o.dst (goInt cs.length)) w') :
    wpList P ops Q (o :: rest) a w := by
  by_cases h0 : cs.length = 0
  · obtain rfl : cs = [] := List.eq_nil_of_length_eq_zero h0
    refine wpList_copy_nothing hgd d s dT sT ho elem hu hsz dp sp dLen dCap sLen sCap hd hs (by simpa using hn.symm) ?_
    exact h w (by simpa [splice] using hg) (grownBy_refl _ _)
  · obtain ⟨rfl, hE⟩ := hpos (by omega)
    obtain ⟨b, so, rfl, hcell⟩ := hE.2.2.2 (by omega)
    have hN := hE.news
    refine wpList_copy_own hgd d s dT sT ho elem hu hsz g off dLen dCap ⟨b, so, none⟩ sLen sCap hd hs _ t hg (cs.map (.int .i32)) (by simpa using hn) hN (by simpa using hfit) (ints_one cs) ?_
    have := h (w.setRow g _) (by
      unfold Mine
      have := setRow_heap w g _ ((List.map (Value.int .i32) cur).toArray.toList.take off ++ (cs.map (Value.int .i32) ++ (List.map (Value.int .i32) cur).toArray.toList.drop (off + (cs.map (Value.int .i32)).length))).toArray t (0, 0) hg
      rw [this]
      simp [splice, List.map_append, List.map_take, List.map_drop]) (grownBy_setRow w g _)
    simpa using this

/-- copy, as a run -/
theorem run_copy_mine {P : Program} {w : World} (dT sT ty elem : TypeId) (hu : P.underlying dT = some (.slice elem)) (hsz : (P.info? elem).map (·.size) = some 1)
    (dp sp : Option Addr) (dLen dCap sLen sCap : Nat)
    (g off : Nat) (cur : List Int) (t : TypeId) (hg : Mine w g t cur) (cs : List Int) (hn : cs.length = Nat.min sLen dLen)
    (hpos : 0 < cs.length → dp = some ⟨g, off, none⟩ ∧ Elems .i32 w sp cs.length cs)
    (hfit : off + cs.length ≤ cur.length) :
    ∃ w', Sem.run P (Builtin.copy_ #[dT, sT] ty #[.slice dp dLen dCap, .slice sp sLen sCap]) w = .ok (.int .i64 (cs.length : Nat)) w' ∧ Mine w' g t (splice cur off cs) ∧ w.grownBy w' (some g) := by
  by_cases h0 : cs.length = 0
  · obtain rfl : cs = [] := List.eq_nil_of_length_eq_zero h0
    have hrun := run_copy_none (P := P) w dT sT ty elem dp sp dLen dCap sLen sCap hu hsz (by simpa using hn.symm)
    exact ⟨w, hrun, by simpa [splice] using hg, grownBy_refl _ _⟩
  · obtain ⟨rfl, hE⟩ := hpos (by omega)
    obtain ⟨b, so, rfl, hcell⟩ := hE.2.2.2 (by omega)
    have hN := hE.news
    have hrun := run_copy_row (P := P) w dT sT ty elem g off dLen dCap ⟨b, so, none⟩ sLen sCap _ t (cs.map (.int .i32)) hu hsz hg (by simpa using hn) hN (by simpa using hfit) (ints_one cs)
    rw [List.length_map] at hrun
    refine ⟨_, hrun, ?_, grownBy_setRow w g _⟩
    unfold Mine
    rw [setRow_heap w g _ _ t _ hg]
    simp [splice, List.map_append, List.map_take, List.map_drop]

theorem splice_at (L : List Int) (off : Nat) (cs : List Int) (h : off + cs.length ≤ L.length) (k : Nat) : (splice L off cs).getD k 0 = if off ≤ k ∧ k < off + cs.length then cs.getD (k - off) 0 else L.getD k 0 := by
  unfold splice
  rw [List.getD_eq_getElem?_getD, List.getElem?_append, List.length_take, Nat.min_eq_left (by omega)]
  split
  · rename_i h1
    rw [if_neg (by omega), List.getElem?_take_of_lt h1, List.getD_eq_getElem?_getD]
  · rename_i h1
    rw [List.getElem?_append]
    split
    · rename_i h2
      rw [if_pos (by omega), List.getD_eq_getElem?_getD]
    · rename_i h2
      rw [if_neg (by omega), List.getElem?_drop, List.getD_eq_getElem?_getD]
      congr 2; omega

/-- the row 'row' of cs has turned to the numbers f row 0, f row 1 ..; the others stay -/
def RowSet (f : Nat → Nat → Int) (R C row : Nat) (cs cs' : List Int) : Prop :=
  cs'.length = R * C ∧ ∀ i j, i < R → j < C → cs'.getD (i * C + j) 0 = if i = row then f row j else cs.getD (i * C + j) 0

/-- the rows ahead of 'row' are filled, the others are of noughts -/
def RowsSet (f : Nat → Nat → Int) (R C row : Nat) (cs : List Int) : Prop :=
  cs.length = R * C ∧ ∀ i j, i < R → j < C → cs.getD (i * C + j) 0 = if i < row then f i j else 0

theorem rowsSet_start (f : Nat → Nat → Int) (R C : Nat) : RowsSet f R C 0 (List.replicate (R * C) 0) := by
  refine ⟨by simp, fun i j hi hj => ?_⟩
  have := row_lt hi hj
  rw [if_neg (by omega), List.getD_eq_getElem?_getD, List.getElem?_replicate, if_pos this]; rfl
theorem rowsSet_step {f : Nat → Nat → Int} {R C row : Nat} {cs cs' : List Int} (h : RowsSet f R C row cs) (h' : RowSet f R C row cs cs') : RowsSet f R C (row + 1) cs' := by
  refine ⟨h'.1, fun i j hi hj => ?_⟩
  rw [h'.2 i j hi hj]
  split
  · rename_i e; subst e; rw [if_pos (by omega)]
  · rw [h.2 i j hi hj]
    by_cases h2 : i < row
    · rw [if_pos h2, if_pos (by omega)]
    · rw [if_neg h2, if_neg (by omega)]
theorem rowsSet_end {f : Nat → Nat → Int} {R C : Nat} {cs : List Int} (h : RowsSet f R C R cs) : cs = tab R C f := by
  rw [← tab_of R C cs h.1]
  exact tab_congr _ _ _ _ fun i j hi hj => by rw [h.2 i j hi hj, if_pos hi]
/-- a row is laid by copy -/
theorem rowSet_splice {f : Nat → Nat → Int} {R C row : Nat} {cs : List Int} (h : cs.length = R * C) (hr : row < R) (ys : List Int) (hl : ys.length = C) (hy : ∀ j, j < C → ys.getD j 0 = f row j) : RowSet f R C row cs (splice cs (row * C) ys) := by
  have hle := row_le (C := C) hr
  refine ⟨by rw [length_splice _ _ _ (by omega), h], fun i j hi hj => ?_⟩
  rw [splice_at _ _ _ (by omega)]
  by_cases e : i = row
  · subst e
    rw [if_pos ⟨by omega, by omega⟩, if_pos rfl, show i * C + j - i * C = j by omega, hy j hj]
  · rw [if_neg e, if_neg]
    intro ⟨h1, h2⟩
    rcases Nat.lt_or_ge i row with h3 | h3
    · have := row_le (C := C) h3; omega
    · have : row < i := by omega
      have := row_le (C := C) this; omega

/-- the row 'row' of cs has turned to h 0, h 1 ..; the others stay -/
def RowIs (h : Nat → Int) (R C row : Nat) (cs cs' : List Int) : Prop :=
  cs'.length = R * C ∧ ∀ i j, i < R → j < C → cs'.getD (i * C + j) 0 = if i = row then h j else cs.getD (i * C + j) 0

theorem rowIs_start {R C row : Nat} {cs : List Int} (hl : cs.length = R * C) (hz : ∀ j, j < C → cs.getD (row * C + j) 0 = 0) : RowIs (fun _ => 0) R C row cs cs := by
  refine ⟨hl, fun i j hi hj => ?_⟩
  split
  · rename_i e; subst e; exact hz j hj
  · rfl
theorem RowIs.at_ {h : Nat → Int} {R C row : Nat} {cs cs' : List Int} (H : RowIs h R C row cs cs') (hr : row < R) {j : Nat} (hj : j < C) : cs'.getD (row * C + j) 0 = h j := by rw [H.2 row j hr hj, if_pos rfl]
theorem RowIs.congr {h h' : Nat → Int} {R C row : Nat} {cs cs' : List Int} (H : RowIs h R C row cs cs') (e : ∀ j, j < C → h j = h' j) : RowIs h' R C row cs cs' := by
  refine ⟨H.1, fun i j hi hj => ?_⟩
  rw [H.2 i j hi hj, e j hj]
theorem RowIs.set {h h' : Nat → Int} {R C row k : Nat} {v : Int} {cs cs' : List Int} (H : RowIs h R C row cs cs') (hr : row < R) (hk : k < C) (hv : h' k = v) (ho : ∀ j, j < C → j ≠ k → h' j = h j) : RowIs h' R C row cs (cs'.set (row * C + k) v) := by
  refine ⟨by simpa using H.1, fun i j hi hj => ?_⟩
  have hrk := row_lt hr hk
  rw [List.getD_eq_getElem?_getD, List.getElem?_set]
  by_cases e : i = row
  · subst e
    rw [if_pos rfl]
    by_cases e2 : k = j
    · subst e2
      rw [if_pos rfl, if_pos (by rw [H.1]; exact hrk), hv]; rfl
    · rw [if_neg (by omega), ← List.getD_eq_getElem?_getD, H.at_ hr hj, ho j hj (Ne.symm e2)]
  · rw [if_neg e, if_neg, ← List.getD_eq_getElem?_getD, H.2 i j hi hj, if_neg e]
    intro h1
    rcases Nat.lt_or_ge i row with h3 | h3
    · have := row_le (C := C) h3; omega
    · have h4 : row < i := by omega
      have := row_le (C := C) h4; omega
theorem RowIs.rowSet {h : Nat → Int} {f : Nat → Nat → Int} {R C row : Nat} {cs cs' : List Int} (H : RowIs h R C row cs cs') (e : ∀ j, j < C → h j = f row j) : RowSet f R C row cs cs' := H.congr e

/-- WHAT A FUNCTION THAT FILLS ROWS IS ASKED: in whatever world in which all that lay in w0 lies unturned, handed a row of noughts of a block that was made since, it lays f's numbers there, and turns nothing else. -/
def Fills (P : Program) (fn : Nat) (lb : Array Value) (w0 : World) (e : TypeId) (R C : Nat) (f : Nat → Nat → Int) : Prop :=
  ∀ (W : World) (row : Nat) (a : Option Addr) (cap g : Nat) (cs : List Int), row < R → Below w0.heap.size w0 W → w0.heap.size ≤ g → Mine W g e cs → cs.length = R * C → (0 < C → a = some ⟨g, row * C, none⟩) → C ≤ cap → cap ≤ 9223372036854775807 →
    (∀ j, j < C → cs.getD (row * C + j) 0 = 0) →
    Calls P fn (#[.int .i64 row, .slice a C cap] ++ lb) W fun x W' => x = .returned (.tuple #[]) ∧ ∃ cs', W.grownBy W' (some g) ∧ Mine W' g e cs' ∧ RowSet f R C row cs cs'

/-- an append whose run is known, at a step of a region that draws its order -/
theorem step_append_run {P : Program} {w w' : World} {ops : Array Oper} {o : Oper} {a : Act} {K : Act → World → Prop} {Q : Exit → Act → World → Prop} {E : Prop} (hgd : o.guard = none) (s x : Operand) (t : TypeId)
    (ho : o.op = .call { callee := .builtin .append, args := #[s, x], argTypes := #[t, t] }) (v1 v2 : Value) (hs : a.eval s = v1) (hx : a.eval x = v2) {v : Value}
    (hrun : Sem.run P (Builtin.append_ #[t, t] o.type #[v1, v2]) w = .ok v w') (h : K (a.put o.dst v) w') :
    if Region.wanted o (yielded ops a.tmps) = true then Oper.wp P o a w K Q else E := by
  have hw : Region.wanted o (yielded ops a.tmps) = true := by simp [Region.wanted, hgd]
  rw [if_pos hw]
  unfold Oper.wp execOp
  simp only [ho, resolve, invoke, builtin, Sem.run_bind, Sem.run_pure, Result.andThen_ok, List.map_toArray, List.map_cons, List.map_nil, hs, hx, hrun]
  exact h

/-- a row that the call owns is in a block of its own type -/
theorem own_grown {w w' : World} {base : Nat} {e : TypeId} {size n : Nat} {v : Value} {xs : List Value} (h : w.ownsRow base e size v n xs) {g : Nat} (hg : w.grownBy w' (some g)) (hlt : g < base) : w'.ownsRow base e size v n xs :=
  h.kept hg (by cases hv : v.ownBlock with
    | none => exact .inl rfl
    | some k => exact .inr (by have := (h.lt k hv).1; simp; omega))

/-- one number more, behind a row of the call's own: the append as a run -/
theorem run_append_one (w : World) (base : Nat) (v : Value) (m : Nat) (cs : List Int) (x : Int) (hown : w.ownsRow base 21 1 v m (cs.map (.int .i32))) (hm : m ≤ 16777216) (hbase : base ≤ w.heap.size) :
    ∃ g cap w', Sem.run Tryz.prog (Builtin.append_ #[36, 36] 36 #[v, .slice (some ⟨w.heap.size, 0, none⟩) 1 1]) (w.alloc (.cells #[.int .i32 x] 21)) = .ok (.slice (some ⟨g, 0, none⟩) (m + 1) cap) w' ∧
      w'.ownsRow base 21 1 (.slice (some ⟨g, 0, none⟩) (m + 1) cap) (m + 1) ((cs ++ [x]).map (.int .i32)) ∧ w.grownBy w' v.ownBlock ∧ w.heap.size < w'.heap.size := by
  obtain ⟨i0, hi, hz0, hz1, hz2⟩ : ∃ i, Tryz.prog.info? 21 = some i ∧ i.zero = some (.int .i32 0) ∧ i.size = 1 ∧ i.bytes = 4 := by
    have h := info_int32
    cases hh : Tryz.prog.info? 21 with
    | none => rw [hh] at h; cases h
    | some i =>
      rw [hh] at h
      simp only [Option.map_some, Option.some.injEq, Prod.mk.injEq] at h
      exact ⟨i, rfl, h.1, h.2.1, h.2.2⟩
  obtain ⟨v', w', hr, h2, h3, _⟩ := run_append_own (P := Tryz.prog) (w.alloc (.cells #[.int .i32 x] 21)) base 36 36 21 i0 _ 1 4 Tryz.underlying36 hi hz0 hz1 hz2 rfl (by omega) v m _ (hown.alloc _)
    ⟨w.heap.size, 0, none⟩ 1 1 [.int .i32 x] rfl (World.news_of_block (cs := #[.int .i32 x]) (t := 21) (fr := (0, 0)) (heap_alloc_new w _)) one_cell (by unfold maxLen; omega) (by omega) (by simp; omega)
  rcases h2.2 with ⟨_, h0⟩ | ⟨g, cap, cur, rfl, hb, hg, hnc, hcm, hcs, ht⟩
  · omega
  · refine ⟨g, cap, w', hr, by simpa using h2, (World.grownBy_alloc w _ _).trans h3, ?_⟩
    have := h3.size
    simp at this
    omega

/-- the same for numbers of 64 bits -/
theorem run_append_one64 (w : World) (base : Nat) (v : Value) (m : Nat) (cs : List Int) (x : Int) (hown : w.ownsRow base 2 1 v m (cs.map (.int .i64))) (hm : m ≤ 16777216) (hbase : base ≤ w.heap.size) :
    ∃ g cap w', Sem.run Tryz.prog (Builtin.append_ #[149, 149] 149 #[v, .slice (some ⟨w.heap.size, 0, none⟩) 1 1]) (w.alloc (.cells #[.int .i64 x] 2)) = .ok (.slice (some ⟨g, 0, none⟩) (m + 1) cap) w' ∧
      w'.ownsRow base 2 1 (.slice (some ⟨g, 0, none⟩) (m + 1) cap) (m + 1) ((cs ++ [x]).map (.int .i64)) ∧ w.grownBy w' v.ownBlock ∧ w.heap.size < w'.heap.size := by
  obtain ⟨i0, hi, hz0, hz1, hz2⟩ : ∃ i, Tryz.prog.info? 2 = some i ∧ i.zero = some (.int .i64 0) ∧ i.size = 1 ∧ i.bytes = 8 := by
    have h := info_int64
    cases hh : Tryz.prog.info? 2 with
    | none => rw [hh] at h; cases h
    | some i =>
      rw [hh] at h
      simp only [Option.map_some, Option.some.injEq, Prod.mk.injEq] at h
      exact ⟨i, rfl, h.1, h.2.1, h.2.2⟩
  obtain ⟨v', w', hr, h2, h3, _⟩ := run_append_own (P := Tryz.prog) (w.alloc (.cells #[.int .i64 x] 2)) base 149 149 2 i0 _ 1 8 Tryz.underlying149 hi hz0 hz1 hz2 rfl (by omega) v m _ (hown.alloc _)
    ⟨w.heap.size, 0, none⟩ 1 1 [.int .i64 x] rfl (World.news_of_block (cs := #[.int .i64 x]) (t := 2) (fr := (0, 0)) (heap_alloc_new w _)) one_cell (by unfold maxLen; omega) (by omega) (by simp; omega)
  rcases h2.2 with ⟨_, h0⟩ | ⟨g, cap, cur, rfl, hb, hg, hnc, hcm, hcs, ht⟩
  · omega
  · refine ⟨g, cap, w', hr, by simpa using h2, (World.grownBy_alloc w _ _).trans h3, ?_⟩
    have := h3.size
    simp at this
    omega

end Go.Proofs.YtoeihigdndkjeaaGreatDoor
