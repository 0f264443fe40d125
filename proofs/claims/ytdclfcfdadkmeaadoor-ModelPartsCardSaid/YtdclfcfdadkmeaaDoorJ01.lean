import Derived.Test.YtdclfcfdadkmeaaDoorProg
import Derived.WalkKit
import Derived.WalkLawsBesides
import Derived.WalkSpells
import Derived.BigQuiet
import Derived.Deep.QuietTactic
import Derived.Outline
import Derived.Lib.Hide
import Derived.Below
import Derived.DataReads
import Derived.Deep.Draws
import Derived.Deep.OwnRows
import Derived.OwnWalk
import Derived.WalkSmall
import Derived.RowKit3
import Derived.Deep.AppendLies
import Derived.Laws.CopyOwn
import Derived.Maps.AppendAt
import Derived.Maps.RangeWalk
import Derived.Laws.OwnMore
import Derived.Laws.Tables
import Derived.Laws.AppendOwn
import Derived.Lib.SmallJoins
import Derived.Deep.Slices
import Derived.Deep.Strs
import Derived.ChangeSlices
import Derived.ChangeArms
import Derived.WideShapes
import Derived.OpenShut
import Derived.WideKeyArr
/-
  The kit of these texts, of no stage: the nearest number of a range; a number shifted down to the nearest; slices of integers that read as lists, how they are kept over new memory, and rows that a call makes or grows; sums, wrapped.
-/
namespace Go.Proofs.YtdclfcfdadkmeaaDoor
open Go.RowKit
set_option linter.unusedVariables false


/-- the number of [lo, hi] nearest to x -/
def near (x lo hi : Int) : Int := if x < lo then lo else if hi < x then hi else x

theorem ret_int {k : IntKind} {a b : Int} (h : a = b) : Ending.returned (.int k a) = .returned (.int k b) := by rw [h]

theorem ret_bool {a b : Bool} (h : a = b) : Ending.returned (.bool a) = .returned (.bool b) := by rw [h]

theorem near_in (x lo hi : Int) (h : lo ≤ hi) : lo ≤ near x lo hi ∧ near x lo hi ≤ hi := by unfold near; split <;> (try split) <;> omega

/-! ### plain mathematics -/

/-- x divided by P to the nearest, of two the even one -/
def half (x P : Int) : Int := if P - x % P < x % P ∨ (x % P = P - x % P ∧ x / P % 2 = 1) then x / P + 1 else x / P
/-- x shifted down by n -/
def shr (x n : Int) : Int := if near n 0 62 = 0 then x else half x (2 ^ (near n 0 62).toNat)

theorem pow_bounds (m : Int) (h0 : 0 ≤ m) (h : m ≤ 62) : (1 : Int) ≤ 2 ^ m.toNat ∧ (2 : Int) ^ m.toNat ≤ 4611686018427387904 := by
  have hk : m.toNat ≤ 62 := by omega
  generalize m.toNat = k at hk
  constructor
  · exact Int.pow_pos (by decide)
  · have : (2 : Nat) ^ k ≤ 2 ^ 62 := Nat.pow_le_pow_right (by decide) hk
    have h2 : ((2 : Int) ^ k) = ((2 ^ k : Nat) : Int) := by simp
    rw [h2]; have : (2 : Nat) ^ 62 = 4611686018427387904 := by decide
    omega

theorem pow_half (m : Int) (h0 : 1 ≤ m) : (2 : Int) ^ m.toNat = 2 * 2 ^ (m.toNat - 1) := by
  obtain ⟨k, hk⟩ : ∃ k, m.toNat = k + 1 := ⟨m.toNat - 1, by omega⟩
  rw [hk, Int.pow_succ, Nat.add_sub_cancel]; omega

theorem and_mask (x : Int) (k : Nat) (hk : k ≤ 62) : bits .and .i64 x (2 ^ k - 1) = x % 2 ^ k := by
  have hp : (2 : Nat) ^ k ≤ 2 ^ 62 := Nat.pow_le_pow_right (by decide) hk
  have hp' : (2 : Nat) ^ 62 = 4611686018427387904 := by decide
  have h1 : 1 ≤ (2 : Nat) ^ k := Nat.two_pow_pos k
  have e2 : (2 : Int) ^ k = ((2 ^ k : Nat) : Int) := by simp
  have ea : (BitVec.ofInt 64 x).toNat = (x % 18446744073709551616).toNat := by simp [BitVec.toNat_ofInt]
  have eb : (BitVec.ofInt 64 (2 ^ k - 1)).toNat = 2 ^ k - 1 := by
    rw [BitVec.toNat_ofInt, e2]
    have : ((2 ^ k : Nat) : Int) - 1 = ((2 ^ k - 1 : Nat) : Int) := by omega
    rw [this]
    have h3 : (((2 ^ k - 1 : Nat) : Int) % ((2 ^ 64 : Nat) : Int)) = ((2 ^ k - 1 : Nat) : Int) := by
      apply Int.emod_eq_of_lt (by omega)
      have : (2 : Nat) ^ 64 = 18446744073709551616 := by decide
      omega
    rw [h3, Int.toNat_natCast]
  have hb : bits .and .i64 x (2 ^ k - 1) = IntKind.i64.wrap (((BitVec.ofInt 64 x) &&& (BitVec.ofInt 64 (2 ^ k - 1))).toNat : Nat) := rfl
  rw [hb, BitVec.toNat_and, ea, eb, Nat.and_two_pow_sub_one_eq_mod]
  have hd : ((2 ^ k : Nat) : Int) ∣ 18446744073709551616 := by
    have : (2 : Nat) ^ k ∣ 2 ^ 64 := Nat.pow_dvd_pow 2 (by omega)
    exact Int.natCast_dvd_natCast.mpr this
  have hm : (((x % 18446744073709551616).toNat % 2 ^ k : Nat) : Int) = x % 2 ^ k := by
    rw [e2, Int.natCast_emod, Int.toNat_of_nonneg (Int.emod_nonneg _ (by decide)), Int.emod_emod_of_dvd _ hd]
  rw [hm, e2]
  have hl := Int.emod_nonneg x (b := ((2 ^ k : Nat) : Int)) (by omega)
  have hu := Int.emod_lt_of_pos x (b := ((2 ^ k : Nat) : Int)) (by omega)
  exact IntWalk.i64_in _ ⟨by omega, by omega⟩

theorem and_one (x : Int) : bits .and .i64 x 1 = x % 2 := by
  have := and_mask x 1 (by decide)
  simpa using this

theorem quo_bounds (x P : Int) (h1 : -9223372036854775808 ≤ x) (h2 : x ≤ 9223372036854775807) (hP : 2 ≤ P) : -4611686018427387904 ≤ x / P ∧ x / P ≤ 4611686018427387903 := by
  constructor
  · exact Int.le_ediv_of_mul_le (by omega) (by have := Int.mul_le_mul_of_nonpos_left (a := -4611686018427387904) (by decide) hP; omega)
  · have : x / P < 4611686018427387904 := Int.ediv_lt_of_lt_mul (by omega) (by have := Int.mul_le_mul_of_nonneg_left hP (show (0 : Int) ≤ 4611686018427387904 by decide); omega)
    omega

theorem tdiv_neg_ne (x p : Int) (hx : x < 0) (hp : 1 ≤ p) (hr : x % p ≠ 0) : x.tdiv p = x / p + 1 ∧ x.tmod p = x % p - p := by
  have h1 : x.tdiv p = x / p + 1 := by
    rw [Int.tdiv_eq_ediv]
    have : ¬ (0 ≤ x ∨ p ∣ x) := by
      intro h; rcases h with h | h
      · omega
      · exact hr (Int.emod_eq_zero_of_dvd h)
    rw [if_neg this, Int.sign_eq_one_of_pos (by omega)]
  refine ⟨h1, ?_⟩
  have h2 := Int.tmod_add_mul_tdiv x p
  have h3 := Int.emod_add_mul_ediv x p
  rw [h1, Int.mul_add] at h2
  omega

theorem tdiv_neg_eq (x p : Int) (hr : x % p = 0) : x.tdiv p = x / p ∧ x.tmod p = 0 := by
  have hd : p ∣ x := Int.dvd_of_emod_eq_zero hr
  refine ⟨?_, Int.tmod_eq_zero_of_dvd hd⟩
  rw [Int.tdiv_eq_ediv_of_dvd hd]

theorem tmod_two (q : Int) : (q.tmod 2 != 0) = decide (q % 2 = 1) := by
  have h : q.tmod 2 = 0 ↔ q % 2 = 0 := by
    rcases Int.le_total 0 q with h | h
    · rw [Int.tmod_eq_emod_of_nonneg h]
    · have h1 := Int.neg_tmod q 2
      have h2 := Int.tmod_eq_emod_of_nonneg (a := -q) (b := 2) (by omega)
      omega
  by_cases c : q % 2 = 1
  · rw [decide_eq_true c]
    simp only [bne_iff_ne]
    omega
  · have : q.tmod 2 = 0 := h.mpr (by omega)
    rw [this, decide_eq_false c]; rfl

theorem hid62 {p : Int} (h : p = 2 ^ 62) : Hid ((4611686018427387904 : Int) = p) := by
  have : (2 : Int) ^ 62 = 4611686018427387904 := by decide
  exact Lib.hid (by omega)


theorem val_int {k : IntKind} {a b : Int} (h : a = b) : Value.int k a = Value.int k b := by rw [h]

/-- two stretches behind one another, each of which leaves alone what it found -/
theorem below_two {w a b : World} (h1 : Below w.heap.size w a) (h2 : Below a.heap.size a b) : Below w.heap.size w b := h1.trans (h2.mono h1.size)

/-- The slice at a with n elements of kind k reads as xs in w (a matters only where n is above 0). -/
def Elems (k : IntKind) (w : World) (a : Option Addr) (n : Nat) (xs : List Int) : Prop :=
  xs.length = n ∧ n ≤ 9223372036854775807 ∧ (∀ x ∈ xs, (Lit.int k x).wf = true) ∧
    (0 < n → ∃ b off, a = some ⟨b, off, none⟩ ∧ ∀ i, i < n → w.cell? ⟨b, off + i, none⟩ = some (.int k (xs.getD i 0)))

theorem Elems.nil_ (k : IntKind) (w : World) (a : Option Addr) : Elems k w a 0 [] := ⟨rfl, by omega, by simp, fun h => absurd h (by omega)⟩

theorem Elems.below {k : IntKind} {w w' : World} {a : Option Addr} {n : Nat} {xs : List Int} (h : Elems k w a n xs) (hb : Below w.heap.size w w') : Elems k w' a n xs := by
  refine ⟨h.1, h.2.1, h.2.2.1, fun hn => ?_⟩
  obtain ⟨b, off, rfl, hc⟩ := h.2.2.2 hn
  exact ⟨b, off, rfl, fun i hi => (hb.cell (p := ⟨b, off + i, none⟩) (World.block_lt_of_cell? _ _ (hc i hi))).trans (hc i hi)⟩

theorem Elems.drewN {k : IntKind} {w : World} {a : Option Addr} {n : Nat} {xs : List Int} (h : Elems k w a n xs) (d : Nat) : Elems k (w.drewN d) a n xs := h

/-- the first m elements, and those from m on -/
theorem Elems.take {k : IntKind} {w : World} {a : Option Addr} {n : Nat} {xs : List Int} (h : Elems k w a n xs) (m : Nat) (hm : m ≤ n) : Elems k w a m (xs.take m) := by
  refine ⟨by rw [List.length_take, h.1]; omega, by have := h.2.1; omega, fun x hx => h.2.2.1 x (List.mem_of_mem_take hx), fun hn => ?_⟩
  obtain ⟨b, off, rfl, hc⟩ := h.2.2.2 (by omega)
  refine ⟨b, off, rfl, fun i hi => ?_⟩
  rw [hc i (by omega)]
  simp [List.getD, hi]

theorem Elems.drop {k : IntKind} {w : World} {b off n : Nat} {xs : List Int} (h : Elems k w (some ⟨b, off, none⟩) n xs) (m : Nat) (hm : m ≤ n) : Elems k w (some ⟨b, off + m, none⟩) (n - m) (xs.drop m) := by
  refine ⟨by rw [List.length_drop, h.1], by have := h.2.1; omega, fun x hx => h.2.2.1 x (List.mem_of_mem_drop hx), fun hn => ?_⟩
  obtain ⟨b', off', he, hc⟩ := h.2.2.2 (by omega)
  simp only [Option.some.injEq, Addr.mk.injEq] at he
  obtain ⟨rfl, rfl, _⟩ := he
  refine ⟨b, off + m, rfl, fun i hi => ?_⟩
  rw [show off + m + i = off + (m + i) by omega, hc (m + i) (by omega)]
  simp [List.getD, List.getElem?_drop]

/-- what 's[lo:]' leads to, where the capacity is not used up -/
theorem Elems.cut {k : IntKind} {w : World} {a : Option Addr} {n : Nat} {xs : List Int} (h : Elems k w a n xs) (m : Nat) (hm : m ≤ n) : Elems k w (a.map (fun x => x.add m)) (n - m) (xs.drop m) := by
  refine ⟨by rw [List.length_drop, h.1], by have := h.2.1; omega, fun x hx => h.2.2.1 x (List.mem_of_mem_drop hx), fun hn => ?_⟩
  obtain ⟨b, off, rfl, hc⟩ := h.2.2.2 (by omega)
  refine ⟨b, off + m, ?_, fun i hi => ?_⟩
  · simp only [Option.map_some, Addr.add]
    split
    · rename_i e; subst e; rfl
    · rfl
  · rw [show off + m + i = off + (m + i) by omega, hc (m + i) (by omega)]
    simp [List.getD, List.getElem?_drop]
theorem Elems.empty {k : IntKind} {w : World} {n : Nat} {xs : List Int} (a : Option Addr) (h : xs.length = n) (hn : n = 0) : Elems k w a n xs := by
  subst hn
  obtain rfl : xs = [] := List.length_eq_zero_iff.1 h
  exact Elems.nil_ k w a

theorem pair_elems {k : IntKind} {w : World} {g : Nat} {p q : Int} (h0 : w.cell? ⟨g, 0, none⟩ = some (.int k p)) (h1 : w.cell? ⟨g, 1, none⟩ = some (.int k q)) (wp : (Lit.int k p).wf = true) (wq : (Lit.int k q).wf = true) :
    Elems k w (some ⟨g, 0, none⟩) 2 [p, q] := by
  refine ⟨rfl, by omega, ?_, fun _ => ⟨g, 0, rfl, fun i hi => ?_⟩⟩
  · intro x hx
    simp only [List.mem_cons, List.not_mem_nil, or_false] at hx
    rcases hx with rfl | rfl
    · exact wp
    · exact wq
  · match i, hi with
    | 0, _ => exact h0
    | 1, _ => exact h1

theorem getD_mem {xs : List Int} {i : Nat} (h : i < xs.length) : xs.getD i 0 ∈ xs := by
  rw [List.getD_eq_getElem?_getD, List.getElem?_eq_getElem h]; exact List.getElem_mem h

/-- One element, as a round of a loop wants it. -/
theorem Elems.at_ {k : IntKind} {w : World} {a : Option Addr} {n : Nat} {xs : List Int} (h : Elems k w a n xs) {i : Nat} (hi : i < n) :
    ∃ b off v, a = some ⟨b, off, none⟩ ∧ w.cell? ⟨b, off + i, none⟩ = some (.int k v) ∧ Hid (xs.getD i 0 = v) ∧ (Lit.int k v).wf = true := by
  obtain ⟨b, off, rfl, hc⟩ := h.2.2.2 (by omega)
  exact ⟨b, off, _, rfl, hc i hi, Lib.hid rfl, h.2.2.1 _ (getD_mem (by rw [h.1]; exact hi))⟩

/-- What the shell's walk is told of a slice that came in, as a list. -/
theorem elems_of_row {k : IntKind} {w : World} {a : Option Addr} {len cap : Nat} {zs : List Int}
    (h : (a = none ∧ len = 0 ∧ cap = 0 ∧ zs = []) ∨ ∃ x, a = some x ∧ len ≤ cap ∧ cap ≤ maxLen ∧ zs.length = cap ∧ (∀ i, i < zs.length → w.cell? (x.add i) = some (.int k (zs.getD i 0))) ∧ ∀ n ∈ zs, (Lit.int k n).wf = true) :
    (∃ xs, Elems k w a len xs) ∧ len ≤ cap ∧ cap ≤ 9223372036854775807 := by
  rcases h with ⟨rfl, rfl, rfl, _⟩ | ⟨x, rfl, hl, hm, hz, hc, hw⟩
  · exact ⟨⟨[], Elems.nil_ k w none⟩, by omega, by omega⟩
  · unfold maxLen at hm
    refine ⟨?_, hl, by omega⟩
    by_cases h0 : len = 0
    · subst h0; exact ⟨[], Elems.nil_ k w (some x)⟩
    · obtain ⟨b, off, spot⟩ := x
      have hs : spot = none := by simpa [Addr.add] using World.cell?_spot (hc 0 (by omega))
      subst hs
      have hE : Elems k w (some ⟨b, off, none⟩) cap zs := by
        refine ⟨hz, by omega, hw, fun _ => ⟨b, off, rfl, fun i hi => ?_⟩⟩
        have := hc i (by omega)
        unfold Addr.add at this
        split at this
        · rename_i e; subst e; exact this
        · exact this
      exact ⟨_, hE.take len hl⟩

theorem rest9 (n : Int) : -8 ≤ n.tmod 9 ∧ n.tmod 9 ≤ 8 := by
  rcases Int.le_total 0 n with h | h
  · have := Int.tmod_eq_emod_of_nonneg (b := 9) h; omega
  · have h1 := Int.neg_tmod n 9
    have h2 := Int.tmod_eq_emod_of_nonneg (a := -n) (b := 9) (by omega)
    omega
/-- a rest by a number above 0 that is not known -/
theorem rest_by (n m : Int) (hm : 1 ≤ m) : -m < n.tmod m ∧ n.tmod m < m := by
  rcases Int.le_total 0 n with h | h
  · rw [Int.tmod_eq_emod_of_nonneg h]
    have := Int.emod_nonneg n (b := m) (by omega); have := Int.emod_lt_of_pos n (b := m) (by omega); omega
  · have h1 := Int.neg_tmod n m
    have h2 := Int.tmod_eq_emod_of_nonneg (a := -n) (b := m) (by omega)
    have := Int.emod_nonneg (-n) (b := m) (by omega); have := Int.emod_lt_of_pos (-n) (b := m) (by omega); omega

theorem wf8 {n : Int} (h : (Lit.int .i8 n).wf = true) : -128 ≤ n ∧ n ≤ 127 := by
  simp [Lit.wf, IntKind.min, IntKind.max, IntKind.signed, IntKind.bits] at h; omega
theorem wf32 {n : Int} (h : (Lit.int .i32 n).wf = true) : -2147483648 ≤ n ∧ n ≤ 2147483647 := by
  simp [Lit.wf, IntKind.min, IntKind.max, IntKind.signed, IntKind.bits] at h; omega
theorem wfu64 {n : Int} (h : (Lit.int .u64 n).wf = true) : 0 ≤ n ∧ n ≤ 18446744073709551615 := by
  simp [Lit.wf, IntKind.min, IntKind.max, IntKind.signed, IntKind.bits] at h; omega
theorem wfu32 {n : Int} (h : (Lit.int .u32 n).wf = true) : 0 ≤ n ∧ n ≤ 4294967295 := by
  simp [Lit.wf, IntKind.min, IntKind.max, IntKind.signed, IntKind.bits] at h; omega
theorem wf64 {n : Int} (h : (Lit.int .i64 n).wf = true) : -9223372036854775808 ≤ n ∧ n ≤ 9223372036854775807 := by
  simp [Lit.wf, IntKind.min, IntKind.max, IntKind.signed, IntKind.bits] at h; omega

/-- the sum of the first numbers, one more -/
theorem sum_step (xs : List Int) (k : Nat) (hk : k < xs.length) : (xs.take (k + 1)).sum = (xs.take k).sum + xs.getD k 0 := by
  rw [List.take_add_one, List.sum_append]
  simp [List.getD, List.getElem?_eq_getElem hk]
theorem sum_all (xs : List Int) (k : Nat) (hk : xs.length ≤ k) : xs.take k = xs := List.take_of_length_le hk

theorem sum_cut (xs : List Int) (k m : Nat) : (xs.take (k + m)).sum = (xs.take k).sum + ((xs.drop k).take m).sum := by
  rw [List.take_add, List.sum_append]
theorem sum_rest (xs : List Int) (k : Nat) : xs.sum = (xs.take k).sum + (xs.drop k).sum := by
  rw [← List.sum_append, List.take_append_drop]

/-- a sum of whole numbers, wrapped to 32 bits -/
def wsum (xs : List Int) : Int := wrap32 xs.sum

theorem wrap32_bd (x : Int) : -2147483648 ≤ wrap32 x ∧ wrap32 x ≤ 2147483647 := by unfold wrap32; omega
theorem wrap32_in (x : Int) (h : -2147483648 ≤ x ∧ x ≤ 2147483647) : wrap32 x = x := by unfold wrap32; omega
theorem wrap64_bd (x : Int) : -9223372036854775808 ≤ wrap64 x ∧ wrap64 x ≤ 9223372036854775807 := by unfold wrap64; omega
theorem wrap32_wrap64 (x : Int) : wrap32 (wrap64 x) = wrap32 x := by unfold wrap32 wrap64; omega
theorem wrap64_add (x y : Int) : wrap64 (wrap64 x + y) = wrap64 (x + y) := by unfold wrap64; omega
theorem wrap32_add (x y : Int) : wrap32 (wrap32 x + y) = wrap32 (x + y) := by unfold wrap32; omega
theorem wsum_wf (xs : List Int) : (Lit.int .i32 (wsum xs)).wf = true := wrap32_wf _
theorem wrap32_add2 (x y : Int) : wrap32 (wrap32 x + wrap32 y) = wrap32 (x + y) := by unfold wrap32; omega

theorem own_form {k : IntKind} {w : World} {base : Nat} {e : TypeId} {v : Value} {n : Nat} {cs : List Int} (h : w.ownsRow base e 1 v n (cs.map (.int k)))
    (hn : n ≤ 9223372036854775807) (hw : ∀ c ∈ cs, (Lit.int k c).wf = true) : ∃ a cap, v = .slice a n cap ∧ Elems k w a n cs := by
  have hl : cs.length = n := by have := h.1; simpa using this
  rcases h.2 with ⟨rfl, rfl⟩ | ⟨g, cap, cur, rfl, hb, hg, hnc, hcm, hcs, ht⟩
  · exact ⟨none, 0, rfl, by obtain rfl : cs = [] := List.length_eq_zero_iff.1 hl
                            exact Elems.nil_ _ _ _⟩
  · refine ⟨some ⟨g, 0, none⟩, cap, rfl, hl, hn, hw, fun _ => ⟨g, 0, rfl, fun i hi => ?_⟩⟩
    rw [Nat.zero_add, h.cellAt i (by omega), List.getElem?_map, List.getD_eq_getElem?_getD, List.getElem?_eq_getElem (by omega)]
    rfl

theorem own_nil (w : World) (base : Nat) (e : TypeId) : w.ownsRow base e 1 (.slice none 0 0) 0 [] := ⟨rfl, .inl ⟨rfl, rfl⟩⟩

theorem info_int64 : (Tryd.prog.info? 2).map (fun i => (i.zero, i.size, i.bytes)) = some (some (.int .i64 0), 1, 8) := by kernel_rfl
theorem info_int32 : (Tryd.prog.info? 21).map (fun i => (i.zero, i.size, i.bytes)) = some (some (.int .i32 0), 1, 4) := by kernel_rfl

theorem one_cell {k : IntKind} {v : Int} : ∀ u ∈ [Value.int k v], u.oneCell' = true := by
  intro u hu; simp only [List.mem_singleton] at hu; subst hu; rfl

/-- behind an append onto a row of the call's own (or nil) -/
theorem own_lt {w : World} {base : Nat} {e : TypeId} {v : Value} {n : Nat} {xs : List Value} (h : w.ownsRow base e 1 v n xs) : ∀ k, v.ownBlock = some k → base ≤ k := fun k hk => (h.lt k hk).1

theorem take_map_snoc (f : Int → Value) (xs : List Int) (k : Nat) (hk : k < xs.length) : (xs.take k).map f ++ [f (xs.getD k 0)] = (xs.take (k + 1)).map f := by
  rw [List.take_add_one, List.map_append]
  simp [List.getD, List.getElem?_eq_getElem hk]

/-- one group more -/
theorem own_elems {k : IntKind} {w : World} {base : Nat} {e : TypeId} {g n cap : Nat} {cs : List Int} (h : w.ownsRow base e 1 (.slice (some ⟨g, 0, none⟩) n cap) n (cs.map (.int k)))
    (hn : n ≤ 9223372036854775807) (hw : ∀ c ∈ cs, (Lit.int k c).wf = true) : Elems k w (some ⟨g, 0, none⟩) n cs := by
  have hl : cs.length = n := by have := h.1; simpa using this
  refine ⟨hl, hn, hw, fun _ => ⟨g, 0, rfl, fun i hi => ?_⟩⟩
  rw [Nat.zero_add, h.cellAt i (by omega), List.getElem?_map, List.getD_eq_getElem?_getD, List.getElem?_eq_getElem (by omega)]
  rfl


/-- k of the n numbers are written (number i is f i), the rest is 0 -/
def FilledBy (f : Nat → Int) (n k : Nat) (cs : List Int) : Prop := cs.length = n ∧ ∀ i, i < n → cs.getD i 0 = if i < k then f i else 0

theorem filledBy_start (f : Nat → Int) (n : Nat) : FilledBy f n 0 (List.replicate n 0) := by
  refine ⟨by simp, fun i hi => ?_⟩
  rw [if_neg (by omega), List.getD_eq_getElem?_getD, List.getElem?_replicate, if_pos hi]; rfl
theorem filledBy_step {f : Nat → Int} {n k : Nat} {cs : List Int} (h : FilledBy f n k cs) (hk : k < n) : FilledBy f n (k + 1) (cs.set k (f k)) := by
  refine ⟨by simpa using h.1, fun i hi => ?_⟩
  rw [List.getD_eq_getElem?_getD, List.getElem?_set]
  by_cases e : k = i
  · subst e
    rw [if_pos rfl, if_pos (by rw [h.1]; exact hk), if_pos (by omega)]; rfl
  · rw [if_neg e, ← List.getD_eq_getElem?_getD, h.2 i hi]
    by_cases h2 : i < k
    · rw [if_pos h2, if_pos (by omega)]
    · rw [if_neg h2, if_neg (by omega)]
theorem filledBy_end {f : Nat → Int} {n : Nat} {cs xs : List Int} {g : Int → Int} (h : FilledBy f n n cs) (hx : xs.length = n) (hf : ∀ i, i < n → f i = g (xs.getD i 0)) : cs = xs.map g := by
  apply List.ext_getElem (by rw [h.1, List.length_map, hx])
  intro i h1 h2
  have h3 := h.2 i (by rw [← h.1]; exact h1)
  rw [if_pos (by rw [← h.1]; exact h1), hf i (by rw [← h.1]; exact h1), List.getD_eq_getElem?_getD, List.getD_eq_getElem?_getD, List.getElem?_eq_getElem h1, List.getElem?_eq_getElem (by simpa using h2)] at h3
  simpa using h3
theorem made_zeros (k : IntKind) (n : Nat) : (madeCells (Value.int k 0).cells (n * 1)).toList = (List.replicate n 0).map (Value.int k) := by
  rw [Nat.mul_one]
  apply List.ext_getElem (by simp [size_madeCells])
  intro i h1 h2
  simp [madeCells, Value.cells, Nat.mod_one]

/-- an append (of nothing, too) at a step of a region that draws its order -/
theorem step_append_any {P : Program} (w : World) {ops : Array Oper} {o : Oper} {a : Act} {K : Act → World → Prop} {Q : Exit → Act → World → Prop} {E : Prop} (hgd : o.guard = none) (s x : Operand) (t : TypeId)
    (ho : o.op = .call { callee := .builtin .append, args := #[s, x], argTypes := #[t, t] })
    (base : Nat) (e : TypeId) (i : TypeInfo) (z : Value) (size bytes : Nat) (ht : P.underlying t = some (.slice e)) (hi : P.info? e = some i) (hz : i.zero = some z)
    (hsize : i.size = size) (hby : i.bytes = bytes) (hzs : z.cells.size = size) (hsz : 0 < size)
    (v : Value) (n : Nat) (xs : List Value) (hs : a.eval s = v) (hown : w.ownsRow base e size v n xs)
    (ad : Addr) (m c : Nat) (news : List Value) (hx : a.eval x = .slice (some ad) m c) (hl : news.length = m * size) (hnews : ∀ j u, news[j]? = some u → w.cell? (ad.add j) = some u) (h1 : ∀ u ∈ news, u.oneCell' = true)
    (h63 : n + m ≤ maxLen) (hbytes : (n + m) * bytes ≤ 140737488355328) (hbase : base ≤ w.heap.size)
    (h : ∀ v' w', w'.ownsRow base e size v' (n + m) (xs ++ news) → w.grownBy w' v.ownBlock → K (a.put o.dst v') w') :
    if Region.wanted o (yielded ops a.tmps) = true then Oper.wp P o a w K Q else E := by
  have hw : Region.wanted o (yielded ops a.tmps) = true := by simp [Region.wanted, hgd]
  rw [if_pos hw]
  obtain ⟨v', w', hr, h2, h3, _, _⟩ := run_append_own_at (P := P) w base t o.type e i z size bytes ht hi hz hsize hby hzs hsz v n xs hown ad m c news hl hnews h1 h63 hbytes hbase
  unfold Oper.wp execOp
  simp only [ho, resolve, invoke, builtin, Sem.run_bind, Sem.run_pure, Result.andThen_ok, List.map_toArray, List.map_cons, List.map_nil, hs, hx, hr]
  exact h v' w' h2 h3

/-- a slice's numbers, as an append takes them -/
theorem Elems.news {k : IntKind} {w : World} {b off n : Nat} {xs : List Int} (h : Elems k w (some ⟨b, off, none⟩) n xs) : ∀ j u, (xs.map (Value.int k))[j]? = some u → w.cell? ((⟨b, off, none⟩ : Addr).add j) = some u := by
  intro j u hu
  have hl := h.1
  have hj : j < xs.length := by
    have := (List.getElem?_eq_some_iff.1 hu).1
    simpa using this
  obtain ⟨b', off', he, hc⟩ := h.2.2.2 (by omega)
  simp only [Option.some.injEq, Addr.mk.injEq] at he
  obtain ⟨rfl, rfl, _⟩ := he
  have ha : (⟨b, off, none⟩ : Addr).add j = ⟨b, off + j, none⟩ := by
    unfold Addr.add
    split
    · rename_i e; subst e; rfl
    · rfl
  rw [ha, hc j (by omega), ← hu, List.getElem?_map, List.getElem?_eq_getElem hj, List.getD_eq_getElem?_getD, List.getElem?_eq_getElem hj]
  rfl
theorem Elems.grown {k : IntKind} {w w' : World} {g off n : Nat} {xs : List Int} {row : Option Nat} (h : Elems k w (some ⟨g, off, none⟩) n xs) (hg : w.grownBy w' row) (hne : some g ≠ row) : Elems k w' (some ⟨g, off, none⟩) n xs := by
  refine ⟨h.1, h.2.1, h.2.2.1, fun hn => ?_⟩
  obtain ⟨b', off', he, hc⟩ := h.2.2.2 hn
  simp only [Option.some.injEq, Addr.mk.injEq] at he
  obtain ⟨rfl, rfl, _⟩ := he
  refine ⟨g, off, rfl, fun i hi => ?_⟩
  have hlt := World.block_lt_of_cell? _ _ (hc i hi)
  rw [hg.cell_far _ hlt hne]; exact hc i hi
theorem own_below {w w' : World} {base : Nat} {e : TypeId} {size : Nat} {v : Value} {n : Nat} {xs : List Value} (h : w.ownsRow base e size v n xs) (hb : Below w.heap.size w w') : w'.ownsRow base e size v n xs := by
  refine ⟨h.1, ?_⟩
  rcases h.2 with h0 | ⟨g, cap, cur, hv, hbs, hg, hnc, hcm, hcs, ht⟩
  · exact .inl h0
  · refine .inr ⟨g, cap, cur, hv, hbs, ?_, hnc, hcm, hcs, ht⟩
    rw [hb.block g ?_]
    · exact hg
    · rcases Nat.lt_or_ge g w.heap.size with hlt | hge
      · exact hlt
      · rw [Array.getElem?_eq_none hge] at hg; cases hg
theorem ints_one {k : IntKind} (xs : List Int) : ∀ u ∈ xs.map (Value.int k), u.oneCell' = true := by
  intro u hu; obtain ⟨x, _, rfl⟩ := List.mem_map.1 hu; rfl

end Go.Proofs.YtdclfcfdadkmeaaDoor

/-
  Grids as they stand in memory: one by value, a slice of them; tables of numbers by row and column; which grids are right.
-/
namespace Go.Proofs.YtdclfcfdadkmeaaDoor
open Go.RowKit
set_option linter.unusedVariables false

theorem bcell {W W1 : World} (hb : Below W.heap.size W W1) : (∀ b o, b < W.heap.size → W1.cell? ⟨b, o, none⟩ = W.cell? ⟨b, o, none⟩) ∧ (∀ b o, b < W.heap.size → W1.frozen? ⟨b, o, none⟩ = W.frozen? ⟨b, o, none⟩) :=
  ⟨fun b o h => hb.cell (p := ⟨b, o, none⟩) h, fun b o h => hb.frozen (p := ⟨b, o, none⟩) h⟩

/-- a result of three cells is stored in a new block -/
theorem below_res {w w1 : World} (hb : Below w.heap.size w w1) {b : Nat} (h : w.heap.size ≤ b) (p q r : Value) : Below w.heap.size w (((w1.setCell ⟨b, 0, none⟩ p).setCell ⟨b, 1, none⟩ q).setCell ⟨b, 2, none⟩ r) :=
  ((hb.setCell (p := ⟨b, 0, none⟩) h _).setCell (p := ⟨b, 1, none⟩) h _).setCell (p := ⟨b, 2, none⟩) h _
/-- a block of three cells, as it was laid, behind a stretch -/
theorem three_cells {w wb : World} {p q r : Value} {T : TypeId} (hb : Below (w.alloc (.cells #[p, q, r] T)).heap.size (w.alloc (.cells #[p, q, r] T)) wb) :
    w.heap.size < wb.heap.size ∧ wb.cell? ⟨w.heap.size, 0, none⟩ = some p ∧ wb.cell? ⟨w.heap.size, 1, none⟩ = some q ∧ wb.cell? ⟨w.heap.size, 2, none⟩ = some r ∧ wb.frozen? ⟨w.heap.size, 0, none⟩ = false ∧ wb.frozen? ⟨w.heap.size, 1, none⟩ = false ∧ wb.frozen? ⟨w.heap.size, 2, none⟩ = false := by
  obtain ⟨hcl, hfr⟩ := bcell hb
  have hsz := hb.size
  simp at hsz
  refine ⟨hsz, ?_, ?_, ?_, ?_, ?_, ?_⟩
  · rw [hcl _ _ (by simp)]; simp
  · rw [hcl _ _ (by simp)]; simp
  · rw [hcl _ _ (by simp)]; simp
  · rw [hfr _ _ (by simp)]; simp
  · rw [hfr _ _ (by simp)]; simp
  · rw [hfr _ _ (by simp)]; simp

theorem add_plain' (b off i : Nat) : (⟨b, off, none⟩ : Addr).add i = ⟨b, off + i, none⟩ := by
  unfold Addr.add
  split
  · rename_i e; subst e; rfl
  · rfl

/-- a side of a right grid -/
def sideB (x : Int) : Bool := decide (0 ≤ x ∧ x ≤ 4096)
theorem sideB_yes {x : Int} (h : sideB x = true) : 0 ≤ x ∧ x ≤ 4096 := by unfold sideB at h; exact of_decide_eq_true h
theorem sideB_no {x : Int} (h : sideB x = false) : x < 0 ∨ 4096 < x := by unfold sideB at h; have := of_decide_eq_false h; omega

/-- a grid as it stands: its sides, where its numbers lie, and what they are -/
structure Gr where
  r : Int
  c : Int
  a : Option Addr
  n : Nat
  cap : Nat
  v : List Int
deriving Inhabited

/-- what is known of where a slice lies, whatever its length -/
def Sl (a : Option Addr) (cap : Nat) : Prop := (a = none → cap = 0) ∧ ∀ x, a = some x → 0 < cap → x.spot = none

/-- the grid g may stand so in w -/
def Gr.In (w : World) (g : Gr) : Prop :=
  Elems .i32 w g.a g.n g.v ∧ g.n ≤ g.cap ∧ g.cap ≤ 9223372036854775807 ∧ Sl g.a g.cap ∧ -9223372036854775808 ≤ g.r ∧ g.r ≤ 9223372036854775807 ∧ -9223372036854775808 ≤ g.c ∧ g.c ≤ 9223372036854775807

theorem Gr.In.below {w w' : World} {g : Gr} (h : g.In w) (hb : Below w.heap.size w w') : g.In w' := ⟨h.1.below hb, h.2⟩

/-- is it right? -/
def rightB (r c : Int) (n : Nat) : Bool := sideB r && (sideB c && decide ((n : Int) = r * c))
/-- is it right, and not too large? -/
def fitB (r c : Int) (n : Nat) : Bool := rightB r c n && decide (n ≤ 1048576)

theorem rightB_yes {r c : Int} {n : Nat} (h : rightB r c n = true) : ∃ R C : Nat, r = R ∧ c = C ∧ R ≤ 4096 ∧ C ≤ 4096 ∧ n = R * C := by
  unfold rightB at h
  simp only [Bool.and_eq_true, decide_eq_true_eq] at h
  obtain ⟨h1, h2, h3⟩ := h
  have h1 := sideB_yes h1
  have h2 := sideB_yes h2
  refine ⟨r.toNat, c.toNat, by omega, by omega, by omega, by omega, ?_⟩
  have e1 : r = (r.toNat : Int) := by omega
  have e2 : c = (c.toNat : Int) := by omega
  rw [e1, e2] at h3
  exact_mod_cast h3
theorem rightB_nat (R C : Nat) (hR : R ≤ 4096) (hC : C ≤ 4096) : rightB R C (R * C) = true := by
  unfold rightB sideB
  simp only [Bool.and_eq_true, decide_eq_true_eq]
  exact ⟨by omega, by omega, by push_cast; rfl⟩
theorem fitB_yes {r c : Int} {n : Nat} (h : fitB r c n = true) : ∃ R C : Nat, r = R ∧ c = C ∧ R ≤ 4096 ∧ C ≤ 4096 ∧ n = R * C ∧ R * C ≤ 1048576 := by
  unfold fitB at h
  simp only [Bool.and_eq_true, decide_eq_true_eq] at h
  obtain ⟨R, C, h1, h2, h3, h4, h5⟩ := rightB_yes h.1
  exact ⟨R, C, h1, h2, h3, h4, h5, by omega⟩
theorem fitB_nat (R C : Nat) (hR : R ≤ 4096) (hC : C ≤ 4096) (h : R * C ≤ 1048576) : fitB R C (R * C) = true := by
  unfold fitB; rw [rightB_nat R C hR hC]; simpa using h

/-- A slice of grids at a (a matters only where n is above 0). -/
def Grids (w : World) (a : Option Addr) (n : Nat) (gs : List Gr) : Prop :=
  gs.length = n ∧ n ≤ 9223372036854775807 ∧ (∀ g ∈ gs, g.In w) ∧
    (0 < n → ∃ b off, a = some ⟨b, off, none⟩ ∧ ∀ i, i < n → w.cell? ⟨b, off + i * 3, none⟩ = some (.int .i64 (gs.getD i default).r) ∧ w.cell? ⟨b, off + i * 3 + 1, none⟩ = some (.int .i64 (gs.getD i default).c) ∧
      w.cell? ⟨b, off + i * 3 + 2, none⟩ = some (.slice (gs.getD i default).a (gs.getD i default).n (gs.getD i default).cap))

theorem Grids.below {w w' : World} {a : Option Addr} {n : Nat} {gs : List Gr} (h : Grids w a n gs) (hb : Below w.heap.size w w') : Grids w' a n gs := by
  refine ⟨h.1, h.2.1, fun g hg => (h.2.2.1 g hg).below hb, fun hn => ?_⟩
  obtain ⟨b, off, rfl, hc⟩ := h.2.2.2 hn
  refine ⟨b, off, rfl, fun i hi => ?_⟩
  obtain ⟨h0, h1, h2⟩ := hc i hi
  exact ⟨(hb.cell (p := ⟨b, _, none⟩) (World.block_lt_of_cell? _ _ h0)).trans h0, (hb.cell (p := ⟨b, _, none⟩) (World.block_lt_of_cell? _ _ h1)).trans h1, (hb.cell (p := ⟨b, _, none⟩) (World.block_lt_of_cell? _ _ h2)).trans h2⟩

/-- one of them, as a round of a loop wants it -/
theorem Grids.at_ {w : World} {a : Option Addr} {n : Nat} {gs : List Gr} (h : Grids w a n gs) {i : Nat} (hi : i < n) :
    ∃ b off g, a = some ⟨b, off, none⟩ ∧ b < w.heap.size ∧ w.cell? ⟨b, off + i * 3, none⟩ = some (.int .i64 g.r) ∧ w.cell? ⟨b, off + i * 3 + 1, none⟩ = some (.int .i64 g.c) ∧ w.cell? ⟨b, off + i * 3 + 2, none⟩ = some (.slice g.a g.n g.cap) ∧
      Hid (gs.getD i default = g) ∧ g.In w := by
  obtain ⟨b, off, rfl, hc⟩ := h.2.2.2 (by omega)
  obtain ⟨h0, h1, h2⟩ := hc i hi
  refine ⟨b, off, _, rfl, World.block_lt_of_cell? _ _ h0, h0, h1, h2, Lib.hid rfl, h.2.2.1 _ ?_⟩
  rw [List.getD_eq_getElem?_getD, List.getElem?_eq_getElem (by rw [h.1]; exact hi)]
  exact List.getElem_mem _

theorem Grids.nil_ (w : World) (a : Option Addr) : Grids w a 0 [] := ⟨rfl, by omega, by simp, fun h => absurd h (by omega)⟩

/-- one grid, laid in a block of its own -/
theorem grids_one {w : World} {T : TypeId} {b : Nat} (g : Gr) (h : g.In w) (hb : b = w.heap.size) : Grids (w.alloc (.cells #[.int .i64 g.r, .int .i64 g.c, .slice g.a g.n g.cap] T)) (some ⟨b, 0, none⟩) 1 [g] := by
  subst hb
  refine ⟨rfl, by omega, ?_, fun _ => ⟨w.heap.size, 0, rfl, fun i hi => ?_⟩⟩
  · intro x hx
    simp only [List.mem_singleton] at hx
    subst hx
    exact h.below ((Below.refl _ _).alloc (Nat.le_refl _) _)
  · obtain rfl : i = 0 := by omega
    simp only [World.cell?_alloc_new]
    exact ⟨rfl, rfl, rfl⟩
/-- two grids, laid in a block of their own -/
theorem grids_two {w : World} {T : TypeId} {b : Nat} (g k : Gr) (h : g.In w) (h2 : k.In w) (hb : b = w.heap.size) : Grids (w.alloc (.cells #[.int .i64 g.r, .int .i64 g.c, .slice g.a g.n g.cap, .int .i64 k.r, .int .i64 k.c, .slice k.a k.n k.cap] T)) (some ⟨b, 0, none⟩) 2 [g, k] := by
  subst hb
  refine ⟨rfl, by omega, ?_, fun _ => ⟨w.heap.size, 0, rfl, fun i hi => ?_⟩⟩
  · intro x hx
    simp only [List.mem_cons, List.not_mem_nil, or_false] at hx
    rcases hx with rfl | rfl
    · exact h.below ((Below.refl _ _).alloc (Nat.le_refl _) _)
    · exact h2.below ((Below.refl _ _).alloc (Nat.le_refl _) _)
  · match i, hi with
    | 0, _ => simp only [World.cell?_alloc_new]; exact ⟨rfl, rfl, rfl⟩
    | 1, _ => simp only [World.cell?_alloc_new]; exact ⟨rfl, rfl, rfl⟩

/-! ### tables -/

/-- the numbers f i j of r rows and c columns, row by row -/
def tab (r c : Nat) (f : Nat → Nat → Int) : List Int := (List.range r).flatMap fun i => (List.range c).map (f i)

theorem tab_zero (c : Nat) (f : Nat → Nat → Int) : tab 0 c f = [] := rfl
theorem tab_succ (r c : Nat) (f : Nat → Nat → Int) : tab (r + 1) c f = tab r c f ++ (List.range c).map (f r) := by
  unfold tab; rw [List.range_succ, List.flatMap_append]; simp
theorem tab_length (r c : Nat) (f : Nat → Nat → Int) : (tab r c f).length = r * c := by
  induction r with
  | zero => simp [tab_zero]
  | succ r ih => rw [tab_succ, List.length_append, ih, List.length_map, List.length_range, Nat.succ_mul]
theorem row_lt {R C i j : Nat} (hi : i < R) (hj : j < C) : i * C + j < R * C := by
  have : (i + 1) * C ≤ R * C := Nat.mul_le_mul_right C hi
  rw [Nat.succ_mul] at this; omega
theorem row_le {R C i : Nat} (hi : i < R) : i * C + C ≤ R * C := by
  have : (i + 1) * C ≤ R * C := Nat.mul_le_mul_right C hi
  rw [Nat.succ_mul] at this; omega
theorem tab_at (r c : Nat) (f : Nat → Nat → Int) (i j : Nat) (hi : i < r) (hj : j < c) : (tab r c f).getD (i * c + j) 0 = f i j := by
  induction r with
  | zero => omega
  | succ r ih =>
    rw [tab_succ]
    by_cases h : i < r
    · have hl := row_lt h hj
      rw [List.getD_eq_getElem?_getD, List.getElem?_append_left (by rw [tab_length]; exact hl), ← List.getD_eq_getElem?_getD]
      exact ih h
    · obtain rfl : i = r := by omega
      rw [List.getD_eq_getElem?_getD, List.getElem?_append_right (by rw [tab_length]; omega), tab_length, show i * c + j - i * c = j by omega]
      simp [hj]
theorem tab_congr (r c : Nat) (f g : Nat → Nat → Int) (h : ∀ i j, i < r → j < c → f i j = g i j) : tab r c f = tab r c g := by
  induction r with
  | zero => rfl
  | succ r ih =>
    rw [tab_succ, tab_succ, ih (fun i j hi hj => h i j (by omega) hj)]
    congr 1
    apply List.map_congr_left
    intro j hj
    exact h r j (by omega) (List.mem_range.1 hj)
/-- every list of r times c numbers is a table -/
theorem tab_of (r c : Nat) (xs : List Int) (h : xs.length = r * c) : tab r c (fun i j => xs.getD (i * c + j) 0) = xs := by
  apply List.ext_getElem (by rw [tab_length, h])
  intro k h1 h2
  have hc : 0 < c := by
    rcases Nat.eq_zero_or_pos c with e | e
    · subst e; rw [h] at h2; omega
    · exact e
  have hk : k / c * c + k % c = k := by rw [Nat.mul_comm]; exact Nat.div_add_mod k c
  have hj : k % c < c := Nat.mod_lt k hc
  have hi : k / c < r := by
    rw [Nat.div_lt_iff_lt_mul hc]; omega
  have := tab_at r c (fun i j => xs.getD (i * c + j) 0) (k / c) (k % c) hi hj
  simp only [hk] at this
  rw [List.getD_eq_getElem?_getD, List.getElem?_eq_getElem h1, List.getD_eq_getElem?_getD, List.getElem?_eq_getElem h2] at this
  simpa using this
theorem tab_wf {r c : Nat} {f : Nat → Nat → Int} (h : ∀ i j, i < r → j < c → (Lit.int .i32 (f i j)).wf = true) : ∀ x ∈ tab r c f, (Lit.int .i32 x).wf = true := by
  intro x hx
  unfold tab at hx
  rw [List.mem_flatMap] at hx
  obtain ⟨i, hi, hx⟩ := hx
  obtain ⟨j, hj, rfl⟩ := List.mem_map.1 hx
  exact h i j (List.mem_range.1 hi) (List.mem_range.1 hj)

/-- the first i rows, and j numbers of row i -/
def pre (c : Nat) (f : Nat → Nat → Int) (i j : Nat) : List Int := tab i c f ++ (List.range j).map (f i)
theorem pre_zero (c : Nat) (f : Nat → Nat → Int) : pre c f 0 0 = [] := rfl
theorem pre_next (c : Nat) (f : Nat → Nat → Int) (i j : Nat) : pre c f i (j + 1) = pre c f i j ++ [f i j] := by
  unfold pre; rw [List.range_succ, List.map_append, ← List.append_assoc]; rfl
theorem pre_row (c : Nat) (f : Nat → Nat → Int) (i : Nat) : pre c f i c = pre c f (i + 1) 0 := by
  unfold pre; rw [tab_succ]; simp
theorem pre_tab (c : Nat) (f : Nat → Nat → Int) (i : Nat) : pre c f i 0 = tab i c f := by unfold pre; simp
theorem pre_length (c : Nat) (f : Nat → Nat → Int) (i j : Nat) : (pre c f i j).length = i * c + j := by unfold pre; simp [tab_length]

/-- row i of a table, as a list -/
def rowOf (xs : List Int) (c i : Nat) : List Int := (xs.drop (i * c)).take c
theorem rowOf_at (xs : List Int) (c i j : Nat) (hj : j < c) : (rowOf xs c i).getD j 0 = xs.getD (i * c + j) 0 := by
  unfold rowOf
  rw [List.getD_eq_getElem?_getD, List.getElem?_take_of_lt hj, List.getElem?_drop, ← List.getD_eq_getElem?_getD]
theorem rowOf_map (xs : List Int) (r c i : Nat) (h : xs.length = r * c) (hi : i < r) : rowOf xs c i = (List.range c).map fun j => xs.getD (i * c + j) 0 := by
  have hl := row_le (C := c) hi
  apply List.ext_getElem (by unfold rowOf; simp; omega)
  intro j h1 h2
  have hj : j < c := by simpa using h2
  have := rowOf_at xs c i j hj
  rw [List.getD_eq_getElem?_getD, List.getElem?_eq_getElem h1] at this
  simpa using this

end Go.Proofs.YtdclfcfdadkmeaaDoor

/-
  A block of numbers that the call itself made, known whole; what a stretch leaves of it; copy into it; what a function that fills rows is asked.
-/
namespace Go.Proofs.YtdclfcfdadkmeaaDoor
open Go.RowKit
set_option linter.unusedVariables false

/-- block g holds the numbers cs, and none of its cells is frozen -/
def Mine (w : World) (g : Nat) (e : TypeId) (cs : List Int) : Prop := w.heap[g]? = some (.cells (cs.map (Value.int .i32)).toArray e (0, 0))

section
variable {w w' : World} {g : Nat} {e : TypeId} {cs : List Int}
theorem Mine.lt (h : Mine w g e cs) : g < w.heap.size := (Array.getElem?_eq_some_iff.1 h).1
theorem Mine.cell (h : Mine w g e cs) {k : Nat} (hk : k < cs.length) : w.cell? ⟨g, k, none⟩ = some (.int .i32 (cs.getD k 0)) := by
  rw [cell_of_row w g k _ e (0, 0) h]
  simp [List.getD, hk]
theorem Mine.frozen (h : Mine w g e cs) (k : Nat) : w.frozen? ⟨g, k, none⟩ = false := frozen_of_row w g k _ e h
theorem Mine.set (h : Mine w g e cs) (k : Nat) (v : Int) : Mine (w.setCell ⟨g, k, none⟩ (.int .i32 v)) g e (cs.set k v) := by
  have := heap_setCell_same w g k _ e (.int .i32 v) h
  unfold Mine
  rw [this]
  congr 2
  simp [List.map_set]
theorem Mine.kept (h : Mine w g e cs) {row : Option Nat} (hg : w.grownBy w' row) (hne : some g ≠ row) : Mine w' g e cs := (hg.block g h.lt hne).trans h
theorem Mine.drewN (h : Mine w g e cs) (d : Nat) : Mine (w.drewN d) g e cs := h
theorem Mine.alloc (h : Mine w g e cs) (o : Obj) : Mine (w.alloc o) g e cs := h.kept (World.grownBy_alloc w o none) (by simp)
theorem Mine.below {B : Nat} (h : Mine w g e cs) (hb : Below B w w') (hg : g < B) : Mine w' g e cs := (hb.block g hg).trans h
end

theorem Mine.elems {w : World} {g n : Nat} {e : TypeId} {cs : List Int} (h : Mine w g e cs) (hl : cs.length = n) (hn : n ≤ 9223372036854775807) (hw : ∀ x ∈ cs, (Lit.int .i32 x).wf = true) : Elems .i32 w (some ⟨g, 0, none⟩) n cs :=
  ⟨hl, hn, hw, fun _ => ⟨g, 0, rfl, fun i hi => by rw [Nat.zero_add]; exact h.cell (by omega)⟩⟩
theorem getD_wf {k : IntKind} {xs : List Int} (h : ∀ x ∈ xs, (Lit.int k x).wf = true) (h0 : (Lit.int k 0).wf = true) (i : Nat) : (Lit.int k (xs.getD i 0)).wf = true := by
  by_cases hi : i < xs.length
  · exact h _ (getD_mem hi)
  · rw [List.getD_eq_getElem?_getD, List.getElem?_eq_none (by omega)]; exact h0
theorem Elems.blk {k : IntKind} {w : World} {a : Option Addr} {n : Nat} {xs : List Int} (h : Elems k w a n xs) : ∀ x, a = some x → 0 < n → x.block < w.heap.size := by
  intro x hx hn
  obtain ⟨b, off, he, hc⟩ := h.2.2.2 hn
  rw [hx] at he
  cases he
  exact World.block_lt_of_cell? _ _ (hc 0 hn)
theorem Elems.spot {k : IntKind} {w : World} {a : Option Addr} {n : Nat} {xs : List Int} (h : Elems k w a n xs) : ∀ x, a = some x → 0 < n → x.spot = none := by
  intro x hx hn
  obtain ⟨b, off, he, _⟩ := h.2.2.2 hn
  rw [hx] at he
  cases he; rfl

theorem grownBy_refl (w : World) (row : Option Nat) : w.grownBy w row := ⟨rfl, rfl, rfl, Nat.le_refl _, fun _ _ _ => rfl⟩
theorem grownBy_setCell (w : World) (g k : Nat) (v : Value) : w.grownBy (w.setCell ⟨g, k, none⟩ v) (some g) :=
  ⟨rfl, rfl, rfl, by simp, fun i _ hi => heap_setCell_other w ⟨g, k, none⟩ i v (fun e => hi (by simp [e]))⟩
theorem grownBy_setRow (w : World) (g : Nat) (cs : Array Value) : w.grownBy (w.setRow g cs) (some g) :=
  ⟨rfl, rfl, rfl, by simp [World.setRow], fun i _ hi => setRow_other w g i cs (fun e => hi (by simp [e]))⟩
theorem grownBy_drewN (w : World) (n : Nat) (row : Option Nat) : w.grownBy (w.drewN n) row := ⟨rfl, rfl, rfl, Nat.le_refl _, fun _ _ _ => rfl⟩
theorem grownBy_drew (w : World) (row : Option Nat) : w.grownBy w.drew row := ⟨rfl, rfl, rfl, Nat.le_refl _, fun _ _ _ => rfl⟩
/-- numbers that lie in another block stay -/
theorem Elems.other {k : IntKind} {w w' : World} {b off n g : Nat} {xs : List Int} (h : Elems k w (some ⟨b, off, none⟩) n xs) (hg : w.grownBy w' (some g)) (hne : b ≠ g) : Elems k w' (some ⟨b, off, none⟩) n xs := h.grown hg (by simpa using hne)
theorem grownBy_below {w w' : World} (h : Below w.heap.size w w') (row : Option Nat) : w.grownBy w' row := ⟨h.os, h.tape, h.output, h.size, fun k hk _ => h.block k hk⟩
/-- what a stretch that wrote block g alone leaves of all that lay ahead of it -/
theorem below_grown {w0 w w' : World} {g : Nat} (hb : Below w0.heap.size w0 w) (hg : w.grownBy w' (some g)) (hle : w0.heap.size ≤ g) : Below w0.heap.size w0 w' :=
  hb.grown hg hb.size (fun k hk => by cases hk; exact hle)

theorem grownBy_res (w : World) (b : Nat) (p q r : Value) : w.grownBy (((w.setCell ⟨b, 0, none⟩ p).setCell ⟨b, 1, none⟩ q).setCell ⟨b, 2, none⟩ r) (some b) :=
  ((grownBy_setCell w b 0 p).trans (grownBy_setCell _ b 1 q)).trans (grownBy_setCell _ b 2 r)

/-- three cells of block b, none of them frozen -/
def Box3 (w : World) (b : Nat) (p q r : Value) : Prop :=
  b < w.heap.size ∧ w.cell? ⟨b, 0, none⟩ = some p ∧ w.cell? ⟨b, 1, none⟩ = some q ∧ w.cell? ⟨b, 2, none⟩ = some r ∧ w.frozen? ⟨b, 0, none⟩ = false ∧ w.frozen? ⟨b, 1, none⟩ = false ∧ w.frozen? ⟨b, 2, none⟩ = false
theorem Box3.kept {w w' : World} {b : Nat} {p q r : Value} (h : Box3 w b p q r) {row : Option Nat} (hg : w.grownBy w' row) (hne : some b ≠ row) : Box3 w' b p q r := by
  obtain ⟨h1, c0, c1, c2, f0, f1, f2⟩ := h
  have hbk := hg.block b h1 hne
  have hc : ∀ o, w'.cell? ⟨b, o, none⟩ = w.cell? ⟨b, o, none⟩ := fun o => World.cell?_of_block (a := ⟨b, o, none⟩) hbk
  have hf : ∀ o, w'.frozen? ⟨b, o, none⟩ = w.frozen? ⟨b, o, none⟩ := fun o => World.frozen?_of_block (a := ⟨b, o, none⟩) hbk
  exact ⟨Nat.lt_of_lt_of_le h1 hg.size, (hc 0).trans c0, (hc 1).trans c1, (hc 2).trans c2, (hf 0).trans f0, (hf 1).trans f1, (hf 2).trans f2⟩
theorem Box3.below {w w' : World} {b : Nat} {p q r : Value} (h : Box3 w b p q r) (hb : Below w.heap.size w w') : Box3 w' b p q r := h.kept (grownBy_below hb none) (by simp)
theorem Box3.alloc {w : World} {b : Nat} {p q r : Value} (h : Box3 w b p q r) (o : Obj) : Box3 (w.alloc o) b p q r := h.kept (World.grownBy_alloc w o none) (by simp)
theorem cell_keep {w w' : World} {a : Addr} {v : Value} (h : w.cell? a = some v) (hb : Below w.heap.size w w') : w'.cell? a = some v := (hb.cell (World.block_lt_of_cell? _ _ h)).trans h
theorem cell_alloc {w : World} {a : Addr} {v : Value} (h : w.cell? a = some v) (o : Obj) : (w.alloc o).cell? a = some v := cell_keep h ((Below.refl _ _).alloc (Nat.le_refl _) o)
theorem cell1_at {w : World} {b : Nat} (hb : b = w.heap.size) (v : Value) (T : TypeId) : (w.alloc (.cells #[v] T)).cell? ⟨b, 0, none⟩ = some v := by subst hb; simp
theorem Box3.set2 {w : World} {b : Nat} {p q r : Value} (h : Box3 w b p q r) (v : Value) : Box3 (w.setCell ⟨b, 2, none⟩ v) b p q v := by
  obtain ⟨h1, c0, c1, c2, f0, f1, f2⟩ := h
  refine ⟨by simpa using h1, ?_, ?_, World.cell?_setCell_same _ _ _ c2, ?_, ?_, ?_⟩
  · rw [World.cell?_setCell_other _ _ _ _ (by simp)]; exact c0
  · rw [World.cell?_setCell_other _ _ _ _ (by simp)]; exact c1
  · rw [World.frozen?_setCell]; exact f0
  · rw [World.frozen?_setCell]; exact f1
  · rw [World.frozen?_setCell]; exact f2
theorem box3_at {w : World} {b : Nat} (hb : b = w.heap.size) (p q r : Value) (T : TypeId) : Box3 (w.alloc (.cells #[p, q, r] T)) b p q r := by subst hb; exact three_cells (Below.refl _ _)
theorem box3_new (w : World) (p q r : Value) (T : TypeId) : Box3 (w.alloc (.cells #[p, q, r] T)) w.heap.size p q r := three_cells (Below.refl _ _)

/-- copy into a block that is known whole: of it, its row of cells behind, and what of the world stays -/
theorem wpList_copy_mine {P : Program} {w : World} {ops : Array Oper} {rest : List Oper} {o : Oper} {a : Act} {Q : Exit → Act → World → Prop} (hgd : o.guard = none) (d s : Operand) (dT sT : TypeId)
    (ho : o.op = .call { callee := .builtin .copy, args := #[d, s], argTypes := #[dT, sT] }) (elem : TypeId) (hu : P.underlying dT = some (.slice elem)) (hsz : (P.info? elem).map (·.size) = some 1)
    (dp sp : Option Addr) (dLen dCap sLen sCap : Nat) (hd : a.eval d = .slice dp dLen dCap) (hs : a.eval s = .slice sp sLen sCap)
    (g off : Nat) (cur : List Int) (t : TypeId) (hg : Mine w g t cur) (cs : List Int) (hn : cs.length = Nat.min sLen dLen)
    (hpos : 0 < cs.length → dp = some ⟨g, off, none⟩ ∧ Elems .i32 w sp cs.length cs)
    (hfit : off + cs.length ≤ cur.length)
    (h : ∀ w', Mine w' g t (splice cur off cs) → w.grownBy w' (some g) → wpList P ops Q rest (a.put o.dst (goInt cs.length)) w') :
    wpList P ops Q (o :: rest) a w := by
  by_cases h0 : cs.length = 0
  · obtain rfl : cs = [] := List.eq_nil_of_length_eq_zero h0
    refine wpList_copy_nothing hgd d s dT sT ho elem hu hsz dp sp dLen dCap sLen sCap hd hs (by simpa using hn.symm) ?_
    exact h w (by simpa [splice] using hg) (grownBy_refl _ _)
  · obtain ⟨rfl, hE⟩ := hpos (by omega)
    obtain ⟨b, so, rfl, hcell⟩ := hE.2.2.2 (by omega)
    have hN := hE.news
    refine wpList_copy_own hgd d s dT sT ho elem hu hsz g off dLen dCap ⟨b, so, none⟩ sLen sCap hd hs _ t hg (cs.map (.int .i32)) (by simpa using hn) hN (by simpa using hfit) (ints_one cs) ?_
    have := h (w.setRow g _) (by
      unfold Mine
      have := setRow_heap w g _ ((List.map (Value.int .i32) cur).toArray.toList.take off ++ (cs.map (Value.int .i32) ++ (List.map (Value.int .i32) cur).toArray.toList.drop (off + (cs.map (Value.int .i32)).length))).toArray t (0, 0) hg
      rw [this]
      simp [splice, List.map_append, List.map_take, List.map_drop]) (grownBy_setRow w g _)
    simpa using this

/-- copy, as a run -/
theorem run_copy_mine {P : Program} {w : World} (dT sT ty elem : TypeId) (hu : P.underlying dT = some (.slice elem)) (hsz : (P.info? elem).map (·.size) = some 1)
    (dp sp : Option Addr) (dLen dCap sLen sCap : Nat)
    (g off : Nat) (cur : List Int) (t : TypeId) (hg : Mine w g t cur) (cs : List Int) (hn : cs.length = Nat.min sLen dLen)
    (hpos : 0 < cs.length → dp = some ⟨g, off, none⟩ ∧ Elems .i32 w sp cs.length cs)
    (hfit : off + cs.length ≤ cur.length) :
    ∃ w', Sem.run P (Builtin.copy_ #[dT, sT] ty #[.slice dp dLen dCap, .slice sp sLen sCap]) w = .ok (.int .i64 (cs.length : Nat)) w' ∧ Mine w' g t (splice cur off cs) ∧ w.grownBy w' (some g) := by
  by_cases h0 : cs.length = 0
  · obtain rfl : cs = [] := List.eq_nil_of_length_eq_zero h0
    have hrun := run_copy_none (P := P) w dT sT ty elem dp sp dLen dCap sLen sCap hu hsz (by simpa using hn.symm)
    exact ⟨w, hrun, by simpa [splice] using hg, grownBy_refl _ _⟩
  · obtain ⟨rfl, hE⟩ := hpos (by omega)
    obtain ⟨b, so, rfl, hcell⟩ := hE.2.2.2 (by omega)
    have hN := hE.news
    have hrun := run_copy_row (P := P) w dT sT ty elem g off dLen dCap ⟨b, so, none⟩ sLen sCap _ t (cs.map (.int .i32)) hu hsz hg (by simpa using hn) hN (by simpa using hfit) (ints_one cs)
    rw [List.length_map] at hrun
    refine ⟨_, hrun, ?_, grownBy_setRow w g _⟩
    unfold Mine
    rw [setRow_heap w g _ _ t _ hg]
    simp [splice, List.map_append, List.map_take, List.map_drop]

theorem splice_at (L : List Int) (off : Nat) (cs : List Int) (h : off + cs.length ≤ L.length) (k : Nat) : (splice L off cs).getD k 0 = if off ≤ k ∧ k < off + cs.length then cs.getD (k - off) 0 else L.getD k 0 := by
  unfold splice
  rw [List.getD_eq_getElem?_getD, List.getElem?_append, List.length_take, Nat.min_eq_left (by omega)]
  split
  · rename_i h1
    rw [if_neg (by omega), List.getElem?_take_of_lt h1, List.getD_eq_getElem?_getD]
  · rename_i h1
    rw [List.getElem?_append]
    split
    · rename_i h2
      rw [if_pos (by omega), List.getD_eq_getElem?_getD]
    · rename_i h2
      rw [if_neg (by omega), List.getElem?_drop, List.getD_eq_getElem?_getD]
      congr 2; omega

/-- the row 'row' of cs has turned to the numbers f row 0, f row 1 ..; the others stay -/
def RowSet (f : Nat → Nat → Int) (R C row : Nat) (cs cs' : List Int) : Prop :=
  cs'.length = R * C ∧ ∀ i j, i < R → j < C → cs'.getD (i * C + j) 0 = if i = row then f row j else cs.getD (i * C + j) 0

/-- the rows ahead of 'row' are filled, the others are of noughts -/
def RowsSet (f : Nat → Nat → Int) (R C row : Nat) (cs : List Int) : Prop :=
  cs.length = R * C ∧ ∀ i j, i < R → j < C → cs.getD (i * C + j) 0 = if i < row then f i j else 0

theorem rowsSet_start (f : Nat → Nat → Int) (R C : Nat) : RowsSet f R C 0 (List.replicate (R * C) 0) := by
  refine ⟨by simp, fun i j hi hj => ?_⟩
  have := row_lt hi hj
  rw [if_neg (by omega), List.getD_eq_getElem?_getD, List.getElem?_replicate, if_pos this]; rfl
theorem rowsSet_step {f : Nat → Nat → Int} {R C row : Nat} {cs cs' : List Int} (h : RowsSet f R C row cs) (h' : RowSet f R C row cs cs') : RowsSet f R C (row + 1) cs' := by
  refine ⟨h'.1, fun i j hi hj => ?_⟩
  rw [h'.2 i j hi hj]
  split
  · rename_i e; subst e; rw [if_pos (by omega)]
  · rw [h.2 i j hi hj]
    by_cases h2 : i < row
    · rw [if_pos h2, if_pos (by omega)]
    · rw [if_neg h2, if_neg (by omega)]
theorem rowsSet_end {f : Nat → Nat → Int} {R C : Nat} {cs : List Int} (h : RowsSet f R C R cs) : cs = tab R C f := by
  rw [← tab_of R C cs h.1]
  exact tab_congr _ _ _ _ fun i j hi hj => by rw [h.2 i j hi hj, if_pos hi]
/-- a row is laid by copy -/
theorem rowSet_splice {f : Nat → Nat → Int} {R C row : Nat} {cs : List Int} (h : cs.length = R * C) (hr : row < R) (ys : List Int) (hl : ys.length = C) (hy : ∀ j, j < C → ys.getD j 0 = f row j) : RowSet f R C row cs (splice cs (row * C) ys) := by
  have hle := row_le (C := C) hr
  refine ⟨by rw [length_splice _ _ _ (by omega), h], fun i j hi hj => ?_⟩
  rw [splice_at _ _ _ (by omega)]
  by_cases e : i = row
  · subst e
    rw [if_pos ⟨by omega, by omega⟩, if_pos rfl, show i * C + j - i * C = j by omega, hy j hj]
  · rw [if_neg e, if_neg]
    intro ⟨h1, h2⟩
    rcases Nat.lt_or_ge i row with h3 | h3
    · have := row_le (C := C) h3; omega
    · have : row < i := by omega
      have := row_le (C := C) this; omega

/-- the row 'row' of cs has turned to h 0, h 1 ..; the others stay -/
def RowIs (h : Nat → Int) (R C row : Nat) (cs cs' : List Int) : Prop :=
  cs'.length = R * C ∧ ∀ i j, i < R → j < C → cs'.getD (i * C + j) 0 = if i = row then h j else cs.getD (i * C + j) 0

theorem rowIs_start {R C row : Nat} {cs : List Int} (hl : cs.length = R * C) (hz : ∀ j, j < C → cs.getD (row * C + j) 0 = 0) : RowIs (fun _ => 0) R C row cs cs := by
  refine ⟨hl, fun i j hi hj => ?_⟩
  split
  · rename_i e; subst e; exact hz j hj
  · rfl
theorem RowIs.at_ {h : Nat → Int} {R C row : Nat} {cs cs' : List Int} (H : RowIs h R C row cs cs') (hr : row < R) {j : Nat} (hj : j < C) : cs'.getD (row * C + j) 0 = h j := by rw [H.2 row j hr hj, if_pos rfl]
theorem RowIs.congr {h h' : Nat → Int} {R C row : Nat} {cs cs' : List Int} (H : RowIs h R C row cs cs') (e : ∀ j, j < C → h j = h' j) : RowIs h' R C row cs cs' := by
  refine ⟨H.1, fun i j hi hj => ?_⟩
  rw [H.2 i j hi hj, e j hj]
theorem RowIs.set {h h' : Nat → Int} {R C row k : Nat} {v : Int} {cs cs' : List Int} (H : RowIs h R C row cs cs') (hr : row < R) (hk : k < C) (hv : h' k = v) (ho : ∀ j, j < C → j ≠ k → h' j = h j) : RowIs h' R C row cs (cs'.set (row * C + k) v) := by
  refine ⟨by simpa using H.1, fun i j hi hj => ?_⟩
  have hrk := row_lt hr hk
  rw [List.getD_eq_getElem?_getD, List.getElem?_set]
  by_cases e : i = row
  · subst e
    rw [if_pos rfl]
    by_cases e2 : k = j
    · subst e2
      rw [if_pos rfl, if_pos (by rw [H.1]; exact hrk), hv]; rfl
    · rw [if_neg (by omega), ← List.getD_eq_getElem?_getD, H.at_ hr hj, ho j hj (Ne.symm e2)]
  · rw [if_neg e, if_neg, ← List.getD_eq_getElem?_getD, H.2 i j hi hj, if_neg e]
    intro h1
    rcases Nat.lt_or_ge i row with h3 | h3
    · have := row_le (C := C) h3; omega
    · have h4 : row < i := by omega
      have := row_le (C := C) h4; omega
theorem RowIs.rowSet {h : Nat → Int} {f : Nat → Nat → Int} {R C row : Nat} {cs cs' : List Int} (H : RowIs h R C row cs cs') (e : ∀ j, j < C → h j = f row j) : RowSet f R C row cs cs' := H.congr e

/-- WHAT A FUNCTION THAT FILLS ROWS IS ASKED: in whatever world in which all that lay in w0 lies unturned, handed a row of noughts of a block that was made since, it lays f's numbers there, and turns nothing else. -/
def Fills (P : Program) (fn : Nat) (lb : Array Value) (w0 : World) (e : TypeId) (R C : Nat) (f : Nat → Nat → Int) : Prop :=
  ∀ (W : World) (row : Nat) (a : Option Addr) (cap g : Nat) (cs : List Int), row < R → Below w0.heap.size w0 W → w0.heap.size ≤ g → Mine W g e cs → cs.length = R * C → (0 < C → a = some ⟨g, row * C, none⟩) → C ≤ cap → cap ≤ 9223372036854775807 →
    (∀ j, j < C → cs.getD (row * C + j) 0 = 0) →
    Calls P fn (#[.int .i64 row, .slice a C cap] ++ lb) W fun x W' => x = .returned (.tuple #[]) ∧ ∃ cs', W.grownBy W' (some g) ∧ Mine W' g e cs' ∧ RowSet f R C row cs cs'

/-- an append whose run is known, at a step of a region that draws its order -/
theorem step_append_run {P : Program} {w w' : World} {ops : Array Oper} {o : Oper} {a : Act} {K : Act → World → Prop} {Q : Exit → Act → World → Prop} {E : Prop} (hgd : o.guard = none) (s x : Operand) (t : TypeId)
    (ho : o.op = .call { callee := .builtin .append, args := #[s, x], argTypes := #[t, t] }) (v1 v2 : Value) (hs : a.eval s = v1) (hx : a.eval x = v2) {v : Value}
    (hrun : Sem.run P (Builtin.append_ #[t, t] o.type #[v1, v2]) w = .ok v w') (h : K (a.put o.dst v) w') :
    if Region.wanted o (yielded ops a.tmps) = true then Oper.wp P o a w K Q else E := by
  have hw : Region.wanted o (yielded ops a.tmps) = true := by simp [Region.wanted, hgd]
  rw [if_pos hw]
  unfold Oper.wp execOp
  simp only [ho, resolve, invoke, builtin, Sem.run_bind, Sem.run_pure, Result.andThen_ok, List.map_toArray, List.map_cons, List.map_nil, hs, hx, hrun]
  exact h

/-- a row that the call owns is in a block of its own type -/
theorem own_grown {w w' : World} {base : Nat} {e : TypeId} {size n : Nat} {v : Value} {xs : List Value} (h : w.ownsRow base e size v n xs) {g : Nat} (hg : w.grownBy w' (some g)) (hlt : g < base) : w'.ownsRow base e size v n xs :=
  h.kept hg (by cases hv : v.ownBlock with
    | none => exact .inl rfl
    | some k => exact .inr (by have := (h.lt k hv).1; simp; omega))

/-- one number more, behind a row of the call's own: the append as a run -/
theorem run_append_one (w : World) (base : Nat) (v : Value) (m : Nat) (cs : List Int) (x : Int) (hown : w.ownsRow base 21 1 v m (cs.map (.int .i32))) (hm : m ≤ 16777216) (hbase : base ≤ w.heap.size) :
    ∃ g cap w', Sem.run Tryd.prog (Builtin.append_ #[39, 39] 39 #[v, .slice (some ⟨w.heap.size, 0, none⟩) 1 1]) (w.alloc (.cells #[.int .i32 x] 21)) = .ok (.slice (some ⟨g, 0, none⟩) (m + 1) cap) w' ∧
      w'.ownsRow base 21 1 (.slice (some ⟨g, 0, none⟩) (m + 1) cap) (m + 1) ((cs ++ [x]).map (.int .i32)) ∧ w.grownBy w' v.ownBlock ∧ w.heap.size < w'.heap.size := by
  obtain ⟨i0, hi, hz0, hz1, hz2⟩ : ∃ i, Tryd.prog.info? 21 = some i ∧ i.zero = some (.int .i32 0) ∧ i.size = 1 ∧ i.bytes = 4 := by
    have h := info_int32
    cases hh : Tryd.prog.info? 21 with
    | none => rw [hh] at h; cases h
    | some i =>
      rw [hh] at h
      simp only [Option.map_some, Option.some.injEq, Prod.mk.injEq] at h
      exact ⟨i, rfl, h.1, h.2.1, h.2.2⟩
  obtain ⟨v', w', hr, h2, h3, _⟩ := run_append_own (P := Tryd.prog) (w.alloc (.cells #[.int .i32 x] 21)) base 39 39 21 i0 _ 1 4 Tryd.underlying39 hi hz0 hz1 hz2 rfl (by omega) v m _ (hown.alloc _)
    ⟨w.heap.size, 0, none⟩ 1 1 [.int .i32 x] rfl (World.news_of_block (cs := #[.int .i32 x]) (t := 21) (fr := (0, 0)) (heap_alloc_new w _)) one_cell (by unfold maxLen; omega) (by omega) (by simp; omega)
  rcases h2.2 with ⟨_, h0⟩ | ⟨g, cap, cur, rfl, hb, hg, hnc, hcm, hcs, ht⟩
  · omega
  · refine ⟨g, cap, w', hr, by simpa using h2, (World.grownBy_alloc w _ _).trans h3, ?_⟩
    have := h3.size
    simp at this
    omega

/-- the same for numbers of 64 bits -/
theorem run_append_one64 (w : World) (base : Nat) (v : Value) (m : Nat) (cs : List Int) (x : Int) (hown : w.ownsRow base 2 1 v m (cs.map (.int .i64))) (hm : m ≤ 16777216) (hbase : base ≤ w.heap.size) :
    ∃ g cap w', Sem.run Tryd.prog (Builtin.append_ #[177, 177] 177 #[v, .slice (some ⟨w.heap.size, 0, none⟩) 1 1]) (w.alloc (.cells #[.int .i64 x] 2)) = .ok (.slice (some ⟨g, 0, none⟩) (m + 1) cap) w' ∧
      w'.ownsRow base 2 1 (.slice (some ⟨g, 0, none⟩) (m + 1) cap) (m + 1) ((cs ++ [x]).map (.int .i64)) ∧ w.grownBy w' v.ownBlock ∧ w.heap.size < w'.heap.size := by
  obtain ⟨i0, hi, hz0, hz1, hz2⟩ : ∃ i, Tryd.prog.info? 2 = some i ∧ i.zero = some (.int .i64 0) ∧ i.size = 1 ∧ i.bytes = 8 := by
    have h := info_int64
    cases hh : Tryd.prog.info? 2 with
    | none => rw [hh] at h; cases h
    | some i =>
      rw [hh] at h
      simp only [Option.map_some, Option.some.injEq, Prod.mk.injEq] at h
      exact ⟨i, rfl, h.1, h.2.1, h.2.2⟩
  obtain ⟨v', w', hr, h2, h3, _⟩ := run_append_own (P := Tryd.prog) (w.alloc (.cells #[.int .i64 x] 2)) base 177 177 2 i0 _ 1 8 Tryd.underlying177 hi hz0 hz1 hz2 rfl (by omega) v m _ (hown.alloc _)
    ⟨w.heap.size, 0, none⟩ 1 1 [.int .i64 x] rfl (World.news_of_block (cs := #[.int .i64 x]) (t := 2) (fr := (0, 0)) (heap_alloc_new w _)) one_cell (by unfold maxLen; omega) (by omega) (by simp; omega)
  rcases h2.2 with ⟨_, h0⟩ | ⟨g, cap, cur, rfl, hb, hg, hnc, hcm, hcs, ht⟩
  · omega
  · refine ⟨g, cap, w', hr, by simpa using h2, (World.grownBy_alloc w _ _).trans h3, ?_⟩
    have := h3.size
    simp at this
    omega

end Go.Proofs.YtdclfcfdadkmeaaDoor

/-
  A block of numbers of whatever kind that the call itself made, known whole; copy into it; one number of 8 bits more, behind a row of the call's own.
-/
namespace Go.Proofs.YtdclfcfdadkmeaaDoor
open Go.RowKit
set_option linter.unusedVariables false

theorem info8 : (Tryd.prog.info? 89).map (fun i => (i.zero, i.size, i.bytes)) = some (some (.int .i8 0), 1, 1) := by kernel_rfl
theorem infoInt : (Tryd.prog.info? 3).map (fun i => (i.zero, i.size, i.bytes)) = some (some (.int .i64 0), 1, 8) := by kernel_rfl

/-- block g holds the numbers cs, and none of its cells is frozen -/
def MineK (kd : IntKind) (w : World) (g : Nat) (e : TypeId) (cs : List Int) : Prop := w.heap[g]? = some (.cells (cs.map (Value.int kd)).toArray e (0, 0))

section
variable {kd : IntKind} {w w' : World} {g : Nat} {e : TypeId} {cs : List Int}
theorem MineK.lt (h : MineK kd w g e cs) : g < w.heap.size := (Array.getElem?_eq_some_iff.1 h).1
theorem MineK.cell (h : MineK kd w g e cs) {k : Nat} (hk : k < cs.length) : w.cell? ⟨g, k, none⟩ = some (.int kd (cs.getD k 0)) := by
  rw [cell_of_row w g k _ e (0, 0) h]
  simp [List.getD, hk]
theorem MineK.frozen (h : MineK kd w g e cs) (k : Nat) : w.frozen? ⟨g, k, none⟩ = false := frozen_of_row w g k _ e h
theorem MineK.set (h : MineK kd w g e cs) (k : Nat) (v : Int) : MineK kd (w.setCell ⟨g, k, none⟩ (.int kd v)) g e (cs.set k v) := by
  have := heap_setCell_same w g k _ e (.int kd v) h
  unfold MineK
  rw [this]
  congr 2
  simp [List.map_set]
theorem MineK.kept (h : MineK kd w g e cs) {row : Option Nat} (hg : w.grownBy w' row) (hne : some g ≠ row) : MineK kd w' g e cs := (hg.block g h.lt hne).trans h
theorem MineK.drewN (h : MineK kd w g e cs) (d : Nat) : MineK kd (w.drewN d) g e cs := h
theorem MineK.alloc (h : MineK kd w g e cs) (o : Obj) : MineK kd (w.alloc o) g e cs := h.kept (World.grownBy_alloc w o none) (by simp)
theorem MineK.below {B : Nat} (h : MineK kd w g e cs) (hb : Below B w w') (hg : g < B) : MineK kd w' g e cs := (hb.block g hg).trans h
end

theorem MineK.elems {kd : IntKind} {w : World} {g n : Nat} {e : TypeId} {cs : List Int} (h : MineK kd w g e cs) (hl : cs.length = n) (hn : n ≤ 9223372036854775807) (hw : ∀ x ∈ cs, (Lit.int kd x).wf = true) : Elems kd w (some ⟨g, 0, none⟩) n cs :=
  ⟨hl, hn, hw, fun _ => ⟨g, 0, rfl, fun i hi => by rw [Nat.zero_add]; exact h.cell (by omega)⟩⟩
/-- copy into a block that is known whole: of it, its row of cells behind, and what of the world stays -/
theorem wpList_copy_mineK {kd : IntKind} {P : Program} {w : World} {ops : Array Oper} {rest : List Oper} {o : Oper} {a : Act} {Q : Exit → Act → World → Prop} (hgd : o.guard = none) (d s : Operand) (dT sT : TypeId)
    (ho : o.op = .call { callee := .builtin .copy, args := #[d, s], argTypes := #[dT, sT] }) (elem : TypeId) (hu : P.underlying dT = some (.slice elem)) (hsz : (P.info? elem).map (·.size) = some 1)
    (dp sp : Option Addr) (dLen dCap sLen sCap : Nat) (hd : a.eval d = .slice dp dLen dCap) (hs : a.eval s = .slice sp sLen sCap)
    (g off : Nat) (cur : List Int) (t : TypeId) (hg : MineK kd w g t cur) (cs : List Int) (hn : cs.length = Nat.min sLen dLen)
    (hpos : 0 < cs.length → dp = some ⟨g, off, none⟩ ∧ Elems kd w sp cs.length cs)
    (hfit : off + cs.length ≤ cur.length)
    (h : ∀ w', MineK kd w' g t (splice cur off cs) → w.grownBy w' (some g) → wpList P ops Q rest (a.put o.dst (goInt cs.length)) w') :
    wpList P ops Q (o :: rest) a w := by
  by_cases h0 : cs.length = 0
  · obtain rfl : cs = [] := List.eq_nil_of_length_eq_zero h0
    refine wpList_copy_nothing hgd d s dT sT ho elem hu hsz dp sp dLen dCap sLen sCap hd hs (by simpa using hn.symm) ?_
    exact h w (by simpa [splice] using hg) (grownBy_refl _ _)
  · obtain ⟨rfl, hE⟩ := hpos (by omega)
    obtain ⟨b, so, rfl, hcell⟩ := hE.2.2.2 (by omega)
    have hN := hE.news
    refine wpList_copy_own hgd d s dT sT ho elem hu hsz g off dLen dCap ⟨b, so, none⟩ sLen sCap hd hs _ t hg (cs.map (.int kd)) (by simpa using hn) hN (by simpa using hfit) (ints_one cs) ?_
    have := h (w.setRow g _) (by
      unfold MineK
      have := setRow_heap w g _ ((List.map (Value.int kd) cur).toArray.toList.take off ++ (cs.map (Value.int kd) ++ (List.map (Value.int kd) cur).toArray.toList.drop (off + (cs.map (Value.int kd)).length))).toArray t (0, 0) hg
      rw [this]
      simp [splice, List.map_append, List.map_take, List.map_drop]) (grownBy_setRow w g _)
    simpa using this

/-- copy, as a run -/
theorem run_copy_mineK {kd : IntKind} {P : Program} {w : World} (dT sT ty elem : TypeId) (hu : P.underlying dT = some (.slice elem)) (hsz : (P.info? elem).map (·.size) = some 1)
    (dp sp : Option Addr) (dLen dCap sLen sCap : Nat)
    (g off : Nat) (cur : List Int) (t : TypeId) (hg : MineK kd w g t cur) (cs : List Int) (hn : cs.length = Nat.min sLen dLen)
    (hpos : 0 < cs.length → dp = some ⟨g, off, none⟩ ∧ Elems kd w sp cs.length cs)
    (hfit : off + cs.length ≤ cur.length) :
    ∃ w', Sem.run P (Builtin.copy_ #[dT, sT] ty #[.slice dp dLen dCap, .slice sp sLen sCap]) w = .ok (.int .i64 (cs.length : Nat)) w' ∧ MineK kd w' g t (splice cur off cs) ∧ w.grownBy w' (some g) := by
  by_cases h0 : cs.length = 0
  · obtain rfl : cs = [] := List.eq_nil_of_length_eq_zero h0
    have hrun := run_copy_none (P := P) w dT sT ty elem dp sp dLen dCap sLen sCap hu hsz (by simpa using hn.symm)
    exact ⟨w, hrun, by simpa [splice] using hg, grownBy_refl _ _⟩
  · obtain ⟨rfl, hE⟩ := hpos (by omega)
    obtain ⟨b, so, rfl, hcell⟩ := hE.2.2.2 (by omega)
    have hN := hE.news
    have hrun := run_copy_row (P := P) w dT sT ty elem g off dLen dCap ⟨b, so, none⟩ sLen sCap _ t (cs.map (.int kd)) hu hsz hg (by simpa using hn) hN (by simpa using hfit) (ints_one cs)
    rw [List.length_map] at hrun
    refine ⟨_, hrun, ?_, grownBy_setRow w g _⟩
    unfold MineK
    rw [setRow_heap w g _ _ t _ hg]
    simp [splice, List.map_append, List.map_take, List.map_drop]

/-- a block of noughts that was just made -/
theorem mine_made (kd : IntKind) (w : World) (T : TypeId) (n : Nat) {b : Nat} (hb : b = w.heap.size) : MineK kd (w.alloc (.cells (madeCells #[Value.int kd 0] n) T)) b T (List.replicate n 0) := by
  subst hb
  have := made_zeros kd n
  rw [Nat.mul_one] at this
  have hh := heap_alloc_new w (.cells (madeCells #[Value.int kd 0] n) T)
  unfold MineK
  rw [hh, ← this]
  rfl

/-- one number more, behind a row of the call's own: the append as a run -/
theorem run_append_one8 (w : World) (base : Nat) (v : Value) (m : Nat) (cs : List Int) (x : Int) (hown : w.ownsRow base 89 1 v m (cs.map (.int .i8))) (hm : m ≤ 16777216) (hbase : base ≤ w.heap.size) :
    ∃ g cap w', Sem.run Tryd.prog (Builtin.append_ #[24, 24] 24 #[v, .slice (some ⟨w.heap.size, 0, none⟩) 1 1]) (w.alloc (.cells #[.int .i8 x] 89)) = .ok (.slice (some ⟨g, 0, none⟩) (m + 1) cap) w' ∧
      w'.ownsRow base 89 1 (.slice (some ⟨g, 0, none⟩) (m + 1) cap) (m + 1) ((cs ++ [x]).map (.int .i8)) ∧ w.grownBy w' v.ownBlock ∧ w.heap.size < w'.heap.size := by
  obtain ⟨i0, hi, hz0, hz1, hz2⟩ : ∃ i, Tryd.prog.info? 89 = some i ∧ i.zero = some (.int .i8 0) ∧ i.size = 1 ∧ i.bytes = 1 := by
    have h := info8
    cases hh : Tryd.prog.info? 89 with
    | none => rw [hh] at h; cases h
    | some i =>
      rw [hh] at h
      simp only [Option.map_some, Option.some.injEq, Prod.mk.injEq] at h
      exact ⟨i, rfl, h.1, h.2.1, h.2.2⟩
  obtain ⟨v', w', hr, h2, h3, _⟩ := run_append_own (P := Tryd.prog) (w.alloc (.cells #[.int .i8 x] 89)) base 24 24 89 i0 _ 1 1 Tryd.underlying24 hi hz0 hz1 hz2 rfl (by omega) v m _ (hown.alloc _)
    ⟨w.heap.size, 0, none⟩ 1 1 [.int .i8 x] rfl (World.news_of_block (cs := #[.int .i8 x]) (t := 89) (fr := (0, 0)) (heap_alloc_new w _)) one_cell (by unfold maxLen; omega) (by omega) (by simp; omega)
  rcases h2.2 with ⟨_, h0⟩ | ⟨g, cap, cur, rfl, hb, hg, hnc, hcm, hcs, ht⟩
  · omega
  · refine ⟨g, cap, w', hr, by simpa using h2, (World.grownBy_alloc w _ _).trans h3, ?_⟩
    have := h3.size
    simp at this
    omega


end Go.Proofs.YtdclfcfdadkmeaaDoor

/-
  Rows of numbers, and slices of rows, as they stand in memory; numbers that a literal lays.
-/
namespace Go.Proofs.YtdclfcfdadkmeaaDoor
open Go.RowKit
set_option linter.unusedVariables false

/-! ### rows, and slices of rows -/

/-- a row of numbers as it stands: where it lies, and what they are -/
structure Rw where
  a : Option Addr
  n : Nat
  cap : Nat
  v : List Int
deriving Inhabited

/-- the row q may stand so in w -/
def Rw.In (k : IntKind) (w : World) (q : Rw) : Prop := Elems k w q.a q.n q.v ∧ q.n ≤ q.cap ∧ q.cap ≤ 9223372036854775807 ∧ Sl q.a q.cap
theorem Rw.In.below {k : IntKind} {w w' : World} {q : Rw} (h : q.In k w) (hb : Below w.heap.size w w') : q.In k w' := ⟨h.1.below hb, h.2⟩

/-- A slice of rows at a (a matters only where n is above 0). -/
def Rws (k : IntKind) (w : World) (a : Option Addr) (n : Nat) (qs : List Rw) : Prop :=
  qs.length = n ∧ n ≤ 9223372036854775807 ∧ (∀ q ∈ qs, q.In k w) ∧
    (0 < n → ∃ b off, a = some ⟨b, off, none⟩ ∧ ∀ i, i < n → w.cell? ⟨b, off + i, none⟩ = some (.slice (qs.getD i default).a (qs.getD i default).n (qs.getD i default).cap))
theorem Rws.below {k : IntKind} {w w' : World} {a : Option Addr} {n : Nat} {qs : List Rw} (h : Rws k w a n qs) (hb : Below w.heap.size w w') : Rws k w' a n qs := by
  refine ⟨h.1, h.2.1, fun g hg => (h.2.2.1 g hg).below hb, fun hn => ?_⟩
  obtain ⟨b, off, rfl, hc⟩ := h.2.2.2 hn
  refine ⟨b, off, rfl, fun i hi => ?_⟩
  have h0 := hc i hi
  exact (hb.cell (p := ⟨b, _, none⟩) (World.block_lt_of_cell? _ _ h0)).trans h0
/-- one of them, as a round of a loop wants it -/
theorem Rws.at_ {k : IntKind} {w : World} {a : Option Addr} {n : Nat} {qs : List Rw} (h : Rws k w a n qs) {i : Nat} (hi : i < n) :
    ∃ b off q, a = some ⟨b, off, none⟩ ∧ b < w.heap.size ∧ w.cell? ⟨b, off + i, none⟩ = some (.slice q.a q.n q.cap) ∧ Hid (qs.getD i default = q) ∧ q.In k w := by
  obtain ⟨b, off, rfl, hc⟩ := h.2.2.2 (by omega)
  have h0 := hc i hi
  refine ⟨b, off, _, rfl, World.block_lt_of_cell? _ _ h0, h0, Lib.hid rfl, h.2.2.1 _ ?_⟩
  rw [List.getD_eq_getElem?_getD, List.getElem?_eq_getElem (by rw [h.1]; exact hi)]
  exact List.getElem_mem _
theorem Rws.nil_ (k : IntKind) (w : World) (a : Option Addr) : Rws k w a 0 [] := ⟨rfl, by omega, by simp, fun h => absurd h (by omega)⟩
/-- one row, laid in a block of its own -/
theorem rws_one {k : IntKind} {w : World} {T : TypeId} {b : Nat} (q : Rw) (h : q.In k w) (hb : b = w.heap.size) : Rws k (w.alloc (.cells #[.slice q.a q.n q.cap] T)) (some ⟨b, 0, none⟩) 1 [q] := by
  subst hb
  refine ⟨rfl, by omega, ?_, fun _ => ⟨w.heap.size, 0, rfl, fun i hi => ?_⟩⟩
  · intro x hx
    simp only [List.mem_singleton] at hx
    subst hx
    exact h.below ((Below.refl _ _).alloc (Nat.le_refl _) _)
  · obtain rfl : i = 0 := by omega
    simp only [World.cell?_alloc_new]; rfl
/-- two rows -/
theorem rws_two {k : IntKind} {w : World} {T : TypeId} {b : Nat} (p q : Rw) (h : p.In k w) (h2 : q.In k w) (hb : b = w.heap.size) : Rws k (w.alloc (.cells #[.slice p.a p.n p.cap, .slice q.a q.n q.cap] T)) (some ⟨b, 0, none⟩) 2 [p, q] := by
  subst hb
  refine ⟨rfl, by omega, ?_, fun _ => ⟨w.heap.size, 0, rfl, fun i hi => ?_⟩⟩
  · intro x hx
    simp only [List.mem_cons, List.not_mem_nil, or_false] at hx
    rcases hx with rfl | rfl
    · exact h.below ((Below.refl _ _).alloc (Nat.le_refl _) _)
    · exact h2.below ((Below.refl _ _).alloc (Nat.le_refl _) _)
  · match i, hi with
    | 0, _ => simp only [World.cell?_alloc_new]; rfl
    | 1, _ => simp only [World.cell?_alloc_new]; rfl

theorem elems_litK {kd : IntKind} {w : World} {T : TypeId} (xs : List Int) {cs : Array Value} (hcs : cs = (xs.map (Value.int kd)).toArray) {b : Nat} (hb : b = w.heap.size) (hw : ∀ x ∈ xs, (Lit.int kd x).wf = true) (hl : xs.length ≤ 100) {n : Nat} (hn : xs.length = n) : Elems kd (w.alloc (.cells cs T)) (some ⟨b, 0, none⟩) n xs := by
  subst hcs hb hn
  refine ⟨rfl, by omega, hw, fun _ => ⟨w.heap.size, 0, rfl, fun i hi => ?_⟩⟩
  rw [Nat.zero_add, World.cell?_alloc_new]
  simp [List.getD, hi]

theorem rw_in {kd : IntKind} {w : World} {b n : Nat} {xs : List Int} (h : Elems kd w (some ⟨b, 0, none⟩) n xs) (hn : n ≤ 16777216) : Rw.In kd w ⟨some ⟨b, 0, none⟩, n, n, xs⟩ :=
  ⟨h, Nat.le_refl _, by show n ≤ _; omega, ⟨fun e => (by cases e), fun x e _ => (by cases e; rfl)⟩⟩


end Go.Proofs.YtdclfcfdadkmeaaDoor

/-
  A row of numbers of whatever kind, and a slice of such rows, that come in as a row's arguments: what the walk is told of them.
-/
namespace Go.Proofs.YtdclfcfdadkmeaaDoor
open Go.RowKit Go.ChangeShapes Go.WideShapes Go.Deep Go.Joins
set_option linter.unusedVariables false

/-- what the kit's shell says of a slice of numbers that came in, as a row -/
theorem rw_of_row {k : IntKind} {w : World} {a : Option Addr} {len cap : Nat} {zs : List Int}
    (h : (a = none ∧ len = 0 ∧ cap = 0 ∧ zs = []) ∨ ∃ x, a = some x ∧ len ≤ cap ∧ cap ≤ maxLen ∧ zs.length = cap ∧ (∀ i, i < zs.length → w.cell? (x.add i) = some (.int k (zs.getD i 0))) ∧ ∀ n ∈ zs, (Lit.int k n).wf = true) :
    ∃ xs, Rw.In k w ⟨a, len, cap, xs⟩ := by
  obtain ⟨⟨xs, hE⟩, h1, h2⟩ := elems_of_row h
  refine ⟨xs, hE, h1, h2, ?_⟩
  rcases h with ⟨rfl, _, rfl, _⟩ | ⟨x, rfl, _, _, hz, hc, _⟩
  · exact ⟨fun _ => rfl, fun x e => by cases e⟩
  · refine ⟨fun e => (by cases e), fun y e h0 => ?_⟩
    cases e
    have h00 := hc 0 (by rw [hz]; exact h0)
    simpa [Addr.add] using World.cell?_spot h00

section
variable {H : Type} {enc : TypeId × Value → H} {w : World}

/-- the cells of a row of numbers, read -/
theorem rw_of_reads {k : IntKind} {t e : TypeId} (ht : Tryd.prog.underlying t = some (.slice e)) (he : Tryd.prog.underlying e = some (.int k)) (hc : Tryd.prog.cellsOf e = 1) {n2 : Nat} {v2 : Value} {y2 : DataW H × List MemPlace} (h2 : DataW.trod enc Tryd.prog w 0 (fun _ => true) true n2 t [v2] = some y2) :
    ∃ q : Rw, v2 = .slice q.a q.n q.cap ∧ q.In k w := by
  rcases open_ints ht he hc h2 with ⟨hcs, _⟩ | ⟨x, l, cap, zs, hcs, _, hl, hm, hz, _, hcell, hwz⟩
  · simp only [List.cons.injEq, and_true] at hcs
    exact ⟨⟨none, 0, 0, []⟩, hcs, Elems.nil_ _ _ _, Nat.le_refl _, by show (0 : Nat) ≤ _; omega, ⟨fun _ => rfl, fun x e => (by cases e)⟩⟩
  · simp only [List.cons.injEq, and_true] at hcs
    have hzc : zs.length = cap := by simpa using hz
    obtain ⟨⟨xs, hE⟩, _, hmax⟩ := elems_of_row (k := k) (w := w) (a := some x) (len := l) (cap := cap) (zs := zs) (.inr ⟨x, rfl, hl, hm, hzc, hcell, hwz⟩)
    refine ⟨⟨some x, l, cap, xs⟩, hcs, hE, hl, hmax, ⟨fun e => (by cases e), fun y e hc => ?_⟩⟩
    cases e
    have h00 := hcell 0 (by show 0 < zs.length; rw [hzc]; exact hc)
    simpa [Addr.add] using World.cell?_spot h00

set_option maxRecDepth 100000 in
theorem open_rw {k : IntKind} {t e : TypeId} (ht : Tryd.prog.underlying t = some (.slice e)) (he : Tryd.prog.underlying e = some (.int k)) (hc : Tryd.prog.cellsOf e = 1) {r : Reach} {b0 : Nat} {v : Value} {d : DataW H} {p : List MemPlace} (hv : Value.okWide Tryd.prog w r b0 t v) (h : DataW.Trod enc Tryd.prog w 0 (fun _ => true) true t v d p) :
    ∃ q : Rw, v = .slice q.a q.n q.cap ∧ q.In k w := by
  obtain ⟨a, n, cap, rfl⟩ := okWide_slice ht hv
  obtain ⟨fuel, hf⟩ := h
  have hf2 : DataW.trod enc Tryd.prog w 0 (fun _ => true) true fuel t [.slice a n cap] = some (d, p) := by simpa [Value.cells] using hf
  exact rw_of_reads ht he hc hf2

set_option maxRecDepth 100000 in
theorem open_rws {kd : IntKind} {tt t e : TypeId} (htt : Tryd.prog.underlying tt = some (.slice t)) (hct : Tryd.prog.cellsOf t = 1) (ht : Tryd.prog.underlying t = some (.slice e)) (he : Tryd.prog.underlying e = some (.int kd)) (hc : Tryd.prog.cellsOf e = 1) {r : Reach} {b0 : Nat} {v : Value} {d : DataW H} {p : List MemPlace}
    (hv : Value.okWide Tryd.prog w r b0 tt v) (h : DataW.Trod enc Tryd.prog w 0 (fun _ => true) true tt v d p) :
    ∃ (a : Option Addr) (n cap : Nat) (qs : List Rw), v = .slice a n cap ∧ Rws kd w a n qs ∧ n ≤ cap ∧ cap ≤ 9223372036854775807 ∧ Sl a cap := by
  obtain ⟨a, n, cap, rfl⟩ := okWide_slice htt hv
  refine ⟨a, n, cap, ?_⟩
  obtain ⟨fuel, hf⟩ := h
  rcases open_slice htt hf with ⟨hcs, _⟩ | ⟨x, l, cp, m, k, D, Pl, hcs, _, hl, hm, hmm, _, hi⟩
  · simp [Value.cells] at hcs
    obtain ⟨rfl, rfl, rfl⟩ := hcs
    exact ⟨[], rfl, Rws.nil_ _ _ _, Nat.le_refl _, by omega, fun _ => rfl, fun x e => (by cases e)⟩
  · simp [Value.cells] at hcs
    obtain ⟨rfl, rfl, rfl⟩ := hcs
    unfold maxLen at hm
    have hml : m = cap := by simpa using hmm
    have hone : ∀ i, i < m → ∃ q : Rw, w.cell? (x.add (i * 1)) = some (.slice q.a q.n q.cap) ∧ q.In kd w := by
      intro i hin
      obtain ⟨cs', hc', ht'⟩ := hi i (by omega)
      rw [hct] at hc'
      obtain ⟨_, hcl, hat⟩ := World.cells?_some hc'
      obtain ⟨c0, rfl⟩ : ∃ c0, cs' = [c0] := by
        match cs', hcl with
        | [c0], _ => exact ⟨_, rfl⟩
      have e0 := hat 0 (by omega)
      obtain ⟨q, rfl, hq⟩ := rw_of_reads ht he hc ht'
      refine ⟨q, ?_, hq⟩
      simpa [Addr.add] using e0
    have hgs : ∃ f : Nat → Rw, ∀ i, i < m → w.cell? (x.add (i * 1)) = some (.slice (f i).a (f i).n (f i).cap) ∧ (f i).In kd w := by
      classical
      exact ⟨fun i => if h : i < m then Classical.choose (hone i h) else default, fun i hin => by simp only [dif_pos hin]; exact Classical.choose_spec (hone i hin)⟩
    obtain ⟨f, hf2⟩ := hgs
    refine ⟨(List.range n).map f, rfl, ⟨by simp, by omega, ?_, fun hn => ?_⟩, hl, by omega, fun e => (by cases e), fun y e h0 => ?_⟩
    · intro g hg
      obtain ⟨i, hin, rfl⟩ := List.mem_map.1 hg
      have := List.mem_range.1 hin
      exact (hf2 i (by omega)).2
    · obtain ⟨b, off, spot⟩ := x
      have h00 := (hf2 0 (by omega)).1
      have hs : spot = none := by simpa [Addr.add] using World.cell?_spot h00
      subst hs
      refine ⟨b, off, rfl, fun i hin => ?_⟩
      obtain ⟨e0, _⟩ := hf2 i (by omega)
      have hd : ((List.range n).map f).getD i default = f i := by simp [List.getD, hin]
      rw [hd]
      simp only [add_plain', Nat.mul_one] at e0
      exact e0
    · cases e
      have h00 := (hf2 0 (by omega)).1
      simpa [Addr.add] using World.cell?_spot h00
end

end Go.Proofs.YtdclfcfdadkmeaaDoor

/-
  Arguments of stage 7 as a walk is told of them: a shape, an array of six ints, how a file is turned.
-/
namespace Go.Proofs.YtdclfcfdadkmeaaDoor
open Go.RowKit Go.ChangeShapes Go.WideShapes Go.Deep Go.Joins Go.WideMaps
set_option linter.unusedVariables false

/-- six ints of 64 bits -/
def Six (l w h i v p : Int) : Prop := (Lit.int .i64 l).wf = true ∧ (Lit.int .i64 w).wf = true ∧ (Lit.int .i64 h).wf = true ∧ (Lit.int .i64 i).wf = true ∧ (Lit.int .i64 v).wf = true ∧ (Lit.int .i64 p).wf = true

theorem cells_shape : Tryd.prog.cellsOf 35 = 6 := by kernel_rfl
theorem cells_int7 : Tryd.prog.cellsOf 3 = 1 := by kernel_rfl
theorem cells_six : Tryd.prog.cellsOf 22 = 6 := by kernel_rfl

section
variable {H : Type} {enc : TypeId × Value → H} {w : World}

set_option maxRecDepth 100000 in
theorem int_of {n : Nat} {c : Value} {y : DataW H × List MemPlace} (h : DataW.trod enc Tryd.prog w 0 (fun _ => true) true n 3 [c] = some y) : ∃ z : Int, c = .int .i64 z ∧ (Lit.int .i64 z).wf = true := by
  obtain ⟨b, e2, _, wb⟩ := DataW.trod_int Tryd.underlying3 h
  simp only [List.cons.injEq, and_true] at e2
  exact ⟨b, e2, wb⟩

set_option maxRecDepth 100000 in
theorem open_shape {r : Reach} {b0 : Nat} {v : Value} {d : DataW H} {p : List MemPlace} (hv : Value.okWide Tryd.prog w r b0 35 v) (h : DataW.Trod enc Tryd.prog w 0 (fun _ => true) true 35 v d p) :
    ∃ l w0 h0 i v0 p0 : Int, v = .agg #[.int .i64 l, .int .i64 w0, .int .i64 h0, .int .i64 i, .int .i64 v0, .int .i64 p0] ∧ Six l w0 h0 i v0 p0 := by
  obtain ⟨cs, rfl, hsz⟩ := okWide_struct Tryd.underlying35 hv
  obtain ⟨l⟩ := cs
  match l, hsz.trans cells_shape with
  | [c0, c1, c2, c3, c4, c5], _ =>
    obtain ⟨fuel, hf⟩ := h
    obtain ⟨xs, n, _, hx, _, hlen, hg⟩ := DataW.trod_struct Tryd.underlying35 hf
    match xs, hlen with
    | [y0, y1, y2, y3, y4, y5], _ =>
      have g0 : DataW.trod enc Tryd.prog w 0 (fun _ => true) true n 3 (([c0, c1, c2, c3, c4, c5].drop 0).take (Tryd.prog.cellsOf 3)) = some y0 := hg 0 _ rfl
      have g1 : DataW.trod enc Tryd.prog w 0 (fun _ => true) true n 3 (([c0, c1, c2, c3, c4, c5].drop 1).take (Tryd.prog.cellsOf 3)) = some y1 := hg 1 _ rfl
      have g2 : DataW.trod enc Tryd.prog w 0 (fun _ => true) true n 3 (([c0, c1, c2, c3, c4, c5].drop 2).take (Tryd.prog.cellsOf 3)) = some y2 := hg 2 _ rfl
      have g3 : DataW.trod enc Tryd.prog w 0 (fun _ => true) true n 3 (([c0, c1, c2, c3, c4, c5].drop 3).take (Tryd.prog.cellsOf 3)) = some y3 := hg 3 _ rfl
      have g4 : DataW.trod enc Tryd.prog w 0 (fun _ => true) true n 3 (([c0, c1, c2, c3, c4, c5].drop 4).take (Tryd.prog.cellsOf 3)) = some y4 := hg 4 _ rfl
      have g5 : DataW.trod enc Tryd.prog w 0 (fun _ => true) true n 3 (([c0, c1, c2, c3, c4, c5].drop 5).take (Tryd.prog.cellsOf 3)) = some y5 := hg 5 _ rfl
      rw [cells_int7] at g0 g1 g2 g3 g4 g5
      obtain ⟨z0, rfl, w0⟩ := int_of (c := c0) (y := y0) g0
      obtain ⟨z1, rfl, w1⟩ := int_of (c := c1) (y := y1) g1
      obtain ⟨z2, rfl, w2⟩ := int_of (c := c2) (y := y2) g2
      obtain ⟨z3, rfl, w3⟩ := int_of (c := c3) (y := y3) g3
      obtain ⟨z4, rfl, w4⟩ := int_of (c := c4) (y := y4) g4
      obtain ⟨z5, rfl, w5⟩ := int_of (c := c5) (y := y5) g5
      exact ⟨z0, z1, z2, z3, z4, z5, rfl, w0, w1, w2, w3, w4, w5⟩

theorem arr6 : ArrKey Tryd.prog 22 3 6 := ⟨Tryd.underlying22, by kernel_rfl, by kernel_rfl, by kernel_rfl⟩
set_option maxRecDepth 100000 in
theorem open_six {r : Reach} {b0 : Nat} {v : Value} {d : DataW H} {p : List MemPlace} (hv : Value.okWide Tryd.prog w r b0 22 v) (h : DataW.Trod enc Tryd.prog w 0 (fun _ => true) true 22 v d p) :
    ∃ l w0 h0 i v0 p0 : Int, v = .agg #[.int .i64 l, .int .i64 w0, .int .i64 h0, .int .i64 i, .int .i64 v0, .int .i64 p0] ∧ Six l w0 h0 i v0 p0 := by
  have A := arr6
  simp only [Value.okWide, A.hu] at hv
  obtain ⟨cs, rfl, h2, _⟩ := hv
  rw [A.size] at h2
  obtain ⟨l⟩ := cs
  match l, h2 with
  | [c0, c1, c2, c3, c4, c5], _ =>
    obtain ⟨fuel, hf⟩ := h
    cases fuel with
    | zero => simp [DataW.trod] at hf
    | succ n =>
      rw [DataW.trod_step] at hf
      unfold DataW.trodStep at hf
      simp only [A.hu, Value.cells] at hf
      rw [if_pos (by rw [A.size]; rfl)] at hf
      simp only [Option.map_eq_some_iff] at hf
      obtain ⟨xs, hx, e1⟩ := hf
      rw [show List.range 6 = [0, 1, 2, 3, 4, 5] from rfl, List.mapM_cons, List.mapM_cons, List.mapM_cons, List.mapM_cons, List.mapM_cons, List.mapM_cons, List.mapM_nil] at hx
      simp only [bind, Option.bind_eq_some_iff, pure, Option.some.injEq, A.one] at hx
      obtain ⟨y0, g0, _, ⟨y1, g1, _, ⟨y2, g2, _, ⟨y3, g3, _, ⟨y4, g4, _, ⟨y5, g5, _⟩, _⟩, _⟩, _⟩, _⟩, _⟩ := hx
      obtain ⟨z0, rfl, w0⟩ := int_of (c := c0) (y := y0) g0
      obtain ⟨z1, rfl, w1⟩ := int_of (c := c1) (y := y1) g1
      obtain ⟨z2, rfl, w2⟩ := int_of (c := c2) (y := y2) g2
      obtain ⟨z3, rfl, w3⟩ := int_of (c := c3) (y := y3) g3
      obtain ⟨z4, rfl, w4⟩ := int_of (c := c4) (y := y4) g4
      obtain ⟨z5, rfl, w5⟩ := int_of (c := c5) (y := y5) g5
      exact ⟨z0, z1, z2, z3, z4, z5, rfl, w0, w1, w2, w3, w4, w5⟩

end

end Go.Proofs.YtdclfcfdadkmeaaDoor

/-
  The table of powers of 2: its numbers, and what a world is said to hold of it.
-/
namespace Go.Proofs.YtdclfcfdadkmeaaDoor
open Go.RowKit
set_option linter.unusedVariables false

/-- the table's numbers -/
def ptab : List Int := [65536, 64132, 62757, 61413, 60097, 58809, 57549, 56316, 55109, 53928, 52773, 51642, 50535, 49452, 48393, 47356, 46341, 45348, 44376, 43425, 42495, 41584, 40693, 39821, 38968, 38133, 37316, 36516, 35734, 34968, 34219, 33486, 32768]
/-- the program's table holds them -/
def Tab (w : World) : Prop := ∀ i, i < 33 → w.cell? ⟨1, i, none⟩ = some (.int .i64 (ptab.getD i 0))

theorem Tab.below {w w' : World} (h : Tab w) (hb : Below w.heap.size w w') : Tab w' := fun i hi => (hb.cell (p := ⟨1, i, none⟩) (World.block_lt_of_cell? _ _ (h i hi))).trans (h i hi)
theorem Tab.drewN {w : World} (h : Tab w) (d : Nat) : Tab (w.drewN d) := h

theorem tab_bd : ∀ i, i < 33 → 32768 ≤ ptab.getD i 0 ∧ ptab.getD i 0 ≤ 65536 := by decide
theorem tab_falls : ∀ i, i < 32 → 1 ≤ ptab.getD i 0 - ptab.getD (i + 1) 0 ∧ ptab.getD i 0 - ptab.getD (i + 1) 0 ≤ 1404 := by decide
theorem tab_mono : ∀ i, i < 33 → ∀ j, j ≤ i → ptab.getD i 0 ≤ ptab.getD j 0 := by decide +kernel

/-- two to the power of -f, between the table's places -/
def btw (f : Int) : Int := ptab.getD (f / 2048).toNat 0 - half ((ptab.getD (f / 2048).toNat 0 - ptab.getD ((f / 2048).toNat + 1) 0) * (f % 2048)) 2048

theorem shr_eleven (x : Int) : shr x 11 = half x 2048 := by
  have h : near 11 0 62 = 11 := by decide
  unfold shr; rw [h]; rfl

theorem half_bd (x P : Int) : x / P ≤ half x P ∧ half x P ≤ x / P + 1 := by unfold half; split <;> omega

/-- what is taken off: from 0 to the step -/
theorem off_bd (D r : Int) (hD : 1 ≤ D) (h0 : 0 ≤ r) (h1 : r < 2048) : 0 ≤ D * r ∧ D * r ≤ D * 2047 ∧ 0 ≤ half (D * r) 2048 ∧ half (D * r) 2048 ≤ D := by
  have h2 : 0 ≤ D * r := Int.mul_nonneg (by omega) h0
  have h3 : D * r ≤ D * 2047 := Int.mul_le_mul_of_nonneg_left (by omega) (by omega)
  have h4 := half_bd (D * r) 2048
  omega

theorem btw_bd (f : Int) (h0 : 0 ≤ f) (h1 : f < 65536) : 32768 ≤ btw f ∧ btw f ≤ 65536 ∧ ptab.getD ((f / 2048).toNat + 1) 0 ≤ btw f ∧ btw f ≤ ptab.getD (f / 2048).toNat 0 := by
  have hi : (f / 2048).toNat < 32 := by omega
  have a := tab_bd (f / 2048).toNat (by omega)
  have b := tab_bd ((f / 2048).toNat + 1) (by omega)
  have c := tab_falls (f / 2048).toNat hi
  have d := off_bd (ptab.getD (f / 2048).toNat 0 - ptab.getD ((f / 2048).toNat + 1) 0) (f % 2048) c.1 (by omega) (by omega)
  unfold btw
  omega

end Go.Proofs.YtdclfcfdadkmeaaDoor

/-
  Sines and cosines, as plain mathematics: the table of a quarter of a turn, sines between its places, their sizes, what a turn more and the other way make of them; angles.
-/
namespace Go.Proofs.YtdclfcfdadkmeaaDoor
open Go.RowKit
set_option linter.unusedVariables false

/-- the table's numbers: the sines of a quarter of a turn -/
def stab : List Int := [0, 804, 1606, 2404, 3196, 3981, 4756, 5520, 6270, 7005, 7723, 8423, 9102, 9760, 10394, 11003, 11585, 12140, 12665, 13160, 13623, 14053, 14449, 14811, 15137, 15426, 15679, 15893, 16069, 16207, 16305, 16364, 16384]

theorem stab_bd : ∀ i, i < 33 → 0 ≤ stab.getD i 0 ∧ stab.getD i 0 ≤ 16384 := by decide
theorem stab_rises : ∀ i, i < 32 → 1 ≤ stab.getD (i + 1) 0 - stab.getD i 0 ∧ stab.getD (i + 1) 0 - stab.getD i 0 ≤ 804 := by decide

theorem shr_nine (x : Int) : shr x 9 = half x 512 := by
  have h : near 9 0 62 = 9 := by decide
  unfold shr; rw [h]; rfl
theorem half_bd6 (x P : Int) : x / P ≤ half x P ∧ half x P ≤ x / P + 1 := by unfold half; split <;> omega

/-- what is laid upon a sine of the table: from 0 to the step -/
theorem add_bd (D r : Int) (hD : 1 ≤ D) (h0 : 0 ≤ r) (h1 : r < 512) : 0 ≤ D * r ∧ D * r ≤ D * 511 ∧ 0 ≤ half (D * r) 512 ∧ half (D * r) 512 ≤ D := by
  have h2 : 0 ≤ D * r := Int.mul_nonneg (by omega) h0
  have h3 : D * r ≤ D * 511 := Int.mul_le_mul_of_nonneg_left (by omega) (by omega)
  have h4 := half_bd6 (D * r) 512
  omega

/-- the sine of a step of the first quarter -/
def rise (s : Int) : Int := stab.getD (s / 512).toNat 0 + half ((stab.getD ((s / 512).toNat + 1) 0 - stab.getD (s / 512).toNat 0) * (s % 512)) 512

theorem rise_at (i : Nat) (s : Int) (h : s = 512 * i) : rise s = stab.getD i 0 := by
  subst h
  have e1 : ((512 * (i : Int)) / 512).toNat = i := by omega
  have e2 : (512 * (i : Int)) % 512 = 0 := by omega
  unfold rise
  rw [e1, e2, Int.mul_zero]
  have : half 0 512 = 0 := by decide
  omega

theorem rise_bd (s : Int) (h0 : 0 ≤ s) (h1 : s ≤ 16384) : 0 ≤ rise s ∧ rise s ≤ 16384 := by
  by_cases h2 : s = 16384
  · rw [rise_at 32 s (by omega)]; exact stab_bd 32 (by omega)
  · have hi : (s / 512).toNat < 32 := by omega
    have a := stab_bd (s / 512).toNat (by omega)
    have b := stab_bd ((s / 512).toNat + 1) (by omega)
    have c := stab_rises (s / 512).toNat hi
    have d := add_bd (stab.getD ((s / 512).toNat + 1) 0 - stab.getD (s / 512).toNat 0) (s % 512) c.1 (by omega) (by omega)
    unfold rise
    omega

/-- the step of the first quarter at which the sine is looked up -/
def fold4 (a : Int) : Int := if a / 16384 % 2 = 1 then 16384 - a % 16384 else a % 16384
/-- the sine -/
def sine (a : Int) : Int := if 2 ≤ a / 16384 % 4 then -rise (fold4 a) else rise (fold4 a)
/-- the cosine -/
def cosi (a : Int) : Int := sine (a + 16384)

theorem fold4_bd (a : Int) : 0 ≤ fold4 a ∧ fold4 a ≤ 16384 := by unfold fold4; split <;> omega
theorem sine_bd (a : Int) : -16384 ≤ sine a ∧ sine a ≤ 16384 := by
  have h := fold4_bd a
  have h2 := rise_bd (fold4 a) h.1 h.2
  unfold sine; split <;> omega
theorem cosi_bd (a : Int) : -16384 ≤ cosi a ∧ cosi a ≤ 16384 := sine_bd _

theorem fold4_congr {a b : Int} (h : a % 65536 = b % 65536) : fold4 a = fold4 b := by
  have h1 : a / 16384 % 2 = b / 16384 % 2 := by omega
  have h2 : a % 16384 = b % 16384 := by omega
  unfold fold4; rw [h1, h2]
/-- whole turns more or less change nothing -/
theorem sine_congr {a b : Int} (h : a % 65536 = b % 65536) : sine a = sine b := by
  have h1 : a / 16384 % 4 = b / 16384 % 4 := by omega
  unfold sine; rw [h1, fold4_congr h]
theorem cosi_congr {a b : Int} (h : a % 65536 = b % 65536) : cosi a = cosi b := sine_congr (by omega)
theorem sine_wrap (x : Int) : sine (wrap64 x) = sine x := sine_congr (by unfold wrap64; omega)

theorem rise_zero : rise 0 = 0 := rise_at 0 0 rfl
/-- the other way it is the other way -/
theorem sine_neg (a : Int) : sine (-a) = -sine a := by
  have hf : fold4 (-a) = fold4 a := by unfold fold4; split <;> split <;> omega
  by_cases h0 : a % 16384 = 0 ∧ a / 16384 % 2 = 0
  · have e : fold4 a = 0 := by unfold fold4; split <;> omega
    unfold sine; rw [hf, e, rise_zero]; split <;> split <;> rfl
  · unfold sine; rw [hf]; split <;> split <;> omega
theorem sine_half (a : Int) : sine (a + 32768) = -sine a := by
  have hf : fold4 (a + 32768) = fold4 a := by unfold fold4; split <;> split <;> omega
  unfold sine; rw [hf]; split <;> split <;> omega
theorem cosi_neg (a : Int) : cosi (-a) = cosi a := by
  unfold cosi
  have h1 : -a + 16384 = -(a - 16384) := by omega
  rw [h1, sine_neg]
  have h2 := sine_half (a - 16384)
  rw [show a - 16384 + 32768 = a + 16384 by omega] at h2
  omega

theorem sine_zero : sine 0 = 0 := by decide +kernel
theorem cosi_zero : cosi 0 = 16384 := by decide +kernel

/-! ### angles -/

/-- the angle of a pair at a place -/
def ang (place pair : Int) : Int := if place < 0 ∨ 1048576 < place ∨ pair < 0 then 0 else place * (8192 / 2 ^ pair.toNat) % 65536

theorem step_bd (k : Nat) : (0 : Int) ≤ 8192 / 2 ^ k ∧ (8192 : Int) / 2 ^ k ≤ 8192 := by
  have h : (1 : Int) ≤ 2 ^ k := Int.pow_pos (by decide)
  exact ⟨Int.ediv_nonneg (by decide) (by omega), Int.ediv_le_self _ (by decide)⟩
theorem step_next (k : Nat) : (8192 : Int) / 2 ^ (k + 1) = 8192 / 2 ^ k / 2 := by
  rw [Int.pow_succ, Int.ediv_ediv_of_nonneg (by have : (1 : Int) ≤ 2 ^ k := Int.pow_pos (by decide); omega)]
theorem step_gone {j k : Nat} (h : (8192 : Int) / 2 ^ j = 0) (hj : j ≤ k) : (8192 : Int) / 2 ^ k = 0 := by
  obtain ⟨m, rfl⟩ : ∃ m, k = j + m := ⟨k - j, by omega⟩
  rw [Int.pow_add, ← Int.ediv_ediv_of_nonneg (by have : (1 : Int) ≤ 2 ^ j := Int.pow_pos (by decide); omega), h, Int.zero_ediv]
theorem step_min (k : Nat) : (8192 : Int) / 2 ^ min k 64 = 8192 / 2 ^ k := by
  by_cases h : k ≤ 64
  · rw [Nat.min_eq_left h]
  · have e : (8192 : Int) / 2 ^ 64 = 0 := by decide
    rw [Nat.min_eq_right (by omega), e, step_gone e (by omega)]
theorem ang_bd (place pair : Int) : 0 ≤ ang place pair ∧ ang place pair < 65536 := by unfold ang; split <;> omega
theorem ang_at {place pair : Int} (h0 : 0 ≤ place) (h1 : place ≤ 1048576) (h2 : 0 ≤ pair) : ang place pair = place * (8192 / 2 ^ pair.toNat) % 65536 := by unfold ang; rw [if_neg (by omega)]
theorem ang_no {place pair : Int} (h : place < 0 ∨ 1048576 < place ∨ pair < 0) : ang place pair = 0 := by unfold ang; rw [if_pos h]
theorem ang_zero (pair : Int) : ang 0 pair = 0 := by unfold ang; split <;> simp
/-- angles add up, place by place -/
theorem ang_add {a b k : Int} (ha : 0 ≤ a) (hb : 0 ≤ b) (h : a + b ≤ 1048576) (hk : 0 ≤ k) : (ang a k + ang b k) % 65536 = ang (a + b) k := by
  rw [ang_at ha (by omega) hk, ang_at hb (by omega) hk, ang_at (by omega) h hk, Int.add_mul]
  omega

end Go.Proofs.YtdclfcfdadkmeaaDoor

/-
  Contracts of the functions that bring a number to a range: for every argument of its type each returns the nearest number of the range and leaves memory as it was.
-/
namespace Go.Proofs.YtdclfcfdadkmeaaDoor
open Go.RowKit
set_option linter.unusedVariables false

theorem bring8 (x lo hi : Int) (h1 : -128 ≤ lo) (h2 : lo ≤ hi) (h3 : hi ≤ 127) (w : World) :
    Calls Tryd.prog 89 #[.int .i64 x, .int .i8 lo, .int .i8 hi] w fun e w' => e = .returned (.int .i8 (near x lo hi)) ∧ w = w' := by
  by_cases c1 : x < lo
  · go_enter Tryd.func89, Tryd.ntmps89
    go_wp2
    go_ret
    exact ⟨ret_int (by unfold near; omega), rfl⟩
  · by_cases c2 : hi < x
    · go_enter Tryd.func89, Tryd.ntmps89
      go_wp2
      go_ret
      exact ⟨ret_int (by unfold near; omega), rfl⟩
    · go_enter Tryd.func89, Tryd.ntmps89
      go_wp2
      go_ret
      exact ⟨ret_int (by unfold near; omega), rfl⟩

theorem bring32 (x lo hi : Int) (h1 : -2147483648 ≤ lo) (h2 : lo ≤ hi) (h3 : hi ≤ 2147483647) (w : World) :
    Calls Tryd.prog 110 #[.int .i64 x, .int .i32 lo, .int .i32 hi] w fun e w' => e = .returned (.int .i32 (near x lo hi)) ∧ w = w' := by
  by_cases c1 : x < lo
  · go_enter Tryd.func110, Tryd.ntmps110
    go_wp2
    go_ret
    exact ⟨ret_int (by unfold near; omega), rfl⟩
  · by_cases c2 : hi < x
    · go_enter Tryd.func110, Tryd.ntmps110
      go_wp2
      go_ret
      exact ⟨ret_int (by unfold near; omega), rfl⟩
    · go_enter Tryd.func110, Tryd.ntmps110
      go_wp2
      go_ret
      exact ⟨ret_int (by unfold near; omega), rfl⟩

theorem bring64 (x lo hi : Int) (h2 : lo ≤ hi) (w : World) :
    Calls Tryd.prog 90 #[.int .i64 x, .int .i64 lo, .int .i64 hi] w fun e w' => e = .returned (.int .i64 (near x lo hi)) ∧ w = w' := by
  by_cases c1 : x < lo
  · go_enter Tryd.func90, Tryd.ntmps90
    go_wp2
    go_ret
    exact ⟨ret_int (by unfold near; omega), rfl⟩
  · by_cases c2 : hi < x
    · go_enter Tryd.func90, Tryd.ntmps90
      go_wp2
      go_ret
      exact ⟨ret_int (by unfold near; omega), rfl⟩
    · go_enter Tryd.func90, Tryd.ntmps90
      go_wp2
      go_ret
      exact ⟨ret_int (by unfold near; omega), rfl⟩

theorem sat8 (x : Int) (w : World) :
    Calls Tryd.prog 72 #[.int .i64 x] w fun e w' => e = .returned (.int .i8 (near x (-128) 127)) ∧ w = w' := by
  go_enter Tryd.func72, Tryd.ntmps72
  go_wp2_with (go_at_call 89; refine (bring8 _ _ _ (by decide) (by decide) (by decide) _).mono ?_; rintro e w' ⟨rfl, rfl⟩)
  go_ret
  exact ⟨rfl, rfl⟩

theorem sat32 (x : Int) (w : World) :
    Calls Tryd.prog 104 #[.int .i64 x] w fun e w' => e = .returned (.int .i32 (near x (-2147483648) 2147483647)) ∧ w = w' := by
  go_enter Tryd.func104, Tryd.ntmps104
  go_wp2_with (go_at_call 110; refine (bring32 _ _ _ (by decide) (by decide) (by decide) _).mono ?_; rintro e w' ⟨rfl, rfl⟩)
  go_ret
  exact ⟨rfl, rfl⟩

end Go.Proofs.YtdclfcfdadkmeaaDoor

/-
  Contracts of Shift, product, Scale and Quant and of the document's Shift and Scale: for every argument of its type each returns 'shr' (the nearest whole number, of two the even one), brought to its range where it is to be, and leaves memory as it was.
-/
namespace Go.Proofs.YtdclfcfdadkmeaaDoor
open Go.RowKit
set_option linter.unusedVariables false


set_option maxHeartbeats 400000 in
theorem shift (x n : Int) (h1 : -9223372036854775808 ≤ x) (h2 : x ≤ 9223372036854775807) (w : World) :
    Calls Tryd.prog 73 #[.int .i64 x, .int .i64 n] w fun e w' => e = .returned (.int .i64 (shr x n)) ∧ w = w' := by
  obtain ⟨m, hm⟩ : ∃ m, near n 0 62 = m := ⟨_, rfl⟩
  have hb : ∀ w, Calls Tryd.prog 90 #[.int .i64 n, .int .i64 0, .int .i64 62] w fun e w' => e = .returned (.int .i64 m) ∧ w = w' := by
    intro w; rw [← hm]; exact bring64 n 0 62 (by decide) w
  have hm2 := near_in n 0 62 (by decide)
  rw [hm] at hm2
  obtain ⟨m1, m2⟩ := hm2
  have hs : shr x n = if m = 0 then x else half x (2 ^ m.toNat) := by unfold shr; rw [hm]
  rw [hs]
  clear hm hs
  by_cases c0 : m = 0
  · subst c0
    go_enter Tryd.func73, Tryd.ntmps73
    go_wp2_with (go_at_call 90; refine (hb _).mono ?_; rintro e w' ⟨rfl, rfl⟩)
    go_ret
    exact ⟨rfl, rfl⟩
  · rw [if_neg c0]
    have p1 := pow_bounds m (by omega) m2
    have p2 : (1 : Int) ≤ 2 ^ (m.toNat - 1) ∧ (2 : Int) ^ (m.toNat - 1) ≤ 4611686018427387904 := by have h := pow_bounds (m - 1) (by omega) (by omega); rwa [show (m - 1).toNat = m.toNat - 1 by omega] at h
    have p3 := pow_half m (by omega)
    have p4 := and_mask x m.toNat (by omega)
    have p5 := and_one (x / 2 ^ m.toNat)
    have p6 := quo_bounds x (2 ^ m.toNat) h1 h2 (by omega)
    have r1 := Int.emod_nonneg x (b := 2 ^ m.toNat) (by omega)
    have r2 := Int.emod_lt_of_pos x (b := 2 ^ m.toNat) (by omega)
    have P3 := Lib.hid p3
    clear p3
    by_cases c1 : 2 ^ (m.toNat - 1) < x % 2 ^ m.toNat
    · go_enter Tryd.func73, Tryd.ntmps73
      go_wp2_with (go_at_call 90; refine (hb _).mono ?_; rintro e w' ⟨rfl, rfl⟩)
      go_ret
      exact ⟨ret_int (by have := P3.out; unfold half; rw [if_pos (by omega)]), rfl⟩
    · by_cases c2 : x % 2 ^ m.toNat = 2 ^ (m.toNat - 1)
      · have C2 := Lib.hid c2
        have c2' : (x % 2 ^ m.toNat == 2 ^ (m.toNat - 1)) = true := by simpa using c2
        clear c2
        by_cases c3 : x / 2 ^ m.toNat % 2 = 1
        · have c3' : (x / 2 ^ m.toNat % 2 == 1) = true := by simpa using c3
          have C3 := Lib.hid c3
          clear c3
          go_enter Tryd.func73, Tryd.ntmps73
          go_wp2_with (go_at_call 90; refine (hb _).mono ?_; rintro e w' ⟨rfl, rfl⟩)
          go_ret
          exact ⟨ret_int (by have := P3.out; have := C2.out; have := C3.out; unfold half; rw [if_pos (by omega)]), rfl⟩
        · have c3' : (x / 2 ^ m.toNat % 2 == 1) = false := by simpa using c3
          have C3 := Lib.hid c3
          clear c3
          go_enter Tryd.func73, Tryd.ntmps73
          go_wp2_with (go_at_call 90; refine (hb _).mono ?_; rintro e w' ⟨rfl, rfl⟩)
          go_ret
          exact ⟨ret_int (by have := P3.out; have := C2.out; have := C3.out; unfold half; rw [if_neg (by omega)]), rfl⟩
      · have c2' : (x % 2 ^ m.toNat == 2 ^ (m.toNat - 1)) = false := by simpa using c2
        have C2 := Lib.hid c2
        clear c2
        go_enter Tryd.func73, Tryd.ntmps73
        go_wp2_with (go_at_call 90; refine (hb _).mono ?_; rintro e w' ⟨rfl, rfl⟩)
        go_ret
        exact ⟨ret_int (by have := P3.out; have := C2.out; unfold half; rw [if_neg (by omega)]), rfl⟩

end Go.Proofs.YtdclfcfdadkmeaaDoor

/-
  Contracts of rising, Sin, Cos and Angle: in a world whose table holds the document's numbers each returns what the document says, for every argument of its type, and makes no memory.
-/
namespace Go.Proofs.YtdclfcfdadkmeaaDoor
open Go.RowKit
set_option linter.unusedVariables false

/-- the program's table of sines holds the document's numbers -/
def STab (w : World) : Prop := ∀ i, i < 33 → w.cell? ⟨0, i, none⟩ = some (.int .i32 (stab.getD i 0))
theorem STab.below {w w' : World} (h : STab w) (hb : Below w.heap.size w w') : STab w' := fun i hi => (hb.cell (p := ⟨0, i, none⟩) (World.block_lt_of_cell? _ _ (h i hi))).trans (h i hi)
theorem STab.drewN {w : World} (h : STab w) (d : Nat) : STab (w.drewN d) := h

theorem rising (s : Int) (h0 : 0 ≤ s) (h1 : s ≤ 16384) (w : World) (hT : STab w) :
    Calls Tryd.prog 111 #[.int .i64 s] w fun e w' => e = .returned (.int .i32 (rise s)) ∧ ∃ d, w' = w.drewN d := by
  obtain ⟨i, hi⟩ : ∃ i : Nat, s / 512 = (i : Int) := ⟨(s / 512).toNat, by omega⟩
  have hm : bits .and .i64 s 511 = s % 512 := by have := and_mask s 9 (by decide); simpa using this
  have ha := hT i (by omega)
  by_cases c0 : s % 512 = 0
  · have hr := rise_at i s (by omega)
    rw [hr]
    rw [c0] at hm
    generalize stab.getD i 0 = p at ha
    have hi' : s / 512 = (i : Int) := hi
    have i33 : (i : Int) < 33 := by omega
    clear hr hT
    go_enter Tryd.func111, Tryd.ntmps111
    go_wp2
    go_ret
    exact ⟨rfl, 0, rfl⟩
  · have hi2 : i < 32 := by omega
    have hb := hT (i + 1) (by omega)
    have a1 := stab_bd i (by omega)
    have a3 := stab_bd (i + 1) (by omega)
    have a2 := stab_rises i hi2
    have hr : rise s = stab.getD i 0 + half ((stab.getD (i + 1) 0 - stab.getD i 0) * (s % 512)) 512 := by unfold rise; rw [hi]; rfl
    rw [hr]
    clear hr hT
    generalize stab.getD i 0 = p at ha a1 a2 ⊢
    generalize stab.getD (i + 1) 0 = q at hb a2 a3 ⊢
    obtain ⟨r, hr⟩ : ∃ r, s % 512 = r := ⟨_, rfl⟩
    have r0 : 0 ≤ r ∧ r < 512 := by omega
    have r1 : (r == 0) = false := by simp; omega
    rw [hr] at hm ⊢
    obtain ⟨m0, m1, m2, m3⟩ := add_bd (q - p) r a2.1 r0.1 r0.2
    have hs : ∀ w, Calls Tryd.prog 73 #[.int .i64 ((q - p) * r), .int .i64 9] w fun e w' => e = .returned (.int .i64 (half ((q - p) * r) 512)) ∧ w' = w := fun w => (by
      rw [← shr_nine]; exact (shift _ _ (by omega) (by omega) w).mono (fun e w' h => ⟨h.1, h.2.symm⟩))
    generalize hu : (q - p) * r = u at hs m0 m1 m2 m3
    generalize hv : half u 512 = v at hs m2 m3
    have e0 : IntKind.i32.wrap (q - p) = q - p := IntWalk.i32_in _ (by omega)
    have e1 : IntKind.i64.wrap (q - p) = q - p := IntWalk.i64_in _ (by omega)
    have e2 : IntKind.i64.wrap u = u := IntWalk.i64_in _ (by omega)
    have e3 : IntKind.i32.wrap v = v := IntWalk.i32_in _ (by omega)
    have e4 : IntKind.i32.wrap (p + v) = p + v := IntWalk.i32_in _ (by omega)
    have e5 : IntKind.i64.wrap ((i : Int) + 1) = (i : Int) + 1 := IntWalk.i64_in _ (by omega)
    have hi' : s / 512 = (i : Int) := hi
    have i33 : (i : Int) + 1 < 33 := by omega
    clear hr hv
    go_enter Tryd.func111, Tryd.ntmps111
    go_wp2
    go_quiet (first | (go_at_call 73; refine Calls.quiet_of_same (hs _)))
    go_wp2
    go_ret
    exact ⟨rfl, _, rfl⟩

theorem sin_any (a : Int) (h1 : -9223372036854775808 ≤ a) (h2 : a ≤ 9223372036854775807) (w : World) (hT : STab w) :
    Calls Tryd.prog 108 #[.int .i64 a] w fun e w' => e = .returned (.int .i32 (sine a)) ∧ ∃ d, w' = w.drewN d := by
  have hm1 : bits .and .i64 (a / 16384) 3 = a / 16384 % 4 := by have := and_mask (a / 16384) 2 (by decide); simpa using this
  have hm2 : bits .and .i64 a 16383 = a % 16384 := by have := and_mask a 14 (by decide); simpa using this
  have hm3 := and_one (a / 16384 % 4)
  have hf := fold4_bd a
  have hr := rising (fold4 a) hf.1 hf.2 w hT
  have hb := rise_bd (fold4 a) hf.1 hf.2
  have q0 : 0 ≤ a / 16384 % 4 ∧ a / 16384 % 4 < 4 := by omega
  have f0 : 0 ≤ a % 16384 ∧ a % 16384 < 16384 := by omega
  have hq2 : a / 16384 % 4 % 2 = a / 16384 % 2 := by omega
  by_cases c0 : a / 16384 % 2 = 1
  · have hfo : fold4 a = 16384 - a % 16384 := by unfold fold4; rw [if_pos c0]
    rw [c0] at hq2
    rw [hq2] at hm3
    by_cases c1 : 2 ≤ a / 16384 % 4
    · have hsn : sine a = -rise (fold4 a) := by unfold sine; rw [if_pos c1]
      rw [hsn]
      rw [hfo] at hr hb ⊢
      generalize a / 16384 % 4 = q at hm1 hm3 q0 c1
      generalize a % 16384 = f at hm2 hr hb f0 ⊢
      generalize rise (16384 - f) = v at hr hb ⊢
      clear hfo hsn hq2 hf c0 hT
      go_enter Tryd.func108, Tryd.ntmps108
      go_wp2_with fail
      refine hr.mono ?_
      rintro e w' ⟨rfl, d, rfl⟩
      go_wp2
      go_ret
      exact ⟨rfl, _, rfl⟩
    · have hsn : sine a = rise (fold4 a) := by unfold sine; rw [if_neg c1]
      rw [hsn]
      rw [hfo] at hr hb ⊢
      have c1' : ¬ 2 ≤ a / 16384 % 4 := c1
      generalize a / 16384 % 4 = q at hm1 hm3 q0 c1 c1'
      generalize a % 16384 = f at hm2 hr hb f0 ⊢
      generalize rise (16384 - f) = v at hr hb ⊢
      clear hfo hsn hq2 hf c0 hT
      go_enter Tryd.func108, Tryd.ntmps108
      go_wp2_with fail
      refine hr.mono ?_
      rintro e w' ⟨rfl, d, rfl⟩
      go_wp2
      go_ret
      exact ⟨rfl, _, rfl⟩
  · have hfo : fold4 a = a % 16384 := by unfold fold4; rw [if_neg c0]
    have hq3 : a / 16384 % 2 = 0 := by omega
    rw [hq3] at hq2
    rw [hq2] at hm3
    by_cases c1 : 2 ≤ a / 16384 % 4
    · have hsn : sine a = -rise (fold4 a) := by unfold sine; rw [if_pos c1]
      rw [hsn]
      rw [hfo] at hr hb ⊢
      generalize a / 16384 % 4 = q at hm1 hm3 q0 c1
      generalize a % 16384 = f at hm2 hr hb f0 ⊢
      generalize rise f = v at hr hb ⊢
      clear hfo hsn hq2 hq3 hf c0 hT
      go_enter Tryd.func108, Tryd.ntmps108
      go_wp2_with fail
      refine hr.mono ?_
      rintro e w' ⟨rfl, d, rfl⟩
      go_wp2
      go_ret
      exact ⟨rfl, _, rfl⟩
    · have hsn : sine a = rise (fold4 a) := by unfold sine; rw [if_neg c1]
      rw [hsn]
      rw [hfo] at hr hb ⊢
      have c1' : ¬ 2 ≤ a / 16384 % 4 := c1
      generalize a / 16384 % 4 = q at hm1 hm3 q0 c1 c1'
      generalize a % 16384 = f at hm2 hr hb f0 ⊢
      generalize rise f = v at hr hb ⊢
      clear hfo hsn hq2 hq3 hf c0 hT
      go_enter Tryd.func108, Tryd.ntmps108
      go_wp2_with fail
      refine hr.mono ?_
      rintro e w' ⟨rfl, d, rfl⟩
      go_wp2
      go_ret
      exact ⟨rfl, _, rfl⟩

theorem cos_any (a : Int) (w : World) (hT : STab w) :
    Calls Tryd.prog 107 #[.int .i64 a] w fun e w' => e = .returned (.int .i32 (cosi a)) ∧ ∃ d, w' = w.drewN d := by
  have hb := wrap64_bd (a + 16384)
  have hs := sin_any (wrap64 (a + 16384)) hb.1 hb.2 w hT
  rw [sine_wrap] at hs
  have hc : sine (a + 16384) = cosi a := rfl
  rw [hc] at hs
  generalize cosi a = c at hs ⊢
  clear hb hc
  go_enter Tryd.func107, Tryd.ntmps107
  go_wp2_with fail
  refine hs.mono ?_
  rintro e w' ⟨rfl, d, rfl⟩
  go_wp2
  go_ret
  exact ⟨rfl, _, rfl⟩

theorem angle_any (place pair : Int) (h1 : -9223372036854775808 ≤ pair) (h2 : pair ≤ 9223372036854775807) (w : World) :
    Calls Tryd.prog 106 #[.int .i64 place, .int .i64 pair] w fun e w' => e = .returned (.int .i64 (ang place pair)) ∧ w = w' := by
  by_cases c0 : place < 0
  · rw [ang_no (.inl c0)]
    go_enter Tryd.func106, Tryd.ntmps106
    go_wp2
    go_ret
    exact ⟨rfl, rfl⟩
  · by_cases c1 : 1048576 < place
    · rw [ang_no (.inr (.inl c1))]
      go_enter Tryd.func106, Tryd.ntmps106
      go_wp2
      go_ret
      exact ⟨rfl, rfl⟩
    · by_cases c2 : pair < 0
      · rw [ang_no (.inr (.inr c2))]
        go_enter Tryd.func106, Tryd.ntmps106
        go_wp2
        go_ret
        exact ⟨rfl, rfl⟩
      · rw [ang_at (by omega) (by omega) (by omega), ← step_min]
        have hs := step_bd (min pair.toNat 64)
        have p0 : 0 ≤ place ∧ place ≤ 1048576 := by omega
        have hp : 0 ≤ place * (8192 / 2 ^ min pair.toNat 64) ∧ place * (8192 / 2 ^ min pair.toNat 64) ≤ 1048576 * 8192 := ⟨Int.mul_nonneg p0.1 hs.1, Int.mul_le_mul p0.2 hs.2 hs.1 (by decide)⟩
        have hm : bits .and .i64 (place * (8192 / 2 ^ min pair.toNat 64)) 65535 = place * (8192 / 2 ^ min pair.toNat 64) % 65536 := by have := and_mask (place * (8192 / 2 ^ min pair.toNat 64)) 16 (by decide); simpa using this
        go_enter Tryd.func106, Tryd.ntmps106
        go_wp2
        go_ret
        exact ⟨rfl, rfl⟩

end Go.Proofs.YtdclfcfdadkmeaaDoor
