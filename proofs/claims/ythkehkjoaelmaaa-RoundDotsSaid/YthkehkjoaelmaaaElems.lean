/-
  A slice of integers that reads as a list: what the walks of this seat are told of it, and how it is kept over new memory; wrapped sums.
-/
import Derived.Test.YthkehkjoaelmaaaBring
import Derived.Below
import Derived.DataReads
import Derived.Deep.Draws
namespace Go.Proofs.Ythkehkjoaelmaaa
open Go.RowKit
set_option linter.unusedVariables false

theorem val_int {k : IntKind} {a b : Int} (h : a = b) : Value.int k a = Value.int k b := by rw [h]

/-- two stretches behind one another, each of which leaves alone what it found -/
theorem below_two {w a b : World} (h1 : Below w.heap.size w a) (h2 : Below a.heap.size a b) : Below w.heap.size w b := h1.trans (h2.mono h1.size)

/-- The slice at a with n elements of kind k reads as xs in w (a matters only where n is above 0). -/
def Elems (k : IntKind) (w : World) (a : Option Addr) (n : Nat) (xs : List Int) : Prop :=
  xs.length = n ∧ n ≤ 9223372036854775807 ∧ (∀ x ∈ xs, (Lit.int k x).wf = true) ∧
    (0 < n → ∃ b off, a = some ⟨b, off, none⟩ ∧ ∀ i, i < n → w.cell? ⟨b, off + i, none⟩ = some (.int k (xs.getD i 0)))

theorem Elems.nil_ (k : IntKind) (w : World) (a : Option Addr) : Elems k w a 0 [] := ⟨rfl, by omega, by simp, fun h => absurd h (by omega)⟩

theorem Elems.below {k : IntKind} {w w' : World} {a : Option Addr} {n : Nat} {xs : List Int} (h : Elems k w a n xs) (hb : Below w.heap.size w w') : Elems k w' a n xs := by
  refine ⟨h.1, h.2.1, h.2.2.1, fun hn => ?_⟩
  obtain ⟨b, off, rfl, hc⟩ := h.2.2.2 hn
  exact ⟨b, off, rfl, fun i hi => (hb.cell (p := ⟨b, off + i, none⟩) (World.block_lt_of_cell? _ _ (hc i hi))).trans (hc i hi)⟩

theorem Elems.drewN {k : IntKind} {w : World} {a : Option Addr} {n : Nat} {xs : List Int} (h : Elems k w a n xs) (d : Nat) : Elems k (w.drewN d) a n xs := h

/-- the first m elements, and those from m on -/
theorem Elems.take {k : IntKind} {w : World} {a : Option Addr} {n : Nat} {xs : List Int} (h : Elems k w a n xs) (m : Nat) (hm : m ≤ n) : Elems k w a m (xs.take m) := by
  refine ⟨by rw [List.length_take, h.1]; omega, by have := h.2.1; omega, fun x hx => h.2.2.1 x (List.mem_of_mem_take hx), fun hn => ?_⟩
  obtain ⟨b, off, rfl, hc⟩ := h.2.2.2 (by omega)
  refine ⟨b, off, rfl, fun i hi => ?_⟩
  rw [hc i (by omega)]
  simp [List.getD, hi]

theorem Elems.drop {k : IntKind} {w : World} {b off n : Nat} {xs : List Int} (h : Elems k w (some ⟨b, off, none⟩) n xs) (m : Nat) (hm : m ≤ n) : Elems k w (some ⟨b, off + m, none⟩) (n - m) (xs.drop m) := by
  refine ⟨by rw [List.length_drop, h.1], by have := h.2.1; omega, fun x hx => h.2.2.1 x (List.mem_of_mem_drop hx), fun hn => ?_⟩
  obtain ⟨b', off', he, hc⟩ := h.2.2.2 (by omega)
  simp only [Option.some.injEq, Addr.mk.injEq] at he
  obtain ⟨rfl, rfl, _⟩ := he
  refine ⟨b, off + m, rfl, fun i hi => ?_⟩
  rw [show off + m + i = off + (m + i) by omega, hc (m + i) (by omega)]
  simp [List.getD, List.getElem?_drop]

/-- what 's[lo:]' leads to, where the capacity is not used up -/
theorem Elems.cut {k : IntKind} {w : World} {a : Option Addr} {n : Nat} {xs : List Int} (h : Elems k w a n xs) (m : Nat) (hm : m ≤ n) : Elems k w (a.map (fun x => x.add m)) (n - m) (xs.drop m) := by
  refine ⟨by rw [List.length_drop, h.1], by have := h.2.1; omega, fun x hx => h.2.2.1 x (List.mem_of_mem_drop hx), fun hn => ?_⟩
  obtain ⟨b, off, rfl, hc⟩ := h.2.2.2 (by omega)
  refine ⟨b, off + m, ?_, fun i hi => ?_⟩
  · simp only [Option.map_some, Addr.add]
    split
    · rename_i e; subst e; rfl
    · rfl
  · rw [show off + m + i = off + (m + i) by omega, hc (m + i) (by omega)]
    simp [List.getD, List.getElem?_drop]
theorem Elems.empty {k : IntKind} {w : World} {n : Nat} {xs : List Int} (a : Option Addr) (h : xs.length = n) (hn : n = 0) : Elems k w a n xs := by
  subst hn
  obtain rfl : xs = [] := List.length_eq_zero_iff.1 h
  exact Elems.nil_ k w a

theorem pair_elems {k : IntKind} {w : World} {g : Nat} {p q : Int} (h0 : w.cell? ⟨g, 0, none⟩ = some (.int k p)) (h1 : w.cell? ⟨g, 1, none⟩ = some (.int k q)) (wp : (Lit.int k p).wf = true) (wq : (Lit.int k q).wf = true) :
    Elems k w (some ⟨g, 0, none⟩) 2 [p, q] := by
  refine ⟨rfl, by omega, ?_, fun _ => ⟨g, 0, rfl, fun i hi => ?_⟩⟩
  · intro x hx
    simp only [List.mem_cons, List.not_mem_nil, or_false] at hx
    rcases hx with rfl | rfl
    · exact wp
    · exact wq
  · match i, hi with
    | 0, _ => exact h0
    | 1, _ => exact h1

theorem getD_mem {xs : List Int} {i : Nat} (h : i < xs.length) : xs.getD i 0 ∈ xs := by
  rw [List.getD_eq_getElem?_getD, List.getElem?_eq_getElem h]; exact List.getElem_mem h

/-- One element, as a round of a loop wants it. -/
theorem Elems.at_ {k : IntKind} {w : World} {a : Option Addr} {n : Nat} {xs : List Int} (h : Elems k w a n xs) {i : Nat} (hi : i < n) :
    ∃ b off v, a = some ⟨b, off, none⟩ ∧ w.cell? ⟨b, off + i, none⟩ = some (.int k v) ∧ Hid (xs.getD i 0 = v) ∧ (Lit.int k v).wf = true := by
  obtain ⟨b, off, rfl, hc⟩ := h.2.2.2 (by omega)
  exact ⟨b, off, _, rfl, hc i hi, Lib.hid rfl, h.2.2.1 _ (getD_mem (by rw [h.1]; exact hi))⟩

/-- What the shell's walk is told of a slice that came in, as a list. -/
theorem elems_of_row {k : IntKind} {w : World} {a : Option Addr} {len cap : Nat} {zs : List Int}
    (h : (a = none ∧ len = 0 ∧ cap = 0 ∧ zs = []) ∨ ∃ x, a = some x ∧ len ≤ cap ∧ cap ≤ maxLen ∧ zs.length = cap ∧ (∀ i, i < zs.length → w.cell? (x.add i) = some (.int k (zs.getD i 0))) ∧ ∀ n ∈ zs, (Lit.int k n).wf = true) :
    (∃ xs, Elems k w a len xs) ∧ len ≤ cap ∧ cap ≤ 9223372036854775807 := by
  rcases h with ⟨rfl, rfl, rfl, _⟩ | ⟨x, rfl, hl, hm, hz, hc, hw⟩
  · exact ⟨⟨[], Elems.nil_ k w none⟩, by omega, by omega⟩
  · unfold maxLen at hm
    refine ⟨?_, hl, by omega⟩
    by_cases h0 : len = 0
    · subst h0; exact ⟨[], Elems.nil_ k w (some x)⟩
    · obtain ⟨b, off, spot⟩ := x
      have hs : spot = none := by simpa [Addr.add] using World.cell?_spot (hc 0 (by omega))
      subst hs
      have hE : Elems k w (some ⟨b, off, none⟩) cap zs := by
        refine ⟨hz, by omega, hw, fun _ => ⟨b, off, rfl, fun i hi => ?_⟩⟩
        have := hc i (by omega)
        unfold Addr.add at this
        split at this
        · rename_i e; subst e; exact this
        · exact this
      exact ⟨_, hE.take len hl⟩

theorem rest9 (n : Int) : -8 ≤ n.tmod 9 ∧ n.tmod 9 ≤ 8 := by
  rcases Int.le_total 0 n with h | h
  · have := Int.tmod_eq_emod_of_nonneg (b := 9) h; omega
  · have h1 := Int.neg_tmod n 9
    have h2 := Int.tmod_eq_emod_of_nonneg (a := -n) (b := 9) (by omega)
    omega
/-- a rest by a number above 0 that is not known -/
theorem rest_by (n m : Int) (hm : 1 ≤ m) : -m < n.tmod m ∧ n.tmod m < m := by
  rcases Int.le_total 0 n with h | h
  · rw [Int.tmod_eq_emod_of_nonneg h]
    have := Int.emod_nonneg n (b := m) (by omega); have := Int.emod_lt_of_pos n (b := m) (by omega); omega
  · have h1 := Int.neg_tmod n m
    have h2 := Int.tmod_eq_emod_of_nonneg (a := -n) (b := m) (by omega)
    have := Int.emod_nonneg (-n) (b := m) (by omega); have := Int.emod_lt_of_pos (-n) (b := m) (by omega); omega

theorem wf8 {n : Int} (h : (Lit.int .i8 n).wf = true) : -128 ≤ n ∧ n ≤ 127 := by
  simp [Lit.wf, IntKind.min, IntKind.max, IntKind.signed, IntKind.bits] at h; omega
theorem wf32 {n : Int} (h : (Lit.int .i32 n).wf = true) : -2147483648 ≤ n ∧ n ≤ 2147483647 := by
  simp [Lit.wf, IntKind.min, IntKind.max, IntKind.signed, IntKind.bits] at h; omega
theorem wf64 {n : Int} (h : (Lit.int .i64 n).wf = true) : -9223372036854775808 ≤ n ∧ n ≤ 9223372036854775807 := by
  simp [Lit.wf, IntKind.min, IntKind.max, IntKind.signed, IntKind.bits] at h; omega

/-- the sum of the first numbers, one more -/
theorem sum_step (xs : List Int) (k : Nat) (hk : k < xs.length) : (xs.take (k + 1)).sum = (xs.take k).sum + xs.getD k 0 := by
  rw [List.take_add_one, List.sum_append]
  simp [List.getD, List.getElem?_eq_getElem hk]
theorem sum_all (xs : List Int) (k : Nat) (hk : xs.length ≤ k) : xs.take k = xs := List.take_of_length_le hk

theorem sum_cut (xs : List Int) (k m : Nat) : (xs.take (k + m)).sum = (xs.take k).sum + ((xs.drop k).take m).sum := by
  rw [List.take_add, List.sum_append]
theorem sum_rest (xs : List Int) (k : Nat) : xs.sum = (xs.take k).sum + (xs.drop k).sum := by
  rw [← List.sum_append, List.take_append_drop]

/-- a sum of whole numbers, wrapped to 32 bits -/
def wsum (xs : List Int) : Int := wrap32 xs.sum

theorem wrap32_bd (x : Int) : -2147483648 ≤ wrap32 x ∧ wrap32 x ≤ 2147483647 := by unfold wrap32; omega
theorem wrap32_in (x : Int) (h : -2147483648 ≤ x ∧ x ≤ 2147483647) : wrap32 x = x := by unfold wrap32; omega
theorem wrap64_bd (x : Int) : -9223372036854775808 ≤ wrap64 x ∧ wrap64 x ≤ 9223372036854775807 := by unfold wrap64; omega
theorem wrap32_wrap64 (x : Int) : wrap32 (wrap64 x) = wrap32 x := by unfold wrap32 wrap64; omega
theorem wrap64_add (x y : Int) : wrap64 (wrap64 x + y) = wrap64 (x + y) := by unfold wrap64; omega
theorem wrap32_add (x y : Int) : wrap32 (wrap32 x + y) = wrap32 (x + y) := by unfold wrap32; omega
theorem wsum_wf (xs : List Int) : (Lit.int .i32 (wsum xs)).wf = true := wrap32_wf _
theorem wrap32_add2 (x y : Int) : wrap32 (wrap32 x + wrap32 y) = wrap32 (x + y) := by unfold wrap32; omega

end Go.Proofs.Ythkehkjoaelmaaa
