/-
  The check sum, in plain mathematics: one bit, one byte, a list of bytes; the code's one bit.
-/
import Derived.Test.YtobogkilkmnpmaaKit
import Derived.Laws.BitsAllLaws
import Derived.Laws.BitsLemmas
namespace Go.Proofs.Ytobogkilkmnpmaa
open Go.RowKit
set_option linter.unusedVariables false

/-- one bit -/
def stp (r : Nat) : Nat := if r % 2 = 1 then (r / 2) ^^^ 3988292384 else r / 2
/-- n bits -/
def bitsN : Nat → Nat → Nat
  | 0, r => r
  | n + 1, r => stp (bitsN n r)
/-- one byte -/
def byt (r : Nat) (x : Int) : Nat := bitsN 8 (r ^^^ x.toNat)
/-- a list of bytes -/
def crcL (r : Nat) (xs : List Int) : Nat := xs.foldl byt r
/-- the check sum of a list of bytes -/
def csum (xs : List Int) : Nat := 4294967295 - crcL 4294967295 xs

theorem stp_lt (r : Nat) (h : r < 4294967296) : stp r < 4294967296 := by
  unfold stp
  split
  · exact Nat.xor_lt_two_pow (n := 32) (by omega) (by decide)
  · omega
theorem bitsN_lt (n r : Nat) (h : r < 4294967296) : bitsN n r < 4294967296 := by
  induction n with
  | zero => exact h
  | succ n ih => exact stp_lt _ ih
theorem byt_lt (r : Nat) (x : Int) (h : r < 4294967296) (hx : x ≤ 255) : byt r x < 4294967296 :=
  bitsN_lt 8 _ (Nat.xor_lt_two_pow (n := 32) (by omega) (by omega))
theorem crcL_snoc (r : Nat) (xs : List Int) (x : Int) : crcL r (xs ++ [x]) = byt (crcL r xs) x := by
  unfold crcL; rw [List.foldl_append]; rfl
theorem crcL_app (r : Nat) (xs ys : List Int) : crcL r (xs ++ ys) = crcL (crcL r xs) ys := by
  unfold crcL; rw [List.foldl_append]
theorem crcL_lt (xs : List Int) (r : Nat) (h : r < 4294967296) (hx : ∀ x ∈ xs, x ≤ 255) : crcL r xs < 4294967296 := by
  induction xs generalizing r with
  | nil => exact h
  | cons x xs ih => exact ih (byt r x) (byt_lt r x h (hx x (by simp))) (fun y hy => hx y (by simp [hy]))
theorem csum_lt (xs : List Int) : csum xs < 4294967296 := by unfold csum; omega

/-- all bits turned -/
theorem xor_ones (r : Nat) (h : r < 4294967296) : r ^^^ 4294967295 = 4294967295 - r := by
  have := Nat.xor_lt_two_pow (n := 32) (show r < 2 ^ 32 by omega) (show 4294967295 < 2 ^ 32 by decide)
  have e : (BitVec.ofNat 32 r ^^^ BitVec.allOnes 32) = ~~~ BitVec.ofNat 32 r := BitVec.xor_allOnes
  have e2 := congrArg BitVec.toNat e
  rw [BitVec.toNat_xor, BitVec.toNat_not, BitVec.toNat_allOnes, BitVec.toNat_ofNat, Nat.mod_eq_of_lt (by omega)] at e2
  simpa using e2

theorem bits_xor (r x : Nat) (h : r < 4294967296) (hx : x < 4294967296) : bits .xor .u32 (r : Int) (x : Int) = ((r ^^^ x : Nat) : Int) := u32_xor_nat r x h hx

/-- the code's one bit -/
theorem code_bit (r : Nat) (h : r < 4294967296) (b : Int) (hb : bits .and .u32 (r : Int) 1 = b) (c : Int) (hc : IntKind.u32.wrap (-b) = c) (d : Int) (hd : bits .and .u32 3988292384 c = d) (e : Int) (he : bits .xor .u32 ((r : Int) / 2) d = e) : e = (stp r : Nat) := by
  have h1 : b = ((r % 2 : Nat) : Int) := by
    rw [← hb]
    have := u32_and_nat r 1 h (by decide)
    rw [nat_mask1] at this
    simpa using this
  have h2 : c = if r % 2 = 1 then 4294967295 else 0 := by
    rw [← hc, h1, IntKind.wrap_u32']
    split <;> omega
  have h3 : d = ((if r % 2 = 1 then 3988292384 else 0 : Nat) : Int) := by
    rw [← hd, h2]
    split
    · exact u32_and_nat 3988292384 4294967295 (by decide) (by decide)
    · exact u32_and_nat 3988292384 0 (by decide) (by decide)
  rw [← he, h3]
  have h4 : ((r : Int) / 2) = ((r / 2 : Nat) : Int) := by omega
  rw [h4, u32_xor_nat _ _ (by omega) (by split <;> omega)]
  unfold stp
  split
  · rfl
  · simp

theorem code_not (r : Nat) (h : r < 4294967296) : bits .xor .u32 4294967295 (r : Int) = ((4294967295 - r : Nat) : Int) := by
  have := u32_xor_nat 4294967295 r (by decide) h
  rw [Nat.xor_comm, xor_ones r h] at this
  exact this
theorem doc_not (r : Nat) (h : r < 4294967296) : bits .xor .u32 (r : Int) 4294967295 = ((4294967295 - r : Nat) : Int) := by
  have := u32_xor_nat r 4294967295 h (by decide)
  rw [xor_ones r h] at this
  exact this

end Go.Proofs.Ytobogkilkmnpmaa
