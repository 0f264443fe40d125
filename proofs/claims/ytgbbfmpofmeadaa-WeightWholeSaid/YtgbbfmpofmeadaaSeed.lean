/-
  The next number of 64 bits, in plain mathematics.
-/
import Derived.Test.YtgbbfmpofmeadaaFillW
import Derived.IntWalk
namespace Go.Proofs.Ytgbbfmpofmeadaa
open Go.RowKit
set_option linter.unusedVariables false

/-- the next of the numbers of 64 bits -/
def nxt (x : Nat) : Nat := (x * 6364136223846793005 + 1442695040888963407) % 18446744073709551616
/-- the k-th of them, from the seed on -/
def seedK (x : Nat) : Nat → Nat
  | 0 => x
  | k + 1 => nxt (seedK x k)
/-- the number that it gives -/
def numK (gain : Bool) (y : Nat) : Int := let n : Int := (y / 72057594037927936 : Nat) - 128; if gain then n.tdiv 16 + 16 else n
theorem nxt_lt (x : Nat) : nxt x < 18446744073709551616 := Nat.mod_lt _ (by decide)
theorem seedK_lt (x : Nat) (hx : x < 18446744073709551616) (k : Nat) : seedK x k < 18446744073709551616 := by
  cases k with
  | zero => exact hx
  | succ k => exact nxt_lt _
theorem numK_bd (gain : Bool) (y : Nat) (hy : y < 18446744073709551616) : -128 ≤ numK gain y ∧ numK gain y ≤ 127 := by
  have h : y / 72057594037927936 ≤ 255 := by omega
  unfold numK
  cases gain with
  | false => simp; omega
  | true =>
    simp only [if_true]
    generalize hn : (((y / 72057594037927936 : Nat) : Int) - 128) = n
    have h1 : -128 ≤ n ∧ n ≤ 127 := by omega
    have h2 := Int.tdiv_mul_add_tmod n 16 
    have h3 : -16 < n.tmod 16 ∧ n.tmod 16 < 16 := by
      have a1 := Int.tmod_lt_of_pos n (b := 16) (by decide)
      have a2 := Int.neg_tmod n 16
      have a3 := Int.tmod_lt_of_pos (-n) (b := 16) (by decide)
      omega
    omega
theorem numK_wf (gain : Bool) (y : Nat) (hy : y < 18446744073709551616) : (Lit.int .i8 (numK gain y)).wf = true := by
  have := numK_bd gain y hy
  simp [Lit.wf, IntKind.min, IntKind.max, IntKind.signed, IntKind.bits]; omega

/-- is number k a gain? -/
def gainK : List (Bool × Nat) → Nat → Bool
  | [], _ => false
  | r :: rs, k => if k < r.2 then r.1 else gainK rs (k - r.2)
theorem gainK_at (rs : List (Bool × Nat)) (j i : Nat) (hj : j < rs.length) (hi : i < (rs.getD j default).2) : gainK rs (tot (rs.take j) + i) = (rs.getD j default).1 := by
  induction rs generalizing j with
  | nil => simp at hj
  | cons r rs ih =>
    cases j with
    | zero =>
      have hi2 : i < r.2 := hi
      show (if tot [] + i < r.2 then r.1 else _) = r.1
      rw [if_pos (by simp [tot]; omega)]
    | succ j =>
      have e : tot ((r :: rs).take (j + 1)) = r.2 + tot (rs.take j) := by simp [tot]
      rw [e]
      show (if r.2 + tot (rs.take j) + i < r.2 then r.1 else gainK rs (r.2 + tot (rs.take j) + i - r.2)) = _
      rw [if_neg (by omega), show r.2 + tot (rs.take j) + i - r.2 = tot (rs.take j) + i by omega]
      exact ih j (by simpa using hj) hi
/-- all numbers out of a seed -/
def grownF (s : Sz) (x : Nat) (k : Nat) : Int := numK (gainK (rowsL s) k) (seedK x (k + 1))
def grownL (s : Sz) (x : Nat) : List Int := (List.range (cnt s)).map (grownF s x)

/-- the two steps as the program takes them -/
def mulK (y : Int) : Int := IntKind.u64.wrap (y * 6364136223846793005)
theorem addK (y : Nat) : IntKind.u64.wrap (mulK y + 1442695040888963407) = (nxt y : Nat) := by
  unfold mulK nxt
  simp only [IntKind.wrap_u64]
  omega
theorem numK_true (y bb : Nat) (h : y / 72057594037927936 = bb) : numK true y = ((bb : Int) - 128).tdiv 16 + 16 := by unfold numK; rw [h]; simp
theorem numK_false (y bb : Nat) (h : y / 72057594037927936 = bb) : numK false y = (bb : Int) - 128 := by unfold numK; rw [h]; simp
theorem top_cast (z bb : Nat) (h : z / 72057594037927936 = bb) : (z : Int) / 72057594037927936 = (bb : Int) := by rw [← h]; exact (Int.natCast_ediv _ _).symm
theorem mulK_eq (y : Nat) : IntKind.u64.wrap ((y : Int) * 6364136223846793005) = mulK y := by unfold mulK; exact Eq.refl _
theorem top_le (z : Nat) (hz : z < 18446744073709551616) : z / 72057594037927936 ≤ 255 := by omega

end Go.Proofs.Ytgbbfmpofmeadaa
