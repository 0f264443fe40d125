/-
  The code's take16, take32, shapeOf: numbers out of bytes, the greater ones first.
-/
import Derived.Test.YtlgnpicnpnibfaaFileMath
import Derived.Deep.QuietTactic
import Derived.BigQuiet
import Derived.IntWalk
namespace Go.Proofs.Ytlgnpicnpnibfaa
open Go.RowKit
set_option linter.unusedVariables false

theorem or_i64 (a b : Nat) (ha : a < 4611686018427387904) (hb : b < 4611686018427387904) : bits .or .i64 (a : Int) (b : Int) = ((a ||| b : Nat) : Int) := by
  have hx : a ||| b < 2 ^ 62 := Nat.or_lt_two_pow (by omega) (by omega)
  have e : ∀ c : Nat, c < 4611686018427387904 → (BitVec.ofInt 64 (c : Int)).toNat = c := fun c hc => by rw [BitVec.ofInt_natCast, BitVec.toNat_ofNat]; exact Nat.mod_eq_of_lt (by omega)
  show IntKind.i64.wrap ((BitVec.ofInt 64 (a : Int) ||| BitVec.ofInt 64 (b : Int)).toNat : Int) = _
  rw [BitVec.toNat_or, e a ha, e b hb]
  exact IntWalk.i64_in _ ⟨by omega, by omega⟩
theorem or_256 (a b : Nat) (ha : a ≤ 255) (hb : b ≤ 255) : bits .or .i64 ((a : Int) * 256) (b : Int) = ((a * 256 + b : Nat) : Int) := by
  have h := or_i64 (a * 256) b (by omega) (by omega)
  rw [nat_join 8 (a * 256) b (by omega) (by omega)] at h
  have e : ((a * 256 : Nat) : Int) = (a : Int) * 256 := by omega
  rw [e] at h
  exact h
theorem or_65536 (a b : Nat) (ha : a ≤ 65535) (hb : b ≤ 65535) : bits .or .i64 ((a : Int) * 65536) (b : Int) = ((a * 65536 + b : Nat) : Int) := by
  have h := or_i64 (a * 65536) b (by omega) (by omega)
  rw [nat_join 16 (a * 65536) b (by omega) (by omega)] at h
  have e : ((a * 65536 : Nat) : Int) = (a : Int) * 65536 := by omega
  rw [e] at h
  exact h

/-- two bytes as a number -/
def n16 (xs : List Int) : Nat := (xs.getD 0 0).toNat * 256 + (xs.getD 1 0).toNat

set_option maxHeartbeats 800000 in
theorem take16_any (b off n cap : Nat) (xs : List Int) (w : World) (h : Elems .u8 w (some ⟨b, off, none⟩) n xs) (hn : 2 ≤ n) :
    Calls Try.prog 48 #[.slice (some ⟨b, off, none⟩) n cap] w fun e w' => e = .returned (.int .i64 (n16 xs : Nat)) ∧ ∃ d, w' = w.drewN d := by
  obtain ⟨b', off', x, he, c0, hx, wx⟩ := h.at_ (show 0 < n by omega)
  cases he
  obtain ⟨b', off', y, he, c1, hy, wy⟩ := h.at_ (show 1 < n by omega)
  cases he
  have x1 := wfu8 wx
  have y1 := wfu8 wy
  obtain ⟨x, rfl⟩ : ∃ k : Nat, x = k := ⟨x.toNat, by omega⟩
  obtain ⟨y, rfl⟩ : ∃ k : Nat, y = k := ⟨y.toNat, by omega⟩
  have hR : n16 xs = x * 256 + y := by unfold n16; rw [hx.out, hy.out, Int.toNat_natCast, Int.toNat_natCast]
  have HR := Lib.hid hR
  have e1 := or_256 x y (by omega) (by omega)
  have e2 : IntKind.i64.wrap ((x : Int) * 256) = (x : Int) * 256 := IntWalk.i64_in _ (by omega)
  have e3 : IntKind.i64.wrap (x : Int) = (x : Int) := IntWalk.i64_in _ (by omega)
  have e4 : IntKind.i64.wrap (y : Int) = (y : Int) := IntWalk.i64_in _ (by omega)
  rw [Nat.add_zero] at c0
  have n0 : 0 < n := by omega
  have n1 : 1 < n := by omega
  clear h hx hy wx wy hR
  go_enter Try.func48, Try.ntmps48
  go_wp2_with fail
  go_quiet (fail)
  go_wp2
  go_ret
  refine ⟨ret_int ?_, _, rfl⟩
  rw [HR.out]; omega

/-- four bytes as a number -/
def n32 (xs : List Int) : Nat := n16 xs * 65536 + n16 (xs.drop 2)
theorem n16_le {kd : IntKind} {w : World} {a : Option Addr} {n : Nat} {xs : List Int} (h : Elems .u8 w a n xs) : n16 xs ≤ 65535 := by
  have hb : ∀ k, (xs.getD k 0).toNat ≤ 255 := by
    intro k
    by_cases hk : k < xs.length
    · have := wfu8 (h.2.2.1 _ (getD_mem hk)); omega
    · rw [List.getD_eq_getElem?_getD, List.getElem?_eq_none (by omega)]; simp
  unfold n16
  have := hb 0
  have := hb 1
  omega

set_option maxHeartbeats 800000 in
theorem take32_any (b off cap : Nat) (xs : List Int) (w : World) (h : Elems .u8 w (some ⟨b, off, none⟩) 4 xs) (hcap : 4 ≤ cap) (hcap2 : cap ≤ 9223372036854775807) :
    Calls Try.prog 46 #[.slice (some ⟨b, off, none⟩) 4 cap] w fun e w' => e = .returned (.int .u32 (n32 xs : Nat)) ∧ ∃ d, w' = w.drewN d := by
  have hd : Elems .u8 w (some ⟨b, off + 2, none⟩) 2 (xs.drop 2) := h.drop 2 (by omega)
  have t1 := fun d => take16_any b off 4 cap xs (w.drewN d) (h.drewN d) (by omega)
  have t2 := fun d => take16_any b (off + 2) 2 (cap - 2) (xs.drop 2) (w.drewN d) (hd.drewN d) (by omega)
  have l1 := n16_le (kd := .u8) h
  have l2 := n16_le (kd := .u8) hd
  have HN : Hid (n32 xs = n16 xs * 65536 + n16 (xs.drop 2)) := Lib.hid rfl
  generalize n16 xs = x at *
  generalize n16 (xs.drop 2) = y at *
  have e1 := or_65536 x y (by omega) (by omega)
  have e2 : IntKind.i64.wrap ((x : Int) * 65536) = (x : Int) * 65536 := IntWalk.i64_in _ (by omega)
  have e3 : IntKind.u32.wrap ((x * 65536 + y : Nat) : Int) = ((x * 65536 + y : Nat) : Int) := IntWalk.u32_in _ (by omega)
  generalize x * 65536 + y = z at *
  have hne : ¬ cap = 2 := by omega
  have hne2 : ¬ 2 = cap := by omega
  clear h hd
  go_enter Try.func46, Try.ntmps46
  go_wp2_with fail
  go_quiet ((go_at_call 48; (first | (with_reducible refine Calls.quiet_of (t1 _)) | (with_reducible refine Calls.quiet_of (t2 _)))))
  go_wp2
  go_ret
  exact ⟨ret_int (by rw [HN.out]), _, rfl⟩

end Go.Proofs.Ytlgnpicnpnibfaa
