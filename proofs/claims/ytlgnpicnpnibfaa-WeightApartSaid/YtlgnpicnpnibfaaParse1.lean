/-
  The code's closure that reads numbers out of a file, one behind the other.
-/
import Derived.Test.YtlgnpicnpnibfaaFileMath
import Derived.IntWalk
namespace Go.Proofs.Ytlgnpicnpnibfaa
open Go.RowKit
set_option linter.unusedVariables false

/-- a byte as a number of 8 bits -/
def sgn8 (x : Int) : Int := if x < 128 then x else x - 256
theorem sgn8_wrap (x : Int) (h0 : 0 ≤ x) (h1 : x ≤ 255) : IntKind.i8.wrap x = sgn8 x := by
  have e : IntKind.i8.wrap x = (x + 128) % 256 - 128 := by simp [IntKind.wrap, IntKind.bits, IntKind.signed]; split <;> omega
  rw [e]
  unfold sgn8
  split <;> omega
theorem sgn8_wf (x : Int) (h0 : 0 ≤ x) (h1 : x ≤ 255) : (Lit.int .i8 (sgn8 x)).wf = true := by
  unfold sgn8
  split <;> (simp [Lit.wf, IntKind.min, IntKind.max, IntKind.signed, IntKind.bits]; omega)
theorem sgn8_u8 (x : Int) (h0 : -128 ≤ x) (h1 : x ≤ 127) : sgn8 (u8 x) = x := by
  unfold sgn8 u8
  split <;> omega

/-- what the closure's variable holds after k numbers -/
def leftK (b n cap k : Nat) : Value := .slice (some ⟨b, 20 + k, none⟩) (n - (20 + k)) (cap - (20 + k))

set_option maxHeartbeats 800000 in
theorem parse1_any (g : Bool) (c b n cap k : Nat) (xs : List Int) (w : World) (hc : Box w c 24 #[leftK b n cap k]) (h : Elems .u8 w (some ⟨b, 0, none⟩) n xs) (hk : 20 + k + 2 ≤ n) (hcap : n ≤ cap) (hcap2 : cap ≤ 9223372036854775807) :
    Calls Try.prog 38 #[.bool g, .pointer (some ⟨c, 0, none⟩)] w fun e w' => e = .returned (.int .i8 (sgn8 (xs.getD (20 + k) 0))) ∧ w' = w.setCell ⟨c, 0, none⟩ (leftK b n cap (k + 1)) := by
  have c0 : w.cell? ⟨c, 0, none⟩ = some (leftK b n cap k) := hc.cell 0
  have f0 := hc.frozen 0
  have hnx : Hid (leftK b n cap (k + 1) = .slice (some ⟨b, 20 + k + 1, none⟩) (n - (20 + k) - 1) (cap - (20 + k) - 1)) := Lib.hid (by
    unfold leftK
    rw [show 20 + (k + 1) = 20 + k + 1 by omega, show n - (20 + k + 1) = n - (20 + k) - 1 by omega, show cap - (20 + k + 1) = cap - (20 + k) - 1 by omega])
  obtain ⟨b', off', x, he, cx, hx, wx⟩ := h.at_ (show 20 + k < n by omega)
  cases he
  rw [Nat.zero_add] at cx
  have hb := wfu8 wx
  have hs := sgn8_wrap x hb.1 hb.2
  have HX := Lib.hid hx.out
  unfold leftK at c0
  generalize hp : 20 + k = p at *
  have hp2 := hp
  obtain ⟨m, hm⟩ : ∃ m : Nat, n - p = m := ⟨_, rfl⟩
  obtain ⟨q, hq⟩ : ∃ q : Nat, cap - p = q := ⟨_, rfl⟩
  rw [hm, hq] at c0 hnx
  have m1 : 2 ≤ m := by omega
  have q1 : m ≤ q := by omega
  have q2 : q ≤ 9223372036854775807 := by omega
  have m0 : 0 < m := by omega
  have hne : ¬ q = 1 := by omega
  have hne2 : ¬ 1 = q := by omega
  obtain ⟨y, hy⟩ : ∃ y, sgn8 x = y := ⟨_, rfl⟩
  rw [hy] at hs
  have HY := Lib.hid hy
  clear hy
  clear hc h hx wx hp hp2 hm hq hk hcap hcap2
  go_enter Try.func38, Try.ntmps38
  go_wp2
  go_ret
  exact ⟨ret_int (by rw [HX.out]; exact HY.out.symm), by rw [hnx.out]⟩

end Go.Proofs.Ytlgnpicnpnibfaa
