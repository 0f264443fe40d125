/-
  The document's Fault, of whatever bytes; the code's Parse, its error.
-/
import Derived.Test.YtlgnpicnpnibfaaDocFaultN
import Derived.Test.YtlgnpicnpnibfaaDocFaultS
import Derived.Test.YtlgnpicnpnibfaaDocFaultX
import Derived.Test.YtlgnpicnpnibfaaDocFaultE
import Derived.Test.YtlgnpicnpnibfaaParse7
namespace Go.Proofs.Ytlgnpicnpnibfaa
open Go.RowKit
set_option linter.unusedVariables false

/-- what Fault answers -/
def GivesF (xs : List Int) (e : Ending) : Prop := ∃ a0 a1 a2 a3 a4 a5 : Int, e = .returned (.tuple #[.int .i64 (faultN xs : Nat), .agg #[.int .i64 a0, .int .i64 a1, .int .i64 a2, .int .i64 a3, .int .i64 a4, .int .i64 a5]])

theorem dfault_any (a : Option Addr) (n cap : Nat) (xs : List Int) (w : World) (h : Elems .u8 w a n xs) (hcap : n ≤ cap) (hcap2 : cap ≤ 9223372036854775807) :
    Calls Try.prog 27 #[.slice a n cap] w fun e w' => GivesF xs e ∧ Below w.heap.size w w' := by
  have hl := h.1
  by_cases hn : n < 24
  · refine (dfault_short a n cap w hn).mono ?_
    rintro e w' ⟨rfl, hb⟩
    exact ⟨⟨0, 0, 0, 0, 0, 0, by unfold faultN; rw [if_pos (by omega)]; rfl⟩, hb⟩
  · obtain ⟨b, off, rfl, _⟩ := h.2.2.2 (by omega)
    by_cases hm : xs.take 8 = magicL
    · by_cases ok : (sOf xs).Ok
      · rcases Nat.lt_trichotomy n (24 + cnt (sOf xs)) with hc | hc | hc
        · exact (dfault_few b off n cap xs w h (by omega) hcap hcap2 hm ok hc).mono fun e w' ⟨h1, h2⟩ => ⟨⟨_, _, _, _, _, _, h1⟩, h2⟩
        · exact (dfault_sum b off n cap xs w h (by omega) hcap hcap2 hm ok hc).mono fun e w' ⟨h1, h2⟩ => ⟨⟨_, _, _, _, _, _, h1⟩, h2⟩
        · exact (dfault_many b off n cap xs w h (by omega) hcap hcap2 hm ok hc).mono fun e w' ⟨h1, h2⟩ => ⟨⟨_, _, _, _, _, _, h1⟩, h2⟩
      · exact (dfault_no b off n cap xs w h (by omega) hcap hcap2 hm ok).mono fun e w' ⟨h1, h2⟩ => ⟨⟨_, _, _, _, _, _, h1⟩, h2⟩
    · refine (dfault_magic b off n cap xs w h (by omega) hcap hcap2 hm).mono ?_
      rintro e w' ⟨rfl, hb⟩
      exact ⟨⟨0, 0, 0, 0, 0, 0, by unfold faultN; rw [if_neg (by omega), if_pos hm]; rfl⟩, hb⟩

/-- the error that Parse answers -/
theorem parse_err (a : Option Addr) (n cap : Nat) (xs : List Int) (w : World) (h : Elems .u8 w a n xs) (ha : 0 < n → ∃ b, a = some ⟨b, 0, none⟩) (hcap : n ≤ cap) (hcap2 : cap ≤ 9223372036854775807) :
    Calls Try.prog 25 #[.slice a n cap] w fun e w' => (∃ cs, e = .returned (.tuple #[.agg cs, .int .i64 (faultN xs : Nat)])) ∧ Below w.heap.size w w' := by
  by_cases hf : faultN xs = 0
  · have hlen := (fault_zero hf).2.2.1
    have hl := h.1
    obtain ⟨b, rfl⟩ := ha (by omega)
    refine (parse_yes b n cap xs w h hcap hcap2 hf).mono ?_
    rintro e w' ⟨⟨G, b', rfl, _⟩, hb⟩
    exact ⟨⟨_, by rw [hf]; rfl⟩, hb⟩
  · refine (parse_no a n cap xs w h (fun h24 => ha (by omega)) hcap hcap2 hf).mono ?_
    rintro e w' ⟨rfl, hb⟩
    exact ⟨⟨_, rfl⟩, hb⟩

end Go.Proofs.Ytlgnpicnpnibfaa
