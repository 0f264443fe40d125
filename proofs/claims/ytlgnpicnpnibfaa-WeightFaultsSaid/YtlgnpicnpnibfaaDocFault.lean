/-
  The document's Fault: the first error of a file, and the shape that it names.
-/
import Derived.Test.YtlgnpicnpnibfaaFault
import Derived.Test.YtlgnpicnpnibfaaDocRows
import Derived.Deep.RegionLaw
import Derived.IntWalk
import Derived.BigRegion
namespace Go.Proofs.Ytlgnpicnpnibfaa
open Go.RowKit
set_option linter.unusedVariables false

theorem results_tmp_cell {fn : Func} {p u : Tmp} {ty : TypeId} (h : fn.results = #[.tmp u, .cell p ty]) (tmps : Array Value) (P : Program) (w : World) :
    (results fn tmps).run P w = ((asAddr (tmps.getD p undef)).run P w).andThen fun a w₁ => ((loadVar ty a).run P w₁).andThen fun v w₂ => .ok (.tuple #[tmps.getD u undef, v]) w₂ := by
  simp only [results, h]
  simp [Sem.run_bind, Result.andThen]
theorem results_tmp_row {P : Program} {fn : Func} {p u : Tmp} {ty : TypeId} (h : fn.results = #[.tmp u, .cell p ty]) {tmps : Array Value} {w : World} {g : Nat} {T : TypeId} {cs : Array Value} {d : TypeDesc} (hp : tmps.getD p undef = .pointer (some ⟨g, 0, none⟩)) (hg : Box w g T cs) (hu : P.underlying ty = some d) (hd : (match d with | .struct _ | .array _ _ => true | _ => false) = true) (hi : (P.info? ty).map (·.size) = some cs.size) {v : Value} (hv : tmps.getD u undef = v) :
    (results fn tmps).run P w = .ok (.tuple #[v, .agg cs]) w := by
  have hl := run_loadVar_row (P := P) w g T ty cs (0, 0) d hg hu hd hi
  rw [results_tmp_cell h, hp, hv]
  simp [hl, asAddr]

/-- no shape's numbers -/
def zsh : Array Value := #[.int .i64 0, .int .i64 0, .int .i64 0, .int .i64 0, .int .i64 0, .int .i64 0]

set_option maxHeartbeats 1600000 in
set_option maxRecDepth 100000 in
theorem dfault_short (a : Option Addr) (n cap : Nat) (w : World) (hn : n < 24) : Calls Try.prog 27 #[.slice a n cap] w fun e w' => e = .returned (.tuple #[.int .i64 70, .agg zsh]) ∧ Below w.heap.size w w' := by
  go_enter Try.func27, Try.ntmps27
  go_wp2_with fail
  exact bodyPost_ret (v := .tuple #[.int .i64 70, .agg zsh]) (results_tmp_row rfl rfl (box_new w 30 zsh) Try.underlying30 rfl (by kernel_rfl) rfl) rfl ⟨rfl, (Below.refl _ _).alloc (Nat.le_refl _) _⟩

set_option maxHeartbeats 1600000 in
set_option maxRecDepth 100000 in
theorem dfault_magic (b off n cap : Nat) (xs : List Int) (w : World) (h : Elems .u8 w (some ⟨b, off, none⟩) n xs) (hn : 24 ≤ n) (hcap : n ≤ cap) (hcap2 : cap ≤ 9223372036854775807) (hm : xs.take 8 ≠ magicL) :
    Calls Try.prog 27 #[.slice (some ⟨b, off, none⟩) n cap] w fun e w' => e = .returned (.tuple #[.int .i64 71, .agg zsh]) ∧ Below w.heap.size w w' := by
  have hB : Below w.heap.size w (w.alloc (.cells zsh 30)) := (Below.refl _ _).alloc (Nat.le_refl _) _
  have h8 := (h.below hB).take 8 (by omega)
  have hb8 : ∀ x ∈ xs.take 8, 0 ≤ x ∧ x < 256 := by
    intro x hx
    have := wfu8 (h8.2.2.1 x hx)
    omega
  have hcv := run_convert_bytes_arg (P := Try.prog) (w.alloc (.cells zsh 30)) 24 5 Try.underlying24 Try.underlying5 b off 8 cap (xs.take 8) h8.1 (fun i hi => by
    obtain ⟨b', off', he, hc⟩ := h8.2.2.2 (by omega)
    cases he
    exact hc i hi) 9 Try.underlying9
  have hmt := magic_toList (xs.take 8) hb8
  rw [decide_eq_false hm] at hmt
  generalize hs : strOfNums (xs.take 8) = str at hcv hmt
  have HMT := Lib.hid hmt
  have HB := Lib.hid hB
  clear h h8 hs hm hmt hb8 hB
  unfold zsh at hcv
  go_enter Try.func27, Try.ntmps27
  go_upto_region 4 with (fail)
  · go_wp2_with fail
    exact bodyPost_ret (v := .tuple #[.int .i64 71, .agg zsh]) (results_tmp_row rfl rfl (box_new w 30 zsh) Try.underlying30 rfl (by kernel_rfl) rfl) rfl ⟨rfl, HB.out⟩
  · rename_i hf _ _
    rw [HMT.out] at hf
    exact absurd hf (by decide)

end Go.Proofs.Ytlgnpicnpnibfaa
