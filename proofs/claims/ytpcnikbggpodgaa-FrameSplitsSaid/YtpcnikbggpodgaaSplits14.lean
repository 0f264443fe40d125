/-
  What FrameSplits leans on: the frames of bodies, one behind the other.
-/
import Derived.Test.YtpcnikbggpodgaaLaw14
import Derived.Test.YtpcnikbggpodgaaSplit14
import Derived.Test.YtpcnikbggpodgaaJoin14
namespace Go.Proofs.Ytpcnikbggpodgaa
open Go.RowKit
set_option linter.unusedVariables false

/-- the frames of the first k bodies, each of its number's kind -/
def frames14 (qs : List Rw) (k : Nat) : List (List Int) := (List.range k).map fun i : Nat => frm (i : Int) (qs.getD i default).v
theorem frames14_len (qs : List Rw) (k : Nat) : (frames14 qs k).length = k := by simp [frames14]
theorem frames14_succ (qs : List Rw) (k : Nat) : frames14 qs (k + 1) = frames14 qs k ++ [frm (k : Int) (qs.getD k default).v] := by
  unfold frames14
  rw [List.range_succ, List.map_append]
  rfl
theorem frames14_is {qs : List Rw} {k : Nat} (h : ∀ i, i < k → (qs.getD i default).v.length ≤ 500) : ∀ f ∈ frames14 qs k, ∃ c body, f = frm c body ∧ body.length ≤ 1048576 := by
  intro f hf
  obtain ⟨i, hi, rfl⟩ := List.mem_map.1 hf
  have := h i (List.mem_range.1 hi)
  exact ⟨_, _, rfl, by omega⟩
theorem frames14_flat {qs : List Rw} {k : Nat} (h : ∀ i, i < k → (qs.getD i default).v.length ≤ 500) : (frames14 qs k).flatten.length ≤ 512 * k := by
  induction k with
  | zero => simp [frames14]
  | succ k ih =>
    rw [frames14_succ, List.flatten_append, List.length_append]
    have h1 := ih (fun i hi => h i (by omega))
    have h2 := h k (by omega)
    simp only [List.flatten_cons, List.flatten_nil, List.append_nil, frm_len]
    omega
theorem frames14_wf {qs : List Rw} {k : Nat} (hk : k ≤ 256) (h : ∀ i, i < k → (qs.getD i default).v.length ≤ 500 ∧ ∀ x ∈ (qs.getD i default).v, (Lit.int .u8 x).wf = true) : ∀ x ∈ (frames14 qs k).flatten, (Lit.int .u8 x).wf = true := by
  intro x hx
  obtain ⟨f, hf, hxf⟩ := List.mem_flatten.1 hx
  obtain ⟨i, hi, rfl⟩ := List.mem_map.1 hf
  have hi := List.mem_range.1 hi
  exact frm_wf (b14_wf _ (by omega) (by omega)) (h i hi).2 (by have := (h i hi).1; omega) x hxf
theorem lens_flat (fs : List (List Int)) : Lib.lens (fs.map Lib.bytesOf) = fs.flatten.length := by
  induction fs with
  | nil => rfl
  | cons f fs ih => rw [List.map_cons, Lib.lens_cons, ih, List.flatten_cons, List.length_append, Lib.bytesOf_length]
/-- a frame of bytes that begin with it is not empty -/
theorem SplitR.pos : ∀ {xs : List Int} {fs : List (List Int)} {r : List Int}, SplitR xs fs r → ∀ f ∈ fs, 12 ≤ f.length := by
  intro xs fs
  induction fs generalizing xs with
  | nil => intro r _ f hf; simp at hf
  | cons g fs ih =>
    intro r h f hf
    rcases List.mem_cons.1 hf with h1 | h1
    · rw [h1, h.2.1, List.length_take]
      have := bg_len h.1
      omega
    · exact ih h.2.2 f h1
theorem flat_step (fs : List (List Int)) {i : Nat} (hi : i < fs.length) : (fs.take (i + 1)).flatten.length = (fs.take i).flatten.length + (fs.getD i []).length := by
  rw [List.take_add_one, List.flatten_append, List.length_append]
  simp [List.getD, hi]
theorem flat_le (fs : List (List Int)) (i : Nat) : (fs.take i).flatten.length ≤ fs.flatten.length := by
  conv => rhs; rw [← List.take_append_drop i fs]
  rw [List.flatten_append, List.length_append]
  omega

end Go.Proofs.Ytpcnikbggpodgaa
