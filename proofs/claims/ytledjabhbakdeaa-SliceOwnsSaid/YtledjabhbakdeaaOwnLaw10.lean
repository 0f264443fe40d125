/-
  What SliceOwns wants: a look-up in the map of owners, how many heads each worker has, where stretches end.
-/
import Derived.Test.YtledjabhbakdeaaOwns10
import Derived.Test.YtledjabhbakdeaaAwake10
namespace Go.Proofs.Ytledjabhbakdeaa
open Go.RowKit Go.Maps Go.ChangeMaps
set_option linter.unusedVariables false

theorem om_look {w : World} {b : Nat} {s : Sz} {st pt : Nat} {ps : List Nat} (hO : OM w b s st pt ps) {l h : Nat} (hl : l < s.l) (hh : h < s.h) (hL : s.l ≤ 16) (hH : s.h ≤ 16) (hin : l * s.h + h ∈ ps) :
    ∃ g cap : Nat, (Instr.lookup 44 (.map (some b)) (.agg #[.int .i64 l, .int .i64 h]) false).run Try.prog w = .ok (.slice (some ⟨g, 0, none⟩) 1 cap) w ∧ w.cell? ⟨g, 0, none⟩ = some (.int .i64 (owner s st pt l h)) := by
  obtain ⟨D, h1, h2, h3⟩ := hO
  have hkey := key_mk (p := l) (i := h) (by omega) (by omega)
  obtain ⟨_, h5⟩ := h3 l h hl hh
  obtain ⟨g, cap, h6, h7, h8⟩ := h5 hin
  obtain ⟨v, pl, hrun, hv⟩ := World.ownsMap.lookup h1 law2 Try.underlying44 (zero_ints w) (zd := .nil) (zp := []) rfl hkey
  rw [h6] at hv
  rw [sl1_inv hv] at hrun
  exact ⟨g, cap, hrun, h8⟩
theorem om_len {w : World} {b : Nat} {s : Sz} {st pt : Nat} {ps : List Nat} (hO : OM w b s st pt ps) (ty : TypeId) : (Builtin.len_ #[44] ty #[.map (some b)]).run Try.prog w = .ok (.int .i64 (ps.length : Nat)) w := by
  obtain ⟨D, h1, h2, _⟩ := hO
  rw [World.ownsMap.len h1 Try.underlying44 ty, h2]

/-- how many heads each worker was found to have, up to layer l and head h -/
def HasInv (s : Sz) (st pt l h : Nat) (cs : List Int) : Prop :=
  cs.length = st * pt ∧ (∀ x ∈ cs, 0 ≤ x ∧ x ≤ ((l * s.h + h : Nat) : Int)) ∧ ∀ l' h', l' < s.l → h' < s.h → (l' < l ∨ l' = l ∧ h' < h) → 1 ≤ cs.getD (owner s st pt l' h') 0
theorem has_start (s : Sz) (st pt : Nat) : HasInv s st pt 0 0 (List.replicate (st * pt) 0) := by
  refine ⟨by simp, fun x hx => ?_, fun l' h' _ _ hc => by omega⟩
  rw [List.eq_of_mem_replicate hx]
  omega
theorem getD_nn {cs : List Int} {B : Int} (hB : 0 ≤ B) (h : ∀ x ∈ cs, 0 ≤ x ∧ x ≤ B) (k : Nat) : 0 ≤ cs.getD k 0 ∧ cs.getD k 0 ≤ B := by
  rw [List.getD_eq_getElem?_getD]
  rcases Nat.lt_or_ge k cs.length with hk | hk
  · rw [List.getElem?_eq_getElem hk]
    exact h _ (List.getElem_mem hk)
  · rw [List.getElem?_eq_none hk]
    exact ⟨Int.le_refl _, hB⟩
theorem has_step {s : Sz} {st pt l h : Nat} {cs : List Int} (hi : HasInv s st pt l h cs) (ho : owner s st pt l h < st * pt) : HasInv s st pt l (h + 1) (cs.set (owner s st pt l h) (cs.getD (owner s st pt l h) 0 + 1)) := by
  obtain ⟨h1, h2, h3⟩ := hi
  have hg := getD_nn (B := ((l * s.h + h : Nat) : Int)) (by omega) h2
  refine ⟨by simpa using h1, fun x hx => ?_, fun l' h' hl' hh' hc => ?_⟩
  · rcases List.mem_or_eq_of_mem_set hx with hx | hx
    · have := h2 x hx; omega
    · have := hg (owner s st pt l h); omega
  · rw [List.getD_eq_getElem?_getD, List.getElem?_set]
    by_cases e : owner s st pt l h = owner s st pt l' h'
    · rw [if_pos e, if_pos (by rw [h1]; exact ho)]
      have := hg (owner s st pt l h)
      simp only [Option.getD_some]
      omega
    · rw [if_neg e, ← List.getD_eq_getElem?_getD]
      refine h3 l' h' hl' hh' ?_
      by_cases c : l' = l ∧ h' = h
      · obtain ⟨rfl, rfl⟩ := c; exact absurd rfl e
      · omega
theorem has_row {s : Sz} {st pt l : Nat} {cs : List Int} (hi : HasInv s st pt l s.h cs) : HasInv s st pt (l + 1) 0 cs := by
  obtain ⟨h1, h2, h3⟩ := hi
  refine ⟨h1, fun x hx => ?_, fun l' h' hl' hh' hc => h3 l' h' hl' hh' (by omega)⟩
  have := h2 x hx
  rw [Nat.add_mul]
  omega
theorem has_end {s : Sz} {st pt : Nat} {cs : List Int} (hi : HasInv s st pt s.l 0 cs) (hL : 1 ≤ s.l) (hH : 1 ≤ s.h) (h1 : 1 ≤ st) (h2 : 1 ≤ pt) (hst : st ≤ s.l) (hpt : pt ≤ s.h) (k : Nat) (hk : k < st * pt) : 1 ≤ cs.getD k 0 := by
  have a1 : k / pt < st := (Nat.div_lt_iff_lt_mul (by omega)).2 hk
  have a2 : k % pt < pt := Nat.mod_lt k (by omega)
  have b1 := spn_lt s.l st (k / pt) h1 hst
  have b2 := spn_lt s.h pt (k % pt) h2 hpt
  have c1 := span_le s.l st (k / pt + 1) (by omega)
  have c2 := span_le s.h pt (k % pt + 1) (by omega)
  have e : owner s st pt (spanAt s.l st (k / pt)) (spanAt s.h pt (k % pt)) = k := (owner_span hL hH h1 h2 (by omega)).2 ⟨⟨Nat.le_refl _, b1⟩, Nat.le_refl _, b2⟩
  have := hi.2.2 (spanAt s.l st (k / pt)) (spanAt s.h pt (k % pt)) (by omega) (by omega) (.inl (by omega))
  rwa [e] at this

end Go.Proofs.Ytledjabhbakdeaa
