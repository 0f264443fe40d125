/-
  What stage 14's laws lean on: a copy of the bytes handed in; a frame as a row.
-/
import Derived.Test.YtobogkilkmnpmaaAwake14
import Derived.Test.YtobogkilkmnpmaaLitCopy
import Derived.Test.YtobogkilkmnpmaaRwRow
namespace Go.Proofs.Ytobogkilkmnpmaa
open Go.RowKit
set_option linter.unusedVariables false

/-- append([]byte{}, q...) at an empty literal just laid -/
theorem copy14 (W : World) (q : Rw) (hq : q.In .u8 W) (hn : q.n ≤ 65536) :
    ∃ (g : Rw) (w' : World), Sem.run Try.prog (Builtin.append_ #[27, 27] 27 #[.slice (some ⟨W.heap.size, 0, none⟩) 0 0, .slice q.a q.n q.cap]) (W.alloc (.cells #[] 5)) = .ok (.slice g.a g.n g.cap) w' ∧ g.In .u8 w' ∧ g.v = q.v ∧ g.n = q.n ∧ Below W.heap.size W w' := by
  have hb : Below W.heap.size W (W.alloc (.cells #[] 5)) := (Below.refl _ _).alloc (Nat.le_refl _) _
  obtain ⟨g, w', hr, h1, h2, h3, _, h5, _⟩ := run_lit_copy (P := Try.prog) .u8 (W.alloc (.cells #[] 5)) 27 5 1 (by omega) Try.underlying27 info_u8 W.heap.size (box_new W _ _) q (hq.below hb) hn
  exact ⟨g, w', hr, h1, h2, h3, below_two hb h5⟩
/-- a frame that the call owns, as a row -/
theorem frm_row {w : World} {base : Nat} {v : Value} {k : Int} {body : List Int} (hk : (Lit.int .u8 k).wf = true) (hb : ∀ x ∈ body, (Lit.int .u8 x).wf = true) (hl : body.length ≤ 1048576) {n : Nat} (hn : n = body.length) (h : w.ownsRow base 5 1 v (n + 12) ((frm k body).map (.int .u8))) :
    ∃ b cap, v = .slice (some ⟨b, 0, none⟩) (n + 12) cap ∧ Rw.In .u8 w ⟨some ⟨b, 0, none⟩, n + 12, cap, frm k body⟩ ∧ base ≤ b ∧ b < w.heap.size := by
  obtain ⟨q, rfl, hqn, hqv, hqi, hqa⟩ := own_row8 h (frm_wf hk hb (by omega)) (by omega)
  obtain ⟨a, m, cap, xs⟩ := q
  simp only at hqn hqv hqa hqi
  subst hqn hqv
  obtain ⟨b, rfl, h1, h2⟩ := hqa (by omega)
  exact ⟨b, cap, rfl, hqi, h1, h2⟩

theorem snoc14 {xs : List Int} {x : Int} (h : ∀ y ∈ xs, (Lit.int .u8 y).wf = true) (hx : (Lit.int .u8 x).wf = true) : ∀ y ∈ xs ++ [x], (Lit.int .u8 y).wf = true := by
  intro y hy
  rcases List.mem_append.1 hy with h1 | h1
  · exact h y h1
  · simp only [List.mem_singleton] at h1; subst h1; exact hx
/-- a place brought into a row -/
theorem rest14 (a : Int) (L : Nat) (hL : 0 < L) : ∃ (r : Int) (K : Nat), a.tmod (L : Int) = r ∧ -(L : Int) < r ∧ r < (L : Int) ∧ (r + (L : Int)).tmod (L : Int) = (K : Int) ∧ (r + (L : Int)) % (L : Int) = (K : Int) ∧ K < L := by
  have h := rest_by a (L : Int) (by omega)
  have h0 := Int.emod_nonneg (a.tmod (L : Int) + (L : Int)) (show (L : Int) ≠ 0 by omega)
  have h1 := Int.emod_lt_of_pos (a.tmod (L : Int) + (L : Int)) (show (0 : Int) < (L : Int) by omega)
  refine ⟨a.tmod (L : Int), ((a.tmod (L : Int) + (L : Int)) % (L : Int)).toNat, rfl, h.1, h.2, ?_, ?_, ?_⟩
  · rw [Int.tmod_eq_emod_of_nonneg (by omega)]; omega
  · omega
  · omega
/-- a byte turned by another one -/
theorem turn14 {x : Int} (hx : (Lit.int .u8 x).wf = true) {y : Int} (hy : (Lit.int .u8 y).wf = true) : ∃ z, bits .xor .u8 x y = z ∧ (Lit.int .u8 z).wf = true ∧ (y = 0 → z = x) ∧ (y ≠ 0 → x ≠ z) := by
  have bx := wfu8 hx
  have by_ := wfu8 hy
  obtain ⟨X, rfl⟩ : ∃ X : Nat, x = X := ⟨x.toNat, by omega⟩
  obtain ⟨Y, rfl⟩ : ∃ Y : Nat, y = Y := ⟨y.toNat, by omega⟩
  have hlt : X ^^^ Y < 2 ^ 8 := Nat.xor_lt_two_pow (by omega) (by omega)
  refine ⟨((X ^^^ Y : Nat) : Int), u8_xor_nat X Y (by omega) (by omega), b14_wf _ (by omega) (by omega), fun h => ?_, fun h e => ?_⟩
  · obtain rfl : Y = 0 := by omega
    simp
  · have e2 : X ^^^ Y = X := by omega
    have e3 := congrArg (X ^^^ ·) e2
    simp only [← Nat.xor_assoc, Nat.xor_self, Nat.zero_xor] at e3
    omega
/-- a frame in which one byte is turned -/
theorem flt_turned {k : Int} {body : List Int} (hk : (Lit.int .u8 k).wf = true) (hb : ∀ x ∈ body, (Lit.int .u8 x).wf = true) (hl : body.length ≤ 1048576) {i : Nat} (hi : i < body.length + 12) {y z : Int} (wz : (Lit.int .u8 z).wf = true)
    (h0 : y = 0 → z = (frm k body).getD i 0) (h1 : y ≠ 0 → (frm k body).getD i 0 ≠ z) : ((((flt ((frm k body).set i z) : Nat) : Int) == 0) == (y == 0)) = true := by
  by_cases hy : y = 0
  · have e : (frm k body).set i z = frm k body := by
      rw [h0 hy]
      apply List.ext_getElem (by simp)
      intro j h2 h3
      rw [List.getElem_set]
      split
      · rename_i e; subst e; simp [List.getD, h3]
      · rfl
    rw [e, flt_frm hl, hy]
    rfl
  · have hs := sd_turned (sd_frm k body) (by rw [frm_len]; omega) (frm_wf hk hb (by omega)) (by rw [frm_len]; exact hi) wz (h1 hy)
    have hf : flt ((frm k body).set i z) ≠ 0 := fun h => by
      have := (flt_ok h).2.2
      rw [hs] at this
      cases this
    have e1 : (((flt ((frm k body).set i z) : Nat) : Int) == 0) = false := by simp; exact hf
    have e2 : (y == 0) = false := by simp [hy]
    rw [e1, e2]
    rfl

end Go.Proofs.Ytobogkilkmnpmaa
