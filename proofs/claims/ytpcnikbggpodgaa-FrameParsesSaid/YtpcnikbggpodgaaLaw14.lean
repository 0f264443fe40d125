/-
  What stage 14's laws lean on: a copy of the bytes handed in; a frame as a row.
-/
import Derived.Test.YtpcnikbggpodgaaAwake14
import Derived.Test.YtpcnikbggpodgaaLitCopy
import Derived.Test.YtpcnikbggpodgaaRwRow
namespace Go.Proofs.Ytpcnikbggpodgaa
open Go.RowKit
set_option linter.unusedVariables false

/-- append([]byte{}, q...) at an empty literal just laid -/
theorem copy14 (W : World) (q : Rw) (hq : q.In .u8 W) (hn : q.n ≤ 65536) :
    ∃ (g : Rw) (w' : World), Sem.run Try.prog (Builtin.append_ #[22, 22] 22 #[.slice (some ⟨W.heap.size, 0, none⟩) 0 0, .slice q.a q.n q.cap]) (W.alloc (.cells #[] 5)) = .ok (.slice g.a g.n g.cap) w' ∧ g.In .u8 w' ∧ g.v = q.v ∧ g.n = q.n ∧ Below W.heap.size W w' := by
  have hb : Below W.heap.size W (W.alloc (.cells #[] 5)) := (Below.refl _ _).alloc (Nat.le_refl _) _
  obtain ⟨g, w', hr, h1, h2, h3, _, h5, _⟩ := run_lit_copy (P := Try.prog) .u8 (W.alloc (.cells #[] 5)) 22 5 1 (by omega) Try.underlying22 info_u8 W.heap.size (box_new W _ _) q (hq.below hb) hn
  exact ⟨g, w', hr, h1, h2, h3, below_two hb h5⟩
/-- a frame that the call owns, as a row -/
theorem frm_row {w : World} {base : Nat} {v : Value} {k : Int} {body : List Int} (hk : (Lit.int .u8 k).wf = true) (hb : ∀ x ∈ body, (Lit.int .u8 x).wf = true) (hl : body.length ≤ 1048576) {n : Nat} (hn : n = body.length) (h : w.ownsRow base 5 1 v (n + 12) ((frm k body).map (.int .u8))) :
    ∃ b cap, v = .slice (some ⟨b, 0, none⟩) (n + 12) cap ∧ Rw.In .u8 w ⟨some ⟨b, 0, none⟩, n + 12, cap, frm k body⟩ ∧ base ≤ b ∧ b < w.heap.size := by
  obtain ⟨q, rfl, hqn, hqv, hqi, hqa⟩ := own_row8 h (frm_wf hk hb (by omega)) (by omega)
  obtain ⟨a, m, cap, xs⟩ := q
  simp only at hqn hqv hqa hqi
  subst hqn hqv
  obtain ⟨b, rfl, h1, h2⟩ := hqa (by omega)
  exact ⟨b, cap, rfl, hqi, h1, h2⟩

end Go.Proofs.Ytpcnikbggpodgaa
