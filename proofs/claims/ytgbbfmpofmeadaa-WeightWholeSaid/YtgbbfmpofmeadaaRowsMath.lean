/-
  How many numbers of which kind weights have, in the file's order: the document's Rows, as a list; where such rows lie.
-/
import Derived.Test.YtgbbfmpofmeadaaShape
import Derived.Test.YtgbbfmpofmeadaaSame1
import Derived.Maps.AppendAt
import Derived.Laws.OwnMore
namespace Go.Proofs.Ytgbbfmpofmeadaa
open Go.RowKit
set_option linter.unusedVariables false

/-- one block's rows: gains or not, how many -/
def blk7 (s : Sz) : List (Bool × Nat) := [(true, s.w), (false, s.w * s.w), (false, s.w * s.w), (false, s.w * s.w), (false, s.w * s.w), (true, s.w), (false, s.i * s.w), (false, s.w * s.i)]
/-- the first k blocks' -/
def blks (s : Sz) (k : Nat) : List (Bool × Nat) := (List.replicate k (blk7 s)).flatten
def rowsK (s : Sz) (k : Nat) : List (Bool × Nat) := (false, s.v * s.w) :: blks s k
/-- all -/
def rowsL (s : Sz) : List (Bool × Nat) := rowsK s s.l ++ [(true, s.w), (false, s.v * s.w)]
/-- how many numbers -/
def tot (rs : List (Bool × Nat)) : Nat := (rs.map Prod.snd).sum

theorem blks_succ (s : Sz) (k : Nat) : blks s (k + 1) = blks s k ++ blk7 s := by
  unfold blks; rw [List.replicate_succ', List.flatten_append]; simp
theorem rowsK_succ (s : Sz) (k : Nat) : rowsK s (k + 1) = rowsK s k ++ blk7 s := by unfold rowsK; rw [blks_succ]; rfl
theorem blks_len (s : Sz) (k : Nat) : (blks s k).length = 8 * k := by
  induction k with
  | zero => rfl
  | succ k ih => rw [blks_succ, List.length_append, ih]; simp [blk7]; omega
theorem rowsK_len (s : Sz) (k : Nat) : (rowsK s k).length = 8 * k + 1 := by unfold rowsK; rw [List.length_cons, blks_len]
theorem rowsL_len (s : Sz) : (rowsL s).length = 8 * s.l + 3 := by unfold rowsL; rw [List.length_append, rowsK_len]; rfl
theorem tot_app (a b : List (Bool × Nat)) : tot (a ++ b) = tot a + tot b := by unfold tot; rw [List.map_append, List.sum_append]
theorem tot_blks (s : Sz) (k : Nat) : tot (blks s k) = k * (2 * s.w + 4 * (s.w * s.w) + 2 * (s.i * s.w)) := by
  induction k with
  | zero => simp [blks, tot]
  | succ k ih =>
    have e : tot (blk7 s) = 2 * s.w + 4 * (s.w * s.w) + 2 * (s.i * s.w) := by
      simp only [blk7, tot, List.map_cons, List.map_nil, List.sum_cons, List.sum_nil, Nat.mul_comm s.w s.i]
      omega
    rw [blks_succ, tot_app, ih, e]
    exact (Nat.succ_mul _ _).symm
theorem tot_rows (s : Sz) : tot (rowsL s) = cnt s := by
  unfold rowsL rowsK
  rw [tot_app]
  have e : tot ((false, s.v * s.w) :: blks s s.l) = s.v * s.w + tot (blks s s.l) := by simp [tot]
  rw [e, tot_blks]
  unfold cnt
  simp [tot]; omega
theorem tot_take_le (rs : List (Bool × Nat)) (k : Nat) : tot (rs.take k) ≤ tot rs := by
  have : tot rs = tot (rs.take k) + tot (rs.drop k) := by rw [← tot_app, List.take_append_drop]
  omega
theorem tot_step (rs : List (Bool × Nat)) (k : Nat) (hk : k < rs.length) : tot (rs.take (k + 1)) = tot (rs.take k) + (rs.getD k default).2 := by
  rw [List.take_add_one, tot_app]
  simp [tot, List.getD, List.getElem?_eq_getElem hk]
theorem tot_at (rs : List (Bool × Nat)) (k : Nat) (hk : k < rs.length) : tot (rs.take k) + (rs.getD k default).2 ≤ tot rs := by
  rw [← tot_step _ _ hk]; exact tot_take_le _ _

/-- a row's two cells -/
def rcell (r : Bool × Nat) : List Value := [.bool r.1, .int .i64 r.2]
theorem rcell_len (rs : List (Bool × Nat)) : (rs.flatMap rcell).length = rs.length * 2 := by
  induction rs with
  | nil => rfl
  | cons r rs ih => rw [List.flatMap_cons, List.length_append, ih]; simp [rcell]; omega
theorem rcell_at (rs : List (Bool × Nat)) (k : Nat) (hk : k < rs.length) : (rs.flatMap rcell)[k * 2]? = some (.bool (rs.getD k default).1) ∧ (rs.flatMap rcell)[k * 2 + 1]? = some (.int .i64 ((rs.getD k default).2 : Nat)) := by
  induction rs generalizing k with
  | nil => simp at hk
  | cons r rs ih =>
    cases k with
    | zero => simp [rcell]
    | succ k =>
      obtain ⟨h1, h2⟩ := ih k (by simpa using hk)
      have e1 : (k + 1) * 2 = k * 2 + 2 := by omega
      rw [List.flatMap_cons, e1]
      simp only [rcell, List.cons_append, List.nil_append, List.getElem?_cons_succ, List.getD_cons_succ]
      exact ⟨h1, h2⟩

/-- rows as they lie: n of them, from a on -/
def RowsAt (w : World) (a : Option Addr) (n : Nat) (rs : List (Bool × Nat)) : Prop :=
  rs.length = n ∧ ∃ b, a = some ⟨b, 0, none⟩ ∧ b < w.heap.size ∧ ∀ k, k < n → w.cell? ⟨b, k * 2, none⟩ = some (.bool (rs.getD k default).1) ∧ w.cell? ⟨b, k * 2 + 1, none⟩ = some (.int .i64 ((rs.getD k default).2 : Nat))
theorem RowsAt.below {w w' : World} {a : Option Addr} {n : Nat} {rs : List (Bool × Nat)} (h : RowsAt w a n rs) (hb : Below w.heap.size w w') : RowsAt w' a n rs := by
  obtain ⟨h1, b, rfl, hlt, h2⟩ := h
  refine ⟨h1, b, rfl, Nat.lt_of_lt_of_le hlt hb.size, fun k hk => ?_⟩
  obtain ⟨c0, c1⟩ := h2 k hk
  exact ⟨(hb.cell (p := ⟨b, _, none⟩) hlt).trans c0, (hb.cell (p := ⟨b, _, none⟩) hlt).trans c1⟩
theorem rowsAt_of_own {w : World} {base : Nat} {e : TypeId} {v : Value} {n : Nat} {rs : List (Bool × Nat)} (h : w.ownsRow base e 2 v n (rs.flatMap rcell)) (hn : 0 < n) : ∃ a cap, v = .slice a n cap ∧ RowsAt w a n rs ∧ n ≤ 9223372036854775807 := by
  have hl : rs.length = n := by have := h.1; rw [rcell_len] at this; omega
  rcases h.2 with ⟨_, h0⟩ | ⟨g, cap, cur, hv, hb, hg, hnc, hcm, hcs, ht⟩
  · omega
  · unfold maxLen at hcm
    refine ⟨_, _, hv, ⟨hl, g, rfl, (Array.getElem?_eq_some_iff.1 hg).1, fun k hk => ?_⟩, by omega⟩
    obtain ⟨e0, e1⟩ := rcell_at rs k (by omega)
    rw [← ht] at e0 e1
    rw [List.getElem?_take, if_pos (by omega), Array.getElem?_toList] at e0 e1
    rw [cell_of_row w g _ cur e (0, 0) hg, cell_of_row w g _ cur e (0, 0) hg]
    exact ⟨e0, e1⟩



end Go.Proofs.Ytgbbfmpofmeadaa
