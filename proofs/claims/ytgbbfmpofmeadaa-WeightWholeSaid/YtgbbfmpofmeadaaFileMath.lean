/-
  The file of weights as a list of bytes; rows of bytes that grow out of a converted literal.
-/
import Derived.Test.YtgbbfmpofmeadaaCrc
import Derived.Test.YtgbbfmpofmeadaaShape
import Derived.Test.YtgbbfmpofmeadaaAppRow
import Derived.Test.YtgbbfmpofmeadaaNew7
import Derived.ArgAppend
namespace Go.Proofs.Ytgbbfmpofmeadaa
open Go.RowKit
set_option linter.unusedVariables false

def sixL (s : Sz) : List Nat := [s.l, s.w, s.h, s.i, s.v, s.p]
/-- a number in two bytes, the greater one first -/
def be2 (n : Nat) : List Int := [((n / 256 : Nat) : Int), ((n % 256 : Nat) : Int)]
def magicL : List Int := [80, 69, 76, 79, 84, 79, 78, 49]
/-- the first bytes, k of the shape's numbers being laid -/
def headL (s : Sz) (k : Nat) : List Int := magicL ++ ((sixL s).take k).flatMap be2
/-- a number of 8 bits as a byte -/
def u8 (x : Int) : Int := x % 256
def bodyL (s : Sz) (l : List Int) : List Int := headL s 6 ++ l.map u8
def be4 (c : Nat) : List Int := [((c / 16777216 : Nat) : Int), ((c / 65536 % 256 : Nat) : Int), ((c / 256 % 256 : Nat) : Int), ((c % 256 : Nat) : Int)]
def fileL (s : Sz) (l : List Int) : List Int := bodyL s l ++ be4 (csum (bodyL s l))
theorem headL_len (s : Sz) (k : Nat) (hk : k ≤ 6) : (headL s k).length = 8 + 2 * k := by
  have : k = 0 ∨ k = 1 ∨ k = 2 ∨ k = 3 ∨ k = 4 ∨ k = 5 ∨ k = 6 := by omega
  rcases this with rfl | rfl | rfl | rfl | rfl | rfl | rfl <;> rfl
theorem headL_succ (s : Sz) (k : Nat) (hk : k < 6) : headL s (k + 1) = headL s k ++ be2 ((sixL s).getD k 0) := by
  have : k = 0 ∨ k = 1 ∨ k = 2 ∨ k = 3 ∨ k = 4 ∨ k = 5 := by omega
  rcases this with rfl | rfl | rfl | rfl | rfl | rfl <;> rfl
theorem sixL_le (s : Sz) (ok : s.Ok) (k : Nat) (hk : k < 6) : (sixL s).getD k 0 ≤ 512 := by
  obtain ⟨hl, hh, hw, hi, hv, hp⟩ := ok.bd
  have : k = 0 ∨ k = 1 ∨ k = 2 ∨ k = 3 ∨ k = 4 ∨ k = 5 := by omega
  rcases this with rfl | rfl | rfl | rfl | rfl | rfl <;> simp [sixL] <;> omega
theorem byte_wf (x : Int) (h0 : 0 ≤ x) (h1 : x ≤ 255) : (Lit.int .u8 x).wf = true := by
  simp [Lit.wf, IntKind.min, IntKind.max, IntKind.signed, IntKind.bits]; omega
theorem headL_wf (s : Sz) (ok : s.Ok) (k : Nat) (hk : k ≤ 6) : ∀ x ∈ headL s k, (Lit.int .u8 x).wf = true := by
  induction k with
  | zero => intro x hx; simp [headL, magicL] at hx; rcases hx with rfl | rfl | rfl | rfl | rfl | rfl | rfl | rfl <;> rfl
  | succ k ih =>
    intro x hx
    rw [headL_succ s k (by omega)] at hx
    rcases List.mem_append.1 hx with h | h
    · exact ih (by omega) x h
    · have := sixL_le s ok k (by omega)
      simp only [be2, List.mem_cons, List.not_mem_nil, or_false] at h
      rcases h with rfl | rfl <;> exact byte_wf _ (by omega) (by omega)
theorem u8_wf (x : Int) : (Lit.int .u8 (u8 x)).wf = true := byte_wf _ (by unfold u8; omega) (by unfold u8; omega)
theorem bodyL_len (s : Sz) (l : List Int) : (bodyL s l).length = 20 + l.length := by unfold bodyL; rw [List.length_append, headL_len s 6 (by omega)]; simp
theorem fileL_len (s : Sz) (l : List Int) : (fileL s l).length = 24 + l.length := by unfold fileL; rw [List.length_append, bodyL_len]; simp [be4]; omega
theorem bodyL_wf (s : Sz) (ok : s.Ok) (l : List Int) : ∀ x ∈ bodyL s l, (Lit.int .u8 x).wf = true := by
  intro x hx
  rcases List.mem_append.1 hx with h | h
  · exact headL_wf s ok 6 (by omega) x h
  · obtain ⟨y, _, rfl⟩ := List.mem_map.1 h; exact u8_wf y
theorem be4_wf (c : Nat) (hc : c < 4294967296) : ∀ x ∈ be4 c, (Lit.int .u8 x).wf = true := by
  intro x hx
  simp only [be4, List.mem_cons, List.not_mem_nil, or_false] at hx
  rcases hx with rfl | rfl | rfl | rfl <;> exact byte_wf _ (by omega) (by omega)
theorem fileL_wf (s : Sz) (ok : s.Ok) (l : List Int) : ∀ x ∈ fileL s l, (Lit.int .u8 x).wf = true := by
  intro x hx
  rcases List.mem_append.1 hx with h | h
  · exact bodyL_wf s ok l x h
  · exact be4_wf _ (csum_lt _) x h

/-- a row of bytes that may be appended to: one of the call's own, or one that is full -/
def RowB (w : World) (base : Nat) (v : Value) (n : Nat) (xs : List Int) : Prop :=
  w.ownsRow base 5 1 v n (xs.map (.int .u8)) ∨ ∃ g, v = .slice (some ⟨g, 0, none⟩) n n ∧ Elems .u8 w (some ⟨g, 0, none⟩) n xs
/-- bytes of a literal behind it -/
theorem run_append_rowB (w : World) (base : Nat) (v : Value) (n m : Nat) (xs ys : List Int) (cs : Array Value) (hcs : cs = (ys.map (Value.int .u8)).toArray) (hm : ys.length = m) (hm0 : 0 < m) (h : RowB w base v n xs) (hn : n ≤ 16777216) (hm2 : m ≤ 100) (hbase : base ≤ w.heap.size) :
    ∃ v' w', Sem.run Try.prog (Builtin.append_ #[41, 41] 41 #[v, .slice (some ⟨w.heap.size, 0, none⟩) m m]) (w.alloc (.cells cs 5)).drew = .ok v' w' ∧ w'.ownsRow base 5 1 v' (n + m) ((xs ++ ys).map (.int .u8)) ∧ Below base w w' := by
  subst hcs
  obtain ⟨i0, hi, hz0, hz1, hz2⟩ := info_u8
  have hnews := World.news_of_block (w := (w.alloc (.cells (ys.map (Value.int .u8)).toArray 5)).drew) (cs := (ys.map (Value.int .u8)).toArray) (t := 5) (fr := (0, 0)) (heap_alloc_new w (.cells (ys.map (Value.int .u8)).toArray 5))
  have hB : Below base w (w.alloc (.cells (ys.map (Value.int .u8)).toArray 5)).drew := ((Below.refl base w).alloc hbase _).drew
  rcases h with h | ⟨g, rfl, hE⟩
  · have hown : (w.alloc (.cells (ys.map (Value.int .u8)).toArray 5)).drew.ownsRow base 5 1 v n (xs.map (.int .u8)) := h.alloc _
    obtain ⟨v', w', hr, h2, h3, _⟩ := run_append_own_at (P := Try.prog) (w.alloc (.cells (ys.map (Value.int .u8)).toArray 5)).drew base 41 41 5 i0 _ 1 1 Try.underlying41 hi hz0 hz1 hz2 rfl (by omega) v n _ hown
      ⟨w.heap.size, 0, none⟩ m m (ys.map (.int .u8)) (by rw [List.length_map, hm, Nat.mul_one]) hnews (ints_one ys) (by unfold maxLen; omega) (by omega) (by simp [World.drew]; omega)
    exact ⟨v', w', hr, by rw [List.map_append]; exact h2, hB.grown h3 (by simp [World.drew]; omega) (fun k hk => (h.lt k hk).1)⟩
  · have hE2 : Elems .u8 (w.alloc (.cells (ys.map (Value.int .u8)).toArray 5)).drew (some ⟨g, 0, none⟩) n xs := hE.below (((Below.refl _ _).alloc (Nat.le_refl _) _).drew)
    obtain ⟨v', w', hr, h2, h3⟩ := run_append_arg_grows (P := Try.prog) (w.alloc (.cells (ys.map (Value.int .u8)).toArray 5)).drew 41 41 5 i0 _ 1 1 Try.underlying41 hi hz0 hz1 hz2 rfl (by omega)
      ⟨g, 0, none⟩ n n (xs.map (.int .u8)) (by rw [List.length_map, hE.1, Nat.mul_one]) hE2.news ⟨w.heap.size, 0, none⟩ m m (ys.map (.int .u8)) (by rw [List.length_map, hm, Nat.mul_one]) hnews (by omega) (by unfold maxLen; omega) (by omega)
    refine ⟨v', w', hr, ?_, hB.grown h3 (by simp [World.drew]; omega) (fun k hk => by cases hk)⟩
    rw [List.map_append]
    exact Go.Joins.ownsRow_le h2 (by simp [World.drew]; omega)

/-- bytes of a literal behind it -/
theorem run_append_rowB' (w : World) (base : Nat) (v : Value) (n m : Nat) (xs ys : List Int) (cs : Array Value) (hcs : cs = (ys.map (Value.int .u8)).toArray) (hm : ys.length = m) (hm0 : 0 < m) (h : RowB w base v n xs) (hn : n ≤ 16777216) (hm2 : m ≤ 100) (hbase : base ≤ w.heap.size) :
    ∃ v' w', Sem.run Try.prog (Builtin.append_ #[41, 41] 41 #[v, .slice (some ⟨w.heap.size, 0, none⟩) m m]) (w.alloc (.cells cs 5)) = .ok v' w' ∧ w'.ownsRow base 5 1 v' (n + m) ((xs ++ ys).map (.int .u8)) ∧ Below base w w' := by
  subst hcs
  obtain ⟨i0, hi, hz0, hz1, hz2⟩ := info_u8
  have hnews := World.news_of_block (w := (w.alloc (.cells (ys.map (Value.int .u8)).toArray 5))) (cs := (ys.map (Value.int .u8)).toArray) (t := 5) (fr := (0, 0)) (heap_alloc_new w (.cells (ys.map (Value.int .u8)).toArray 5))
  have hB : Below base w (w.alloc (.cells (ys.map (Value.int .u8)).toArray 5)) := (Below.refl base w).alloc hbase _
  rcases h with h | ⟨g, rfl, hE⟩
  · have hown : (w.alloc (.cells (ys.map (Value.int .u8)).toArray 5)).ownsRow base 5 1 v n (xs.map (.int .u8)) := h.alloc _
    obtain ⟨v', w', hr, h2, h3, _⟩ := run_append_own_at (P := Try.prog) (w.alloc (.cells (ys.map (Value.int .u8)).toArray 5)) base 41 41 5 i0 _ 1 1 Try.underlying41 hi hz0 hz1 hz2 rfl (by omega) v n _ hown
      ⟨w.heap.size, 0, none⟩ m m (ys.map (.int .u8)) (by rw [List.length_map, hm, Nat.mul_one]) hnews (ints_one ys) (by unfold maxLen; omega) (by omega) (by simp; omega)
    exact ⟨v', w', hr, by rw [List.map_append]; exact h2, hB.grown h3 (by simp; omega) (fun k hk => (h.lt k hk).1)⟩
  · have hE2 : Elems .u8 (w.alloc (.cells (ys.map (Value.int .u8)).toArray 5)) (some ⟨g, 0, none⟩) n xs := hE.below ((Below.refl _ _).alloc (Nat.le_refl _) _)
    obtain ⟨v', w', hr, h2, h3⟩ := run_append_arg_grows (P := Try.prog) (w.alloc (.cells (ys.map (Value.int .u8)).toArray 5)) 41 41 5 i0 _ 1 1 Try.underlying41 hi hz0 hz1 hz2 rfl (by omega)
      ⟨g, 0, none⟩ n n (xs.map (.int .u8)) (by rw [List.length_map, hE.1, Nat.mul_one]) hE2.news ⟨w.heap.size, 0, none⟩ m m (ys.map (.int .u8)) (by rw [List.length_map, hm, Nat.mul_one]) hnews (by omega) (by unfold maxLen; omega) (by omega)
    refine ⟨v', w', hr, ?_, hB.grown h3 (by simp; omega) (fun k hk => by cases hk)⟩
    rw [List.map_append]
    exact Go.Joins.ownsRow_le h2 (by simp; omega)

theorem RowB.form {w : World} {base : Nat} {v : Value} {n : Nat} {xs : List Int} (h : RowB w base v n xs) : ∃ a c, v = .slice a n c := by
  rcases h with h | ⟨g, rfl, _⟩
  · rcases h.2 with ⟨h1, h2⟩ | ⟨g, c, _, h1, _⟩
    · exact ⟨_, _, by rw [h1, h2]⟩
    · exact ⟨_, _, h1⟩
  · exact ⟨_, _, rfl⟩

end Go.Proofs.Ytgbbfmpofmeadaa
