/-
  What CacheStays asks: what is laid stays in the list; rows that may be stored into.
-/
import Derived.Test.YtolmejaedldeeaaReqs12
import Derived.Test.YtolmejaedldeeaaAwake12
namespace Go.Proofs.Ytolmejaedldeeaa
open Go.RowKit Go.Maps
set_option linter.unusedVariables false

theorem bytes_yesB (a a2 : Option Addr) (n cap cap2 : Nat) (xs : List Int) (w : World) (h : Elems .i8 w a n xs) (h2 : Elems .i8 w a2 n xs) :
    Calls Try.prog 15 #[.slice a n cap, .slice a2 n cap2] w fun e w' => e = .returned (.bool true) ∧ Below w.heap.size w w' :=
  (bytes_yes a a2 n cap cap2 xs w h h2).mono fun _ _ ⟨h1, d, h2⟩ => ⟨h1, h2 ▸ below_drewN (Below.refl _ _) d⟩

/-! ### lists -/
theorem putE_keeps {room : Nat} {L : List Ent} {e x : Ent} (h : x ∈ L) : x ∈ (putE room L e).2 := by
  unfold putE
  repeat' split
  all_goals first | exact h | exact List.mem_append_left _ h
theorem putE_len {room : Nat} {L : List Ent} {e : Ent} (f : Ent → Bool) : ((putE room L e).2.filter f).length ≤ (L.filter f).length + 1 := by
  unfold putE
  repeat' split
  all_goals first | exact Nat.le_succ _ | skip
  rw [List.filter_append, List.length_append]
  have := List.length_filter_le f [e]
  simp at this ⊢
  omega
theorem filter_two {L : List Ent} (f g : Ent → Bool) : ((L.filter f).filter g).length ≤ (L.filter g).length := by
  rw [List.filter_filter, show (L.filter fun a => g a && f a) = ((L.filter g).filter f) by rw [List.filter_filter]; congr 1; funext a; exact Bool.and_comm _ _]
  exact List.length_filter_le _ _
theorem keysE_mem {L : List Ent} (h : GoodE L) {x : Ent} (hx : x ∈ L) : keysE L x.r x.l x.p = x.k ∧ valsE L x.r x.l x.p = x.v ∧ hasE L x.r x.l x.p = true := by
  have hf := h.find hx
  refine ⟨?_, ?_, hasE_iff.2 ⟨x, hx, rfl, rfl, rfl⟩⟩
  · unfold keysE; rw [hf]
  · unfold valsE; rw [hf]
/-- some go -/
theorem drops_some {L : List Ent} {x : Ent} {q : Int} (hx : x ∈ L) (hq : x.r = q) : (L.filter fun y => !(y.r == q)).length + 1 ≤ L.length := by
  exact List.length_filter_lt_length_iff_exists.2 ⟨x, hx, by simp [hq]⟩

/-! ### rows that may be stored into -/
def Op8 (w : World) (a : Option Addr) (n : Nat) : Prop := 0 < n → ∃ b off cs, a = some ⟨b, off, none⟩ ∧ Box w b 39 cs ∧ ∀ i, i < n → ∃ z, cs[off + i]? = some (.int .i8 z)
theorem op8_of {w : World} {q : Rw} (h : q.In .i8 w) (ht : 0 < q.n → ThA w q.a) : Op8 w q.a q.n := fun h0 => by
  obtain ⟨b, off, ha, hc⟩ := h.1.2.2.2 h0
  obtain ⟨cs, hB⟩ := ht h0 _ ha
  refine ⟨b, off, cs, ha, hB, fun i hi => ?_⟩
  have := hc i hi
  rw [hB.cell] at this
  exact ⟨_, this⟩
theorem Op8.set {w : World} {a : Option Addr} {n : Nat} (h : Op8 w a n) (g o : Nat) (z : Int) : Op8 (w.setCell ⟨g, o, none⟩ (.int .i8 z)) a n := fun h0 => by
  obtain ⟨b, off, cs, ha, hB, hc⟩ := h h0
  by_cases e : b = g
  · subst e
    refine ⟨b, off, _, ha, hB.set o _, fun i hi => ?_⟩
    obtain ⟨y, hy⟩ := hc i hi
    rw [Array.getElem?_setIfInBounds]
    split
    · rename_i e2
      subst e2
      rw [if_pos (Array.getElem?_eq_some_iff.1 hy).1]
      exact ⟨z, rfl⟩
    · exact ⟨y, hy⟩
  · exact ⟨b, off, cs, ha, hB.other _ e, hc⟩
theorem Op8.bel {w w' : World} {a : Option Addr} {n : Nat} (h : Op8 w a n) (hb : Below w.heap.size w w') : Op8 w' a n := fun h0 => by
  obtain ⟨b, off, cs, ha, hB, hc⟩ := h h0
  exact ⟨b, off, cs, ha, hB.bel hb, hc⟩
/-- one place, as a store wants it -/
theorem Op8.at_ {w : World} {a : Option Addr} {n j : Nat} (h : Op8 w a n) (hj : j < n) : ∃ b off z, a = some ⟨b, off, none⟩ ∧ w.cell? ⟨b, off + j, none⟩ = some (.int .i8 z) ∧ w.frozen? ⟨b, off + j, none⟩ = false := by
  obtain ⟨b, off, cs, ha, hB, hc⟩ := h (by omega)
  obtain ⟨z, hz⟩ := hc j hj
  exact ⟨b, off, z, ha, by rw [hB.cell]; exact hz, hB.frozen _⟩
/-- what is no number stays where numbers are stored -/
theorem slice_set {w : World} {g o b p : Nat} {z y : Int} {a : Option Addr} {n c : Nat} (h : w.cell? ⟨b, p, none⟩ = some (.slice a n c)) (hg : w.cell? ⟨g, o, none⟩ = some (.int .i8 z)) : (w.setCell ⟨g, o, none⟩ (.int .i8 y)).cell? ⟨b, p, none⟩ = some (.slice a n c) := by
  have hne : (⟨b, p, none⟩ : Addr) ≠ ⟨g, o, none⟩ := fun e => by rw [e, hg] at h; cases h
  exact (World.cell?_setCell_other _ _ _ _ (Ne.symm hne)).trans h

/-! ### what stands while others come and go -/
structure Stay (w0 : World) (sb mb : Nat) (k v : List Int) (i : Nat) (L : List Ent) (wr : World) : Prop where
  st : StoreAt wr sb mb 50 L
  mem : (⟨3, 1, 0, k, v⟩ : Ent) ∈ L
  len : (L.filter fun x => !(x.r == 3)).length ≤ i
  bel : Below w0.heap.size w0 wr
  mb : w0.heap.size ≤ mb
section
variable {w0 wr w' : World} {sb mb i : Nat} {k v : List Int} {L : List Ent}
theorem Stay.to (h : Stay w0 sb mb k v i L wr) (hb : Below wr.heap.size wr w') : Stay w0 sb mb k v i L w' := ⟨h.st.bel hb, h.mem, h.len, h.bel.trans (hb.mono h.bel.size), h.mb⟩
theorem Stay.up (h : Stay w0 sb mb k v i L wr) : Stay w0 sb mb k v (i + 1) L wr := ⟨h.st, h.mem, Nat.le_succ_of_le h.len, h.bel, h.mb⟩
theorem Stay.put {e : Ent} (h : Stay w0 sb mb k v i L wr) (hS : StoreAt w' sb mb 50 (putE 50 L e).2) (hg : wr.grownBy w' (some mb)) : Stay w0 sb mb k v (i + 1) (putE 50 L e).2 w' :=
  ⟨hS, putE_keeps h.mem, Nat.le_trans (putE_len _) (Nat.succ_le_succ h.len), h.bel.grown hg h.bel.size (fun j hj => by cases hj; exact h.mb), h.mb⟩
theorem Stay.drop {q : Int} (h : Stay w0 sb mb k v i L wr) (hq : q ≠ 3) (hS : StoreAt w' sb mb 50 (L.filter fun x => !(x.r == q))) (hg : wr.grownBy w' (some mb)) : Stay w0 sb mb k v (i + 1) (L.filter fun x => !(x.r == q)) w' :=
  ⟨hS, List.mem_filter.2 ⟨h.mem, by simp; omega⟩, Nat.le_succ_of_le (Nat.le_trans (filter_two _ _) h.len), h.bel.grown hg h.bel.size (fun j hj => by cases hj; exact h.mb), h.mb⟩
theorem Stay.is (h : Stay w0 sb mb k v i L wr) : keysE L 3 1 0 = k ∧ valsE L 3 1 0 = v ∧ hasE L 3 1 0 = true := keysE_mem h.st.good h.mem
end
theorem stay_first {k v : List Int} (h : k.length = v.length) : putE 50 [] ⟨3, 1, 0, k, v⟩ = (0, [⟨3, 1, 0, k, v⟩]) := by
  unfold putE findE
  simp [h]

end Go.Proofs.Ytolmejaedldeeaa
