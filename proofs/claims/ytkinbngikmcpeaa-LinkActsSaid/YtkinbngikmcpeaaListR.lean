/-
  A list of rows of numbers that the call owns ('append(rows, row)'): the rows stand while the list grows.
-/
import Derived.Test.YtkinbngikmcpeaaAllC
import Derived.Test.YtkinbngikmcpeaaOwnCut
namespace Go.Proofs.Ytkinbngikmcpeaa
open Go.RowKit
set_option linter.unusedVariables false

/-- no number of kind kd -/
def NoK (kd : IntKind) (u : Value) : Prop := ∀ z, u ≠ .int kd z
theorem noK_slice (kd : IntKind) (a : Option Addr) (n c : Nat) : NoK kd (.slice a n c) := fun y e => by cases e
/-- rows of numbers stand where a block without any turns -/
theorem rw_noK {kd : IntKind} {w w' : World} {q : Rw} {X : TypeId} {g : Nat} (h : q.In kd w) (hA : AllC (NoK kd) w X g) (hg : w.grownBy w' (some g)) : q.In kd w' :=
  ⟨⟨h.1.1, h.1.2.1, h.1.2.2.1, fun hn => let ⟨b, off, ha, hc⟩ := h.1.2.2.2 hn; ⟨b, off, ha, fun i hi => by
    have h0 := hc i hi
    rw [World.cell?_of_block (w := w) (a := ⟨b, off + i, none⟩) (hg.block b (World.block_lt_of_cell? _ _ h0) (fun e => hA.ne h0 (fun k => k _ rfl) (Option.some.inj e)))]
    exact h0⟩⟩, h.2⟩
/-- the values of rows -/
def rowV (qs : List Rw) : List Value := qs.map fun q => .slice q.a q.n q.cap
theorem rowV_len (qs : List Rw) : (rowV qs).length = qs.length := by simp [rowV]
theorem rowV_at (qs : List Rw) {i : Nat} (hi : i < qs.length) : (rowV qs)[i]? = some (.slice (qs.getD i default).a (qs.getD i default).n (qs.getD i default).cap) := by
  simp [rowV, List.getD, hi]

/-- a list of rows that the call owns -/
structure ListR (kd : IntKind) (T : TypeId) (w : World) (base : Nat) (v : Value) (n : Nat) (qs : List Rw) : Prop where
  own : w.ownsRow base T 1 v n (rowV qs)
  all : ∀ g, v.ownBlock = some g → AllC (NoK kd) w T g
  rows : ∀ q ∈ qs, q.In kd w
section
variable {kd : IntKind} {T : TypeId} {w w' : World} {base n : Nat} {v : Value} {qs : List Rw}
theorem listR_nil (kd : IntKind) (T : TypeId) (w : World) (base : Nat) : ListR kd T w base (.slice none 0 0) 0 [] := ⟨⟨by simp [rowV], .inl ⟨rfl, rfl⟩⟩, fun g h => by simp [Value.ownBlock] at h, by simp⟩
theorem ListR.len (h : ListR kd T w base v n qs) : qs.length = n := by have := h.own.1; rw [rowV_len] at this; omega
theorem ListR.bel (h : ListR kd T w base v n qs) (hb : Below w.heap.size w w') : ListR kd T w' base v n qs := by
  refine ⟨⟨h.own.1, ?_⟩, fun g hg => (h.all g hg).bel hb, fun q hq => (h.rows q hq).below hb⟩
  rcases h.own.2 with hn | ⟨g, cap, cur, rfl, hb2, hg, rest⟩
  · exact .inl hn
  · exact .inr ⟨g, cap, cur, rfl, hb2, (hb.block g (Array.getElem?_eq_some_iff.1 hg).1).trans hg, rest⟩
theorem ListR.shape (h : ListR kd T w base v n qs) : ∃ a c, v = .slice a n c ∧ n ≤ c ∧ c ≤ 9223372036854775807 ∧ (a = none → c = 0) := by
  rcases h.own.2 with ⟨h1, h2⟩ | ⟨g, cap, cur, h1, _, _, h3, h4, _⟩
  · exact ⟨none, 0, by rw [h1, h2], by omega, by omega, fun _ => rfl⟩
  · exact ⟨_, _, h1, h3, by unfold maxLen at h4; omega, fun e => by cases e⟩
/-- one of them -/
theorem ListR.at_ (h : ListR kd T w base v n qs) {i : Nat} (hi : i < n) : ∃ g c q, v = .slice (some ⟨g, 0, none⟩) n c ∧ n ≤ c ∧ c ≤ 9223372036854775807 ∧ qs.getD i default = q ∧ w.cell? ⟨g, i, none⟩ = some (.slice q.a q.n q.cap) ∧ q.In kd w := by
  have hl := h.len
  rcases h.own.2 with ⟨h1, h2⟩ | ⟨g, cap, cur, rfl, hb, hg, hn, hc, hs, ht⟩
  · omega
  · refine ⟨g, cap, _, rfl, hn, by unfold maxLen at hc; omega, rfl, ?_, h.rows _ ?_⟩
    · rw [cell_of_row w g i cur T (0, 0) hg, ← rowV_at qs (by omega), ← ht, List.getElem?_take_of_lt (by omega), Array.getElem?_toList]
    · rw [List.getD_eq_getElem?_getD, List.getElem?_eq_getElem (by omega)]
      exact List.getElem_mem _
theorem ListR.rws (h : ListR kd T w base v n qs) (hn : n ≤ 9223372036854775807) : ∃ a c, v = .slice a n c ∧ Rws kd w a n qs := by
  have hl := h.len
  obtain ⟨a, c, rfl, _⟩ := h.shape
  refine ⟨a, c, rfl, hl, hn, h.rows, fun h0 => ?_⟩
  obtain ⟨g, c2, q, hv, _⟩ := h.at_ h0
  cases hv
  refine ⟨g, 0, rfl, fun i hi => ?_⟩
  obtain ⟨g2, c3, q2, hv, _, _, hq, hc, _⟩ := h.at_ hi
  cases hv
  rw [Nat.zero_add, hq]
  exact hc
/-- a row more -/
theorem ListR.next {P : Program} {TT : TypeId} (ht : P.underlying TT = some (.slice T)) (hinfo : (P.info? T).map (fun i => (i.zero, i.size, i.bytes)) = some (some (.slice none 0 0), 1, 24))
    (h : ListR kd T w base v n qs) (q : Rw) (hq : q.In kd w) (hn : n ≤ 1000000) (hbase : base ≤ w.heap.size) :
    ∃ g cap w', Sem.run P (Builtin.append_ #[TT, TT] TT #[v, .slice (some ⟨w.heap.size, 0, none⟩) 1 1]) (w.alloc (.cells #[.slice q.a q.n q.cap] T)) = .ok (.slice (some ⟨g, 0, none⟩) (n + 1) cap) w' ∧
      ListR kd T w' base (.slice (some ⟨g, 0, none⟩) (n + 1) cap) (n + 1) (qs ++ [q]) ∧ (∀ w0 : World, Below base w0 w → Below base w0 w') ∧ (∀ r : Rw, r.In kd w → r.In kd w') ∧ w.grownBy w' v.ownBlock := by
  obtain ⟨g, cap, w', hr, ho, hA, hg, _, _, _⟩ := append_c (P := P) (ok := NoK kd) w base TT T (.slice none 0 0) 1 24 ht hinfo rfl (by omega) (by omega) (by omega)
    (by intro u hu; have : u = .slice none 0 0 := by simpa [Value.cells] using hu
        subst this; exact noK_slice kd _ _ _) v n (rowV qs) [.slice q.a q.n q.cap] h.own h.all (by omega) rfl
    (by intro u hu; simp only [List.mem_singleton] at hu; subst hu; exact noK_slice kd _ _ _) (by intro u hu; simp only [List.mem_singleton] at hu; subst hu; rfl) hbase
  have hst : ∀ r : Rw, r.In kd w → r.In kd w' := fun r hr => by
    cases hb : v.ownBlock with
    | none =>
      rw [hb] at hg
      exact hr.below ((Below.refl _ _).grown hg (Nat.le_refl _) (fun k hk => by cases hk))
    | some b =>
      rw [hb] at hg
      exact rw_noK hr (h.all b hb) hg
  refine ⟨g, cap, w', hr, ⟨by simpa [rowV] using ho, fun k hk => ?_, fun r hr => ?_⟩, fun w0 hb => hb.grown hg hbase (fun k hk => (h.own.lt k hk).1), hst, hg⟩
  · simp only [Value.ownBlock, Option.some.injEq] at hk
    subst hk
    exact hA
  · rcases List.mem_append.1 hr with h1 | h1
    · exact hst r (h.rows r h1)
    · simp only [List.mem_singleton] at h1
      subst h1
      exact hst _ hq
end

end Go.Proofs.Ytkinbngikmcpeaa
