/-
  Rows of one-cell values, of whatever types, that the call owns: an append to one; two that are grown side by side, each in memory of its own; a row of rows.
-/
import Derived.Test.YtolmejaedldeeaaAppRow
import Derived.Test.YtolmejaedldeeaaNew7
namespace Go.Proofs.Ytolmejaedldeeaa
open Go.RowKit
set_option linter.unusedVariables false

theorem run_append_val (t e : TypeId) (z : Value) (bytes : Nat) (ht : Try.prog.underlying t = some (.slice e)) (hinfo : (Try.prog.info? e).map (fun i => (i.zero, i.size, i.bytes)) = some (some z, 1, bytes)) (hz1 : z.cells.size = 1) (hby : bytes ≤ 1000)
    (w : World) (base : Nat) (v : Value) (m : Nat) (cs : List Value) (x : Value) (hx : x.oneCell' = true) (hown : w.ownsRow base e 1 v m cs) (hm : m ≤ 16777216) (hbase : base ≤ w.heap.size) :
    ∃ v' w', Sem.run Try.prog (Builtin.append_ #[t, t] t #[v, .slice (some ⟨w.heap.size, 0, none⟩) 1 1]) (w.alloc (.cells #[x] e)) = .ok v' w' ∧
      w'.ownsRow base e 1 v' (m + 1) (cs ++ [x]) ∧ w.grownBy w' v.ownBlock ∧ (v'.ownBlock = v.ownBlock ∨ v'.ownBlock = some (w.heap.size + 1)) := by
  obtain ⟨i0, hi, hj⟩ := Option.map_eq_some_iff.1 hinfo
  obtain ⟨hz0, hsz, hbb⟩ : i0.zero = some z ∧ i0.size = 1 ∧ i0.bytes = bytes := by simpa using hj
  obtain ⟨v', w', hr, h2, h3, _, h4⟩ := run_append_own_at (P := Try.prog) (w.alloc (.cells #[x] e)) base t t e i0 z 1 bytes ht hi hz0 hsz hbb hz1 (by omega) v m cs (hown.alloc _)
    ⟨w.heap.size, 0, none⟩ 1 1 [x] rfl (World.news_of_block (cs := #[x]) (t := e) (fr := (0, 0)) (heap_alloc_new w _)) (by intro u hu; simp only [List.mem_singleton] at hu; subst hu; exact hx) (by unfold maxLen; omega)
    (by have := Nat.mul_le_mul (show m + 1 ≤ 16777217 by omega) hby; omega) (by simp; omega)
  refine ⟨v', w', hr, h2, (World.grownBy_alloc w _ _).trans h3, ?_⟩
  rcases h4 with h4 | h4
  · exact .inl h4
  · exact .inr (by rw [h4]; simp)

/-- two rows, each in a block of its own -/
structure TwoV (base : Nat) (e1 e2 : TypeId) (va vb : Value) (ka kb : Nat) (ca cb : List Value) (wr : World) : Prop where
  le : base ≤ wr.heap.size
  a : wr.ownsRow base e1 1 va ka ca
  b : wr.ownsRow base e2 1 vb kb cb
  dis : ∀ g, va.ownBlock = some g → vb.ownBlock ≠ some g
theorem TwoV.symm {base : Nat} {e1 e2 : TypeId} {va vb : Value} {ka kb : Nat} {ca cb : List Value} {wr : World} (h : TwoV base e1 e2 va vb ka kb ca cb wr) : TwoV base e2 e1 vb va kb ka cb ca wr :=
  ⟨h.le, h.b, h.a, fun g h1 h2 => h.dis g h2 h1⟩
theorem TwoV.next {base : Nat} {e1 e2 : TypeId} {va vb : Value} {ka kb : Nat} {ca cb : List Value} {wr : World} (h : TwoV base e1 e2 va vb ka kb ca cb wr)
    (t : TypeId) (z : Value) (bytes : Nat) (ht : Try.prog.underlying t = some (.slice e1)) (hinfo : (Try.prog.info? e1).map (fun i => (i.zero, i.size, i.bytes)) = some (some z, 1, bytes)) (hz1 : z.cells.size = 1) (hby : bytes ≤ 1000) (hk : ka ≤ 16777216) (x : Value) (hx : x.oneCell' = true) :
    ∃ v' w', Sem.run Try.prog (Builtin.append_ #[t, t] t #[va, .slice (some ⟨wr.heap.size, 0, none⟩) 1 1]) (wr.alloc (.cells #[x] e1)) = .ok v' w' ∧
      TwoV base e1 e2 v' vb (ka + 1) kb (ca ++ [x]) cb w' ∧ ∀ w0 : World, base = w0.heap.size → Below base w0 wr → Below base w0 w' := by
  obtain ⟨v', w', hr, h2, h3, h4⟩ := run_append_val t e1 z bytes ht hinfo hz1 hby wr base va ka ca x hx h.a hk h.le
  refine ⟨v', w', hr, ⟨Nat.le_trans h.le h3.size, h2, h.b.kept h3 ?_, fun g hg hb => ?_⟩, fun w0 e hb => hb.grown h3 h.le (own_lt h.a)⟩
  · cases hv : vb.ownBlock with
    | none => exact .inl rfl
    | some g => exact .inr (fun e => h.dis g e.symm hv)
  · rcases h4 with h4 | h4
    · rw [h4] at hg; exact h.dis g hg hb
    · rw [hg] at h4
      have := (h.b.lt g hb).2
      have := Option.some.inj h4
      omega

theorem info_slice8 : (Try.prog.info? 34).map (fun i => (i.zero, i.size, i.bytes)) = some (some (.slice none 0 0), 1, 24) := by kernel_rfl

/-- the values of rows -/
def rvals (rs : List Rw) : List Value := rs.map fun q => .slice q.a q.n q.cap
/-- two literals of one value each, just laid -/
theorem twoV_start (w : World) (e1 e2 : TypeId) (x y : Value) : TwoV w.heap.size e1 e2 (.slice (some ⟨w.heap.size, 0, none⟩) 1 1) (.slice (some ⟨w.heap.size + 1, 0, none⟩) 1 1) 1 1 [x] [y] ((w.alloc (.cells #[x] e1)).alloc (.cells #[y] e2)) := by
  have ha : (w.alloc (.cells #[x] e1)).ownsRow w.heap.size e1 1 (.slice (some ⟨w.heap.size, 0, none⟩) 1 1) 1 [x] := World.ownsRow_lit (e := e1) (size := 1) w #[x] 1 (Nat.le_refl _) (by unfold maxLen; omega) rfl
  have hb : ((w.alloc (.cells #[x] e1)).alloc (.cells #[y] e2)).ownsRow w.heap.size e2 1 (.slice (some ⟨(w.alloc (.cells #[x] e1)).heap.size, 0, none⟩) 1 1) 1 [y] := World.ownsRow_lit (e := e2) (size := 1) (w.alloc (.cells #[x] e1)) #[y] 1 (by simp) (by unfold maxLen; omega) rfl
  refine ⟨by simp; omega, ha.alloc _, by simpa using hb, fun g h1 h2 => ?_⟩
  simp [Value.ownBlock] at h1 h2
  omega
/-- a row of rows that the call owns, as rows -/
theorem rws_own {w : World} {base n : Nat} {v : Value} {rs : List Rw} (h : w.ownsRow base 34 1 v n (rvals rs)) (hn : n ≤ 16777216) (hr : ∀ q ∈ rs, q.In .i8 w) (h0 : 0 < n) :
    ∃ g cap, v = .slice (some ⟨g, 0, none⟩) n cap ∧ Rws .i8 w (some ⟨g, 0, none⟩) n rs := by
  have hl : rs.length = n := by have := h.1; simpa [rvals] using this
  rcases h.2 with ⟨_, h1⟩ | ⟨g, cap, cur, hv, hb, hg, hnc, hcm, hcs, ht⟩
  · omega
  · refine ⟨g, cap, hv, hl, by omega, hr, fun _ => ⟨g, 0, rfl, fun i hi => ?_⟩⟩
    subst hv
    rw [Nat.zero_add, h.cellAt i (by omega)]
    simp [rvals, List.getD, List.getElem?_eq_getElem (show i < rs.length by omega)]

/-- .. and where the row lies behind it -/
theorem TwoV.next2 {base : Nat} {e1 e2 : TypeId} {va vb : Value} {ka kb : Nat} {ca cb : List Value} {wr : World} (h : TwoV base e1 e2 va vb ka kb ca cb wr)
    (t : TypeId) (z : Value) (bytes : Nat) (ht : Try.prog.underlying t = some (.slice e1)) (hinfo : (Try.prog.info? e1).map (fun i => (i.zero, i.size, i.bytes)) = some (some z, 1, bytes)) (hz1 : z.cells.size = 1) (hby : bytes ≤ 1000) (hk : ka ≤ 16777216) (x : Value) (hx : x.oneCell' = true) :
    ∃ g cap w', Sem.run Try.prog (Builtin.append_ #[t, t] t #[va, .slice (some ⟨wr.heap.size, 0, none⟩) 1 1]) (wr.alloc (.cells #[x] e1)) = .ok (.slice (some ⟨g, 0, none⟩) (ka + 1) cap) w' ∧
      TwoV base e1 e2 (.slice (some ⟨g, 0, none⟩) (ka + 1) cap) vb (ka + 1) kb (ca ++ [x]) cb w' ∧ wr.grownBy w' va.ownBlock ∧ (va.ownBlock = some g ∨ g = wr.heap.size + 1) := by
  obtain ⟨v', w', hr, h2, h3, h4⟩ := run_append_val t e1 z bytes ht hinfo hz1 hby wr base va ka ca x hx h.a hk h.le
  have hv : ∃ g cap, v' = .slice (some ⟨g, 0, none⟩) (ka + 1) cap := by
    rcases h2.2 with ⟨_, e⟩ | ⟨g, cap, cur, e, _⟩
    · omega
    · exact ⟨g, cap, e⟩
  obtain ⟨g, cap, rfl⟩ := hv
  refine ⟨g, cap, w', hr, ⟨Nat.le_trans h.le h3.size, h2, h.b.kept h3 ?_, fun g hg hb => ?_⟩, h3, ?_⟩
  · cases hv : vb.ownBlock with
    | none => exact .inl rfl
    | some g => exact .inr (fun e => h.dis g e.symm hv)
  · rcases h4 with h4 | h4
    · rw [h4] at hg; exact h.dis g hg hb
    · rw [hg] at h4
      have := (h.b.lt g hb).2
      have := Option.some.inj h4
      omega
  · rcases h4 with h4 | h4
    · exact .inl h4.symm
    · exact .inr (Option.some.inj h4)
/-- rows of rows behind what leaves their blocks alone -/
theorem TwoV.kept {base : Nat} {e1 e2 : TypeId} {va vb : Value} {ka kb : Nat} {ca cb : List Value} {wr w' : World} (h : TwoV base e1 e2 va vb ka kb ca cb wr) {g : Nat} (hg : wr.grownBy w' (some g)) (hlt : g < base) : TwoV base e1 e2 va vb ka kb ca cb w' :=
  ⟨Nat.le_trans h.le hg.size, own_grown h.a hg hlt, own_grown h.b hg hlt, h.dis⟩
theorem TwoV.bel {base : Nat} {e1 e2 : TypeId} {va vb : Value} {ka kb : Nat} {ca cb : List Value} {wr w' : World} (h : TwoV base e1 e2 va vb ka kb ca cb wr) (hb : Below wr.heap.size wr w') : TwoV base e1 e2 va vb ka kb ca cb w' :=
  ⟨Nat.le_trans h.le hb.size, own_below h.a hb, own_below h.b hb, h.dis⟩
/-- a row of rows that the call owns, as rows, of none too -/
theorem rws_of {w : World} {base n : Nat} {a : Option Addr} {c : Nat} {rs : List Rw} (h : w.ownsRow base 34 1 (.slice a n c) n (rvals rs)) (hn : n ≤ 16777216) (hr : ∀ q ∈ rs, q.In .i8 w) : Rws .i8 w a n rs := by
  by_cases h0 : 0 < n
  · obtain ⟨g, cap, e, hR⟩ := rws_own h hn hr h0
    cases e
    exact hR
  · obtain rfl : n = 0 := by omega
    have hl : rs.length = 0 := by have := h.1; simpa [rvals] using this
    obtain rfl := List.eq_nil_of_length_eq_zero hl
    exact Rws.nil_ _ _ _

end Go.Proofs.Ytolmejaedldeeaa
