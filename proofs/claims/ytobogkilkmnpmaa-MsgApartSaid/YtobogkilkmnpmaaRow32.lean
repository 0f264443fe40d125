/-
  Rows of numbers of 32 bits: copies (slices.Clone), are two alike (slices.Equal).
-/
import Derived.Test.YtobogkilkmnpmaaClone8
import Derived.Test.YtobogkilkmnpmaaEqual8
namespace Go.Proofs.Ytobogkilkmnpmaa
open Go.RowKit
set_option linter.unusedVariables false

theorem info_i32 : ∃ i, Try.prog.info? 21 = some i ∧ i.zero = some (.int .i32 0) ∧ i.size = 1 ∧ i.bytes = 4 := by
  have h := info_int32
  cases hh : Try.prog.info? 21 with
  | none => rw [hh] at h; cases h
  | some i => rw [hh] at h; simp only [Option.map_some, Option.some.injEq, Prod.mk.injEq] at h; exact ⟨i, rfl, h.1, h.2.1, h.2.2⟩

set_option maxRecDepth 100000 in
theorem clone32T (q : Rw) (w : World) (h : q.In .i32 w) (hn : q.n ≤ 65536) :
    Calls Try.prog 19 #[.slice q.a q.n q.cap] w fun e w' => CopyR .i32 q w e w' ∧ ∀ g : Rw, e = .returned (.slice g.a g.n g.cap) → ThT 21 w' g.a := by
  have q22 : ∀ (w : World) (a : Option Addr) (n c n' c' : Nat), (binOp .eql 22 (.slice a n c) (.slice none n' c')).run Try.prog w = .ok (.bool a.isNone) w := fun w a n c n' c' => Lib.run_eql_slice_nil w _ _ a n c n' c' Try.underlying22
  obtain ⟨a, n, cap, v⟩ := q
  obtain ⟨hE, h1, h2, h3⟩ := h
  simp only at hE h1 h2 h3 hn ⊢
  cases a with
  | none =>
    obtain rfl := h3.1 rfl
    obtain rfl : n = 0 := by omega
    obtain rfl : v = [] := List.eq_nil_of_length_eq_zero hE.1
    clear hE
    go_enter Try.func19, Try.ntmps19
    go_wp2
    go_ret
    exact ⟨⟨⟨⟨none, 0, 0, []⟩, rfl, ⟨Elems.nil_ _ _ _, Nat.le_refl _, by omega, ⟨(fun _ => rfl), (fun x hx => by cases hx)⟩⟩, rfl, rfl, fun x hx => by cases hx⟩, Below.refl _ _⟩, fun g hg x hx => by
      have e : Ending.returned (Value.slice none 0 0) = .returned (.slice g.a g.n g.cap) := hg
      simp only [Ending.returned.injEq, Value.slice.injEq] at e
      rw [← e.1] at hx
      cases hx⟩
  | some ad =>
    have hown : (w.alloc (.cells #[] 21)).ownsRow w.heap.size 21 1 (.slice (some ⟨w.heap.size, 0, none⟩) 0 0) 0 (([] : List Int).map (.int .i32)) :=
      World.ownsRow_lit (e := 21) (size := 1) w #[] 0 (Nat.le_refl _) (by unfold maxLen; omega) rfl
    have hB : Below w.heap.size w (w.alloc (.cells #[] 21)) := (Below.refl _ _).alloc (Nat.le_refl _) _
    obtain ⟨v', w', hr, ho, hg, _⟩ := run_append_elems (P := Try.prog) .i32 (w.alloc (.cells #[] 21)) w.heap.size 22 21 4 (by omega) Try.underlying22 info_i32 _ 0 [] hown (some ad) n cap v (hE.below hB) h3.1 (by omega) (by omega) hB.size
    have hb2 : Below w.heap.size w w' := hB.grown hg hB.size (fun k hk => (hown.lt k hk).1)
    have hth : ∀ (g : Rw), v' = .slice g.a g.n g.cap → ThT 21 w' g.a := fun g e => thA_own ho e
    obtain ⟨g, rfl, hgi, hgv, hgn, hgb⟩ := own_rw ho (by simpa using hE.2.2.1) (by omega)
    have HH : Hid (CopyR .i32 ⟨some ad, n, cap, v⟩ w (.returned (.slice g.a g.n g.cap)) w' ∧ ∀ h : Rw, Ending.returned (.slice g.a g.n g.cap) = .returned (.slice h.a h.n h.cap) → ThT 21 w' h.a) := Lib.hid ⟨⟨⟨g, rfl, hgi, by simpa using hgv, by simpa using hgn, hgb⟩, hb2⟩, fun h e => hth h (by simpa using e)⟩
    clear hth
    clear hE hown hB ho hg hb2 hgi hgv hgn hgb
    go_enter Try.func19, Try.ntmps19
    go_wp2_with (at_builtin; refine wpList_append_run (by rfl) _ _ _ (by rfl) _ _ (by rfl) (by rfl) hr ?_)
    go_ret
    exact HH.out
theorem clone32 (q : Rw) (w : World) (h : q.In .i32 w) (hn : q.n ≤ 65536) :
    Calls Try.prog 19 #[.slice q.a q.n q.cap] w fun e w' => CopyR .i32 q w e w' := (clone32T q w h hn).mono fun _ _ h => h.1

set_option maxHeartbeats 800000 in
set_option maxRecDepth 100000 in
theorem equal32 (a b : Option Addr) (n m cap cap' : Nat) (xs ys : List Int) (w : World) (hX : Elems .i32 w a n xs) (hY : Elems .i32 w b m ys) :
    Calls Try.prog 28 #[.slice a n cap, .slice b m cap'] w fun e w' => e = .returned (.bool (decide (xs = ys))) ∧ Below w.heap.size w w' := by
  have hn := hX.2.1
  have HX := Lib.hid hX
  have HY := Lib.hid hY
  by_cases hnm : n = m
  · subst hnm
    clear hX hY
    go_enter Try.func28, Try.ntmps28
    go_wp2_with fail
    go_loopw [13] (fun i wr => ∃ (k d : Nat), k ≤ n ∧ i = .int .i64 k ∧ Hid (xs.take k = ys.take k) ∧ wr = w.drewN d) (fun i _ => n - (intOf i).toNat)
    case atStart => exact ⟨0, 0, by omega, rfl, Lib.hid rfl, rfl⟩
    case round =>
      obtain ⟨k, d, hk, rfl, hT, rfl⟩ := hrel
      by_cases hlt : k < n
      · obtain ⟨p, o, v, rfl, hc, hv, wv⟩ := HX.out.at_ hlt
        obtain ⟨p', o', u, rfl, hc', hu, wu⟩ := HY.out.at_ hlt
        have l1 : k < xs.length := by rw [HX.out.1]; exact hlt
        have l2 : k < ys.length := by rw [HY.out.1]; exact hlt
        clear wv wu
        by_cases hvu : v = u
        · subst hvu
          have hst : Hid (xs.take (k + 1) = ys.take (k + 1)) := Lib.hid (take_next1 l1 l2 hT.out (by rw [hv.out, hu.out]))
          go_wp2
          go_quiet (fail)
          go_wp2
          go_roundw
          case rel => exact ⟨k + 1, _, by omega, by go_num, hst, rfl⟩
          case measure => simp [intOf]; omega
        · have hne : Hid (decide (xs = ys) = false) := Lib.hid (by
            apply decide_eq_false
            rintro rfl
            exact hvu (by rw [← hv.out, ← hu.out]))
          have hbne : (v == u) = false := by simpa using hvu
          go_wp2
          go_quiet (fail)
          go_wp2
          go_ret
          exact ⟨ret_bool hne.out.symm, below_drewN (below_drewN (Below.refl _ _) _) _⟩
      · obtain rfl : k = n := by omega
        have he : Hid (decide (xs = ys) = true) := Lib.hid (by
          apply decide_eq_true
          have := hT.out
          rwa [List.take_of_length_le (by rw [HX.out.1]; exact Nat.le_refl _), List.take_of_length_le (by rw [HY.out.1]; exact Nat.le_refl _)] at this)
        go_wp2
        go_ret
        exact ⟨ret_bool he.out.symm, below_drewN (Below.refl _ _) _⟩
  · have hne : Hid (decide (xs = ys) = false) := Lib.hid (by
      apply decide_eq_false
      rintro rfl
      exact hnm (by rw [← HX.out.1, ← HY.out.1]))
    have hb : ((n : Int) == (m : Int)) = false := by simp; omega
    clear hX hY
    go_enter Try.func28, Try.ntmps28
    go_wp2
    go_ret
    exact ⟨ret_bool hne.out.symm, Below.refl _ _⟩

/-- a row whose block is none that turns -/
theorem rw_other15 {kd : IntKind} {w w' : World} {g : Rw} {b : Nat} (h : g.In kd w) (hb : ∀ a, g.a = some a → 0 < g.n → a.block ≠ b) (hg : w.grownBy w' (some b)) : g.In kd w' := by
  refine ⟨⟨h.1.1, h.1.2.1, h.1.2.2.1, fun hn => ?_⟩, h.2⟩
  obtain ⟨c, off, ha, hc⟩ := h.1.2.2.2 hn
  refine ⟨c, off, ha, fun i hi => ?_⟩
  have h0 := hc i hi
  rw [hg.cell_far _ (World.block_lt_of_cell? _ _ h0) (fun e => hb _ ha hn (by cases e; rfl))]
  exact h0

end Go.Proofs.Ytobogkilkmnpmaa
