/-
  Contracts of slices.Clone and slices.IndexFunc at grids.
-/
import Derived.Test.YtocjcfblpifdhaaCopied
import Derived.Lib.SliceRun
namespace Go.Proofs.Ytocjcfblpifdhaa
open Go.RowKit
set_option linter.unusedVariables false

/-- an append whose run is known, in a region of one order -/
theorem wpList_append_run {P : Program} {w w' : World} {ops : Array Oper} {rest : List Oper} {o : Oper} {a : Act} {Q : Exit → Act → World → Prop} (hgd : o.guard = none) (s x : Operand) (t : TypeId)
    (ho : o.op = .call { callee := .builtin .append, args := #[s, x], argTypes := #[t, t] }) (v1 v2 : Value) (hs : a.eval s = v1) (hx : a.eval x = v2) {v : Value}
    (hrun : Sem.run P (Builtin.append_ #[t, t] o.type #[v1, v2]) w = .ok v w') (h : wpList P ops Q rest (a.put o.dst v) w') : wpList P ops Q (o :: rest) a w := by
  refine wpList_plain hgd fun K hK => ?_
  unfold Oper.wp execOp
  simp only [ho, resolve, invoke, builtin, Sem.run_bind, Sem.run_pure, Result.andThen_ok, List.map_toArray, List.map_cons, List.map_nil, hs, hx, hrun]
  exact hK _ _ h

/-- the cells of a slice of grids -/
theorem Grids.cells_flat {w : World} {b off n : Nat} {gs : List Gr} (h : Grids w (some ⟨b, off, none⟩) n gs) : ∀ j u, (gs.flatMap flat)[j]? = some u → w.cell? ((⟨b, off, none⟩ : Addr).add j) = some u := by
  intro j u hu
  have hj : j < n * 3 := by have := (List.getElem?_eq_some_iff.1 hu).1; rw [flat_len, h.1] at this; exact this
  have hi : j / 3 < n := by omega
  obtain ⟨b', off', he, hc⟩ := h.2.2.2 (by omega)
  cases he
  obtain ⟨c0, c1, c2⟩ := hc (j / 3) hi
  obtain ⟨e0, e1, e2⟩ := flat_at gs (j / 3) (by rw [h.1]; exact hi)
  have ha : (⟨b, off, none⟩ : Addr).add j = ⟨b, off + j, none⟩ := by
    unfold Addr.add
    split
    · rename_i e; subst e; rfl
    · rfl
  rw [ha, ← hu]
  generalize hq : j / 3 = q at *
  have hcase : j = q * 3 ∨ j = q * 3 + 1 ∨ j = q * 3 + 2 := by omega
  rcases hcase with rfl | rfl | rfl
  · rw [e0]; exact c0
  · rw [e1, ← Nat.add_assoc]; exact c1
  · rw [e2, ← Nat.add_assoc]; exact c2

set_option maxHeartbeats 800000 in
theorem clone_any (a : Option Addr) (n cap : Nat) (gs : List Gr) (w : World) (h : Grids w a n gs) (h12 : n ≤ 12) (ha : a = none → cap = 0) (hcap : n ≤ cap) :
    Calls Try.prog 50 #[.slice a n cap] w fun e w' => (∃ v, e = .returned v ∧ w'.ownsRow w.heap.size 24 3 v n (gs.flatMap flat)) ∧ Below w.heap.size w w' := by
  cases a with
  | none =>
    obtain rfl := ha rfl
    obtain rfl : n = 0 := by omega
    have hg : gs = [] := List.eq_nil_of_length_eq_zero h.1
    have q22 : ∀ (w : World) (a : Option Addr) (n c n' c' : Nat), (binOp .eql 36 (.slice a n c) (.slice none n' c')).run Try.prog w = .ok (.bool a.isNone) w := fun w a n c n' c' => Lib.run_eql_slice_nil w _ _ a n c n' c' Try.underlying36
    clear h
    go_enter Try.func50, Try.ntmps50
    go_wp2
    go_ret
    exact ⟨⟨_, rfl, by subst hg; exact ⟨rfl, .inl ⟨rfl, rfl⟩⟩⟩, Below.refl _ _⟩
  | some ad =>
    obtain ⟨i0, hi, hz0, hz1, hz2⟩ : ∃ i, Try.prog.info? 24 = some i ∧ i.zero = some (.agg #[.int .i64 0, .int .i64 0, .slice none 0 0]) ∧ i.size = 3 ∧ i.bytes = 40 := by
      have h := info_grid
      cases hh : Try.prog.info? 24 with
      | none => rw [hh] at h; cases h
      | some i =>
        rw [hh] at h
        simp only [Option.map_some, Option.some.injEq, Prod.mk.injEq] at h
        exact ⟨i, rfl, h.1, h.2.1, h.2.2⟩
    have hown : (w.alloc (.cells #[] 24)).ownsRow w.heap.size 24 3 (.slice (some ⟨w.heap.size, 0, none⟩) 0 0) 0 [] :=
      World.ownsRow_lit (e := 24) (size := 3) w #[] 0 (Nat.le_refl _) (by unfold maxLen; omega) rfl
    have hB : Below w.heap.size w (w.alloc (.cells #[] 24)) := (Below.refl _ _).alloc (Nat.le_refl _) _
    have hnews : ∀ j u, (gs.flatMap flat)[j]? = some u → (w.alloc (.cells #[] 24)).cell? (ad.add j) = some u := by
      intro j u hu
      have hj : j < n * 3 := by have := (List.getElem?_eq_some_iff.1 hu).1; rw [flat_len, h.1] at this; exact this
      obtain ⟨b, off, he, _⟩ := h.2.2.2 (by omega)
      cases he
      exact (h.below hB).cells_flat j u hu
    obtain ⟨v', w', hr, h2, h3, _, _⟩ := run_append_own_at (P := Try.prog) (w.alloc (.cells #[] 24)) w.heap.size 36 36 24 i0 _ 3 40 Try.underlying36 hi hz0 hz1 hz2 rfl (by omega) _ 0 [] hown
      ad n cap (gs.flatMap flat) (by rw [flat_len, h.1]) hnews (by
        intro u hu
        obtain ⟨g, _, hu⟩ := List.mem_flatMap.1 hu
        simp only [flat, List.mem_cons, List.not_mem_nil, or_false] at hu
        rcases hu with rfl | rfl | rfl <;> rfl) (by unfold maxLen; omega) (by omega) (by simp)
    rw [List.nil_append, Nat.zero_add] at h2
    have hb2 : Below w.heap.size w w' := hB.grown h3 (by simp) (fun k hk => by simp [Value.ownBlock] at hk; omega)
    have H2 := Lib.hid h2
    have q22 : ∀ (w : World) (a : Option Addr) (n c n' c' : Nat), (binOp .eql 36 (.slice a n c) (.slice none n' c')).run Try.prog w = .ok (.bool a.isNone) w := fun w a n c n' c' => Lib.run_eql_slice_nil w _ _ a n c n' c' Try.underlying36
    clear h hown hB hnews h2 h3 hi hz0 hz1 hz2
    go_enter Try.func50, Try.ntmps50
    go_wp2_with (at_builtin; refine wpList_append_run (by rfl) _ _ _ (by rfl) _ _ (by rfl) (by rfl) hr ?_)
    go_ret
    exact ⟨⟨_, rfl, H2.out⟩, hb2⟩

/-- what Beside asks of a grid: has it no columns? -/
theorem nocols (g : Gr) (W : World) : Calls Try.prog 51 #[.agg #[.int .i64 g.r, .int .i64 g.c, .slice g.a g.n g.cap]] W fun e w' => e = .returned (.bool (decide (g.c = 0))) ∧ Below W.heap.size W w' := by
  by_cases hc : g.c = 0
  · have HC := Lib.hid hc
    go_enter Try.func51, Try.ntmps51
    go_wp2
    go_ret
    exact ⟨ret_bool (decide_eq_true HC.out).symm, (Below.refl _ _).alloc (Nat.le_refl _) _⟩
  · have HC := Lib.hid hc
    go_enter Try.func51, Try.ntmps51
    go_wp2
    go_ret
    exact ⟨ret_bool ((beq_eq_false_iff_ne.2 HC.out).trans (decide_eq_false HC.out).symm), (Below.refl _ _).alloc (Nat.le_refl _) _⟩

/-- where the first grid without columns stands -/
def First0 (gs : List Gr) (n : Nat) (e : Ending) : Prop :=
  (e = .returned (.int .i64 (-1)) ∧ ∀ j, j < n → (gs.getD j default).c ≠ 0) ∨ ∃ i : Nat, i < n ∧ e = .returned (.int .i64 i) ∧ (gs.getD i default).c = 0 ∧ ∀ j, j < i → (gs.getD j default).c ≠ 0

set_option maxHeartbeats 800000 in
theorem index_any (a : Option Addr) (n cap : Nat) (gs : List Gr) (w : World) (h : Grids w a n gs) :
    Calls Try.prog 55 #[.slice a n cap, .func (.func 51) #[] #[]] w fun e w' => First0 gs n e ∧ Below w.heap.size w w' := by
  have hn := h.2.1
  have hl := Lib.hid h.1
  have HH := Lib.hid h
  clear h
  go_enter Try.func55, Try.ntmps55
  go_wp2_with fail
  go_loopw [8] (fun i wr => ∃ k : Nat, k ≤ n ∧ i = .int .i64 k ∧ Hid (∀ j, j < k → (gs.getD j default).c ≠ 0) ∧ Below w.heap.size w wr) (fun i _ => n - (intOf i).toNat)
  case atStart => exact ⟨0, by omega, rfl, Lib.hid (fun j hj => absurd hj (by omega)), Below.refl _ _⟩
  case round =>
    obtain ⟨k, hk, rfl, ht, hbel⟩ := hrel
    by_cases hlt : k < n
    · obtain ⟨b, off, g, rfl, hbl, c0, c1, c2, hg, hin⟩ := (HH.out.below hbel).at_ hlt
      have hq := nocols g wr
      have i1 : (k : Int) < (n : Int) := by omega
      have HG := hg
      clear hin hg
      by_cases hc : g.c = 0
      · rw [decide_eq_true hc] at hq
        have HC := Lib.hid hc
        clear hc
        go_wp2_with fail
        refine hq.mono ?_
        rintro e wc ⟨rfl, hb⟩
        have hB := below_two hbel hb
        clear hq
        go_wp2
        go_ret
        exact ⟨.inr ⟨k, hlt, rfl, by rw [HG.out]; exact HC.out, ht.out⟩, hB⟩
      · rw [decide_eq_false hc] at hq
        have HC := Lib.hid hc
        clear hc
        have hst : Hid (∀ j, j < k + 1 → (gs.getD j default).c ≠ 0) := Lib.hid fun j hj => by
          by_cases e : j < k
          · exact ht.out j e
          · obtain rfl : j = k := by omega
            rw [HG.out]; exact HC.out
        go_wp2_with fail
        refine hq.mono ?_
        rintro e wc ⟨rfl, hb⟩
        have hB := below_two hbel hb
        clear hq
        go_wp2
        go_roundw
        case rel => exact ⟨k + 1, by omega, by go_num, hst, hB⟩
        case measure => simp [intOf]; omega
    · obtain rfl : k = n := by omega
      go_wp2
      go_ret
      exact ⟨.inl ⟨rfl, ht.out⟩, hbel⟩

end Go.Proofs.Ytocjcfblpifdhaa
