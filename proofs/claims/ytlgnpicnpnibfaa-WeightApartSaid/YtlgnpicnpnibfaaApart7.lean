/-
  Unlike shapes compared; a number of 8 bits with its lowest bit turned is another one; unlike bytes are unlike strings; weights out of a file stay as they are where another row is stored into.
-/
import Derived.Test.YtlgnpicnpnibfaaFileBack
import Derived.Test.YtlgnpicnpnibfaaFault
import Derived.Test.YtlgnpicnpnibfaaShape
import Derived.Laws.StructEq
namespace Go.Proofs.Ytlgnpicnpnibfaa
open Go.RowKit
set_option linter.unusedVariables false

theorem xor1_i8 {x : Int} (h : (Lit.int .i8 x).wf = true) : ∃ y, bits .xor .i8 x 1 = y ∧ y ≠ x ∧ (Lit.int .i8 y).wf = true := by
  have hb := wf8 h
  have key : ∀ n : Fin 256, bits .xor .i8 (((n.val : Nat) : Int) - 128) 1 ≠ ((n.val : Nat) : Int) - 128 ∧ (Lit.int .i8 (bits .xor .i8 (((n.val : Nat) : Int) - 128) 1)).wf = true := by decide +kernel
  have hk := key ⟨(x + 128).toNat, by omega⟩
  have e : ((((x + 128).toNat : Nat) : Int) - 128) = x := by omega
  simp only [e] at hk
  exact ⟨_, rfl, hk.1, hk.2⟩

theorem str_ne {xs ys : List Int} (hx : ∀ x ∈ xs, (Lit.int .u8 x).wf = true) (hy : ∀ x ∈ ys, (Lit.int .u8 x).wf = true) (hne : xs ≠ ys) : (strOfNums xs).toList ≠ (strOfNums ys).toList := by
  intro h
  rw [ba_toList, ba_toList, strOfNums_data, strOfNums_data] at h
  exact hne (bytes_back xs ys (fun x hxx => by have := wfu8 (hx x hxx); omega) (fun x hxx => by have := wfu8 (hy x hxx); omega) h)

theorem u8_inj {x y : Int} (hx : (Lit.int .i8 x).wf = true) (hy : (Lit.int .i8 y).wf = true) (h : u8 x = u8 y) : x = y := by
  rw [← sgn_u8 x hx, ← sgn_u8 y hy, h]
theorem map_u8_inj : ∀ {xs ys : List Int}, (∀ x ∈ xs, (Lit.int .i8 x).wf = true) → (∀ x ∈ ys, (Lit.int .i8 x).wf = true) → xs.map u8 = ys.map u8 → xs = ys := by
  intro xs
  induction xs with
  | nil => intro ys _ _ h; cases ys with | nil => rfl | cons y ys => simp at h
  | cons x xs ih =>
    intro ys hx hy h
    cases ys with
    | nil => simp at h
    | cons y ys =>
      simp only [List.map_cons, List.cons.injEq] at h
      rw [u8_inj (hx x (by simp)) (hy y (by simp)) h.1, ih (fun z hz => hx z (by simp [hz])) (fun z hz => hy z (by simp [hz])) h.2]
/-- unlike numbers, unlike files -/
theorem file_ne {s : Sz} {l l' : List Int} (h1 : ∀ x ∈ l, (Lit.int .i8 x).wf = true) (h2 : ∀ x ∈ l', (Lit.int .i8 x).wf = true) (hl : l.length = l'.length) (hne : l ≠ l') : fileL s l ≠ fileL s l' := by
  intro h
  apply hne
  have hb : (fileL s l).take (20 + l.length) = (fileL s l').take (20 + l'.length) := by rw [h, hl]
  have e : ∀ m : List Int, (fileL s m).take (20 + m.length) = bodyL s m := fun m => by unfold fileL; rw [List.take_append_of_le_length (by rw [bodyL_len]; exact Nat.le_refl _), List.take_of_length_le (by rw [bodyL_len]; exact Nat.le_refl _)]
  rw [e, e] at hb
  unfold bodyL at hb
  exact map_u8_inj h1 h2 (List.append_cancel_left hb)
/-- unlike shapes, unlike files -/
theorem file_ne2 {s u : Sz} {l l' : List Int} (hne : s ≠ u) : fileL s l ≠ fileL u l' := by
  intro h
  apply hne
  rw [← file_shape s l, h, file_shape]


theorem num7_lt (s : Sz) (ok : s.Ok) (j : Nat) (hj : j < 8 * s.l + 3) : num7 s j < cnt s := by
  obtain ⟨hl, hh, hw, hi, hv, hp⟩ := ok.bd
  have hvw : 0 < s.v * s.w := Nat.mul_pos (by omega) (by omega)
  have h0 : num7 s 0 = s.v * s.w := by unfold num7; rw [getD_of (rowsL_zero s)]
  rcases Nat.eq_zero_or_pos j with rfl | hpos
  · rw [h0]; unfold cnt; omega
  · have h1 := off7_succ s j hj
    have h2 := off7_mono s (j + 1) (8 * s.l + 3) (by omega)
    have h3 := off7_mono s 1 j hpos
    have h4 : off7 s 1 = off7 s 0 + num7 s 0 := off7_succ s 0 (by omega)
    rw [off7_end] at h2
    have h5 : off7 s 0 = 0 := rfl
    omega

theorem Pool7.stored {s : Sz} (ok : s.Ok) {G : Nat → Nat} {b : Nat} {f : Nat → Int} {w : World} (h : Pool7 s G b (fillV s f (cnt s)) w) {base fg cap : Nat} {xs : List Value} (hown : w.ownsRow base 55 1 (.slice (some ⟨fg, 0, none⟩) (cnt s) cap) (cnt s) xs) (k : Nat) (u : Value) : Pool7 s G b (fillV s f (cnt s)) (w.setCell ⟨fg, k, none⟩ u) := by
  obtain ⟨g1, c, g2, g3⟩ := h
  have gS := grownBy_setCell w fg k u
  rcases hown.2 with ⟨h4, _⟩ | ⟨g', c', cur, h4, _, h5, h6, _, h7, _⟩
  · cases h4
  · simp only [Value.slice.injEq, Option.some.injEq, Addr.mk.injEq, and_true, true_and] at h4
    obtain ⟨rfl, rfl⟩ := h4
    refine ⟨fun j hj => (g1 j hj).kept gS ?_, c, g2.kept gS ?_, g3⟩
    · intro he
      have he2 : G j = fg := by simpa using he
      have hb := mine_box (g1 j hj)
      rw [he2] at hb
      have := h5.symm.trans hb
      simp only [Option.some.injEq, Obj.cells.injEq] at this
      have hs := congrArg Array.size this.1
      have hl := fillV_len s f (cnt s) j
      have hn := num7_lt s ok j hj
      simp at hs
      omega
    · intro he
      have he2 : b = fg := by simpa using he
      rw [he2] at g2
      have := h5.symm.trans g2
      simp only [Option.some.injEq, Obj.cells.injEq] at this
      exact absurd this.2.1 (by decide)

/-- weights out of a file, and no error, are answered -/
def GivesP (s : Sz) (l : List Int) (e : Ending) (w' : World) : Prop := ∃ (f : Nat → Int) (G : Nat → Nat) (b : Nat), (∀ k, (Lit.int .i8 (f k)).wf = true) ∧ (List.range (cnt s)).map f = l ∧ e = .returned (.tuple #[.agg (mkW s G b (fillV s f (cnt s))).cells, .int .i64 0]) ∧ Pool7 s G b (fillV s f (cnt s)) w'
theorem parse_pool (s : Sz) (ok : s.Ok) (l : List Int) (hl : l.length = cnt s) (hw : ∀ x ∈ l, (Lit.int .i8 x).wf = true) (b n cap : Nat) (w : World) (h : Elems .u8 w (some ⟨b, 0, none⟩) n (fileL s l)) (hcap : n ≤ cap) (hcap2 : cap ≤ 9223372036854775807) :
    Calls Try.prog 25 #[.slice (some ⟨b, 0, none⟩) n cap] w fun e w' => GivesP s l e w' ∧ Below w.heap.size w w' := by
  refine (parse_yes b n cap _ w h hcap hcap2 (file_fault s ok l hl)).mono ?_
  rw [file_shape]
  rintro e w' ⟨⟨G, g, rfl, hP⟩, hb⟩
  exact ⟨⟨_, G, g, fun k => by
    unfold fileF
    by_cases hk : 20 + k < (fileL s l).length
    · have := wfu8 (h.2.2.1 _ (getD_mem hk))
      exact sgn8_wf _ this.1 this.2
    · rw [List.getD_eq_getElem?_getD, List.getElem?_eq_none (by omega)]
      exact sgn8_wf 0 (by omega) (by omega), file_nums s l hl hw, rfl, hP⟩, hb⟩


theorem beq_nat_int {a b : Nat} (h : a ≠ b) : ((a : Int) == (b : Int)) = false := by simp; omega

set_option maxHeartbeats 1600000 in
theorem eql_shape (s u : Sz) (hne : s ≠ u) (w : World) : Sem.run Try.prog (binOp .eql 30 (.agg #[.int .i64 s.l, .int .i64 s.w, .int .i64 s.h, .int .i64 s.i, .int .i64 s.v, .int .i64 s.p]) (.agg #[.int .i64 u.l, .int .i64 u.w, .int .i64 u.h, .int .i64 u.i, .int .i64 u.v, .int .i64 u.p])) w = .ok (.bool false) w := by
  obtain ⟨a0, a1, a2, a3, a4, a5⟩ := s
  obtain ⟨b0, b1, b2, b3, b4, b5⟩ := u
  simp only
  by_cases e0 : a0 = b0
  · subst e0
    by_cases e1 : a1 = b1
    · subst e1
      by_cases e2 : a2 = b2
      · subst e2
        by_cases e3 : a3 = b3
        · subst e3
          by_cases e4 : a4 = b4
          · subst e4
            by_cases e5 : a5 = b5
            · subst e5; exact absurd rfl hne
            · have h := beq_nat_int e5
              clear hne e5
              go_simp
          · have h := beq_nat_int e4
            clear hne e4
            go_simp
        · have h := beq_nat_int e3
          clear hne e3
          go_simp
      · have h := beq_nat_int e2
        clear hne e2
        go_simp
    · have h := beq_nat_int e1
      clear hne e1
      go_simp
  · have h := beq_nat_int e0
    clear hne e0
    go_simp

end Go.Proofs.Ytlgnpicnpnibfaa
