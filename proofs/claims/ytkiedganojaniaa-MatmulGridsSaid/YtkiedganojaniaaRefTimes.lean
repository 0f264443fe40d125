/-
  Contract of the document's Times.
-/
import Derived.Test.YtkiedganojaniaaRefPart
import Derived.Test.YtkiedganojaniaaRight
import Derived.Test.YtkiedganojaniaaRefMod
import Derived.Test.YtkiedganojaniaaCut2
import Derived.Deep.RegionHeld3
namespace Go.Proofs.Ytkiedganojaniaa
open Go.RowKit
set_option linter.unusedVariables false

/-- no grid, and false -/
def NoneOf (e : Ending) : Prop := e = .returned (.tuple #[.agg #[.int .i64 0, .int .i64 0, .slice none 0 0], .bool false])
/-- a grid, and true -/
def SomeOf (w : World) (r c : Nat) (xs : List Int) (e : Ending) : Prop := ∃ v, e = .returned (.tuple #[v, .bool true]) ∧ GridV w r c xs v

section
variable (r c r2 c2 : Int) (a a2 : Option Addr) (n n2 cap cap2 : Nat) (w : World) (hn : n ≤ 9223372036854775807) (hn2 : n2 ≤ 9223372036854775807)
include hn hn2

set_option maxHeartbeats 800000 in
theorem ref_times_no (hf : (fitB r c n && (fitB r2 c2 n2 && (decide (c = r2) && decide (r * c2 ≤ 1048576)))) = false) :
    Calls Try.prog 28 #[.agg #[.int .i64 r, .int .i64 c, .slice a n cap], .agg #[.int .i64 r2, .int .i64 c2, .slice a2 n2 cap2]] w fun e w' => NoneOf e ∧ Below w.heap.size w w' := by
  have B : ∀ x y z wb, Below (((w.alloc x).alloc y).alloc z).heap.size (((w.alloc x).alloc y).alloc z) wb → Below w.heap.size w wb := fun x y z wb hb =>
    below_two ((((Below.refl _ _).alloc (Nat.le_refl _) x).alloc (by simp) y).alloc (by simp; omega) z) hb
  cases hf1 : fitB r c n with
  | false =>
    clear hf
    go_enter Try.func28, Try.ntmps28
    go_wp2_with fail
    refine (ref_fit r c a n cap _ hn false hf1).mono ?_
    rintro e wb ⟨rfl, hb⟩
    obtain ⟨k1, d0, d1, d2, e0, e1, e2⟩ := (box3_at (w := (w.alloc _).alloc _) (b := w.heap.size + 1 + 1) (by simp) (.int .i64 0) (.int .i64 0) (.slice none 0 0) 43).below hb
    have hB := B _ _ _ _ hb
    clear B hb hf1
    go_wp2
    exact bodyPost_ret (v := .tuple #[.agg #[.int .i64 0, .int .i64 0, .slice none 0 0], .bool false]) (by simp [results, Try.results28, go_sem, d0, d1, d2]) rfl
      ⟨rfl, below_res hB (by omega) _ _ _⟩
  | true =>
    rw [hf1, Bool.true_and] at hf
    cases hf2 : fitB r2 c2 n2 with
    | false =>
      clear hf
      go_enter Try.func28, Try.ntmps28
      go_wp2_with fail
      refine (ref_fit r c a n cap _ hn true hf1).mono ?_
      rintro e wb ⟨rfl, hb⟩
      have b0 := (((box3_at (w := w) (b := w.heap.size) rfl (.int .i64 r) (.int .i64 c) (.slice a n cap) 43).alloc _).alloc _).below hb
      have b1 := ((box3_at (w := w.alloc _) (b := w.heap.size + 1) (by simp) (.int .i64 r2) (.int .i64 c2) (.slice a2 n2 cap2) 43).alloc _).below hb
      have b2 := (box3_at (w := (w.alloc _).alloc _) (b := w.heap.size + 1 + 1) (by simp) (.int .i64 0) (.int .i64 0) (.slice none 0 0) 43).below hb
      have hB := B _ _ _ _ hb
      obtain ⟨j1, f0, f1, f2, _, _, _⟩ := b1
      clear B hb hf1
      go_wp2_with fail
      refine (ref_fit r2 c2 a2 n2 cap2 _ hn2 false hf2).mono ?_
      rintro e wc ⟨rfl, hbc⟩
      obtain ⟨k1, d0, d1, d2, e0, e1, e2⟩ := b2.below hbc
      have hB2 := below_two hB hbc
      clear hbc hf2 f0 f1 f2 hB b2
      go_wp2
      exact bodyPost_ret (v := .tuple #[.agg #[.int .i64 0, .int .i64 0, .slice none 0 0], .bool false]) (by simp [results, Try.results28, go_sem, d0, d1, d2]) rfl
        ⟨rfl, below_res hB2 (by omega) _ _ _⟩
    | true =>
      rw [hf2, Bool.true_and] at hf
      obtain ⟨R, C, rfl, rfl, hR, hC, rfl, hle⟩ := fitB_yes hf1
      obtain ⟨R2, C2, rfl, rfl, hR2, hC2, rfl, hle2⟩ := fitB_yes hf2
      have p0 : (0 : Int) ≤ (R : Int) * C2 := Int.mul_nonneg (by omega) (by omega)
      have p1 : (R : Int) * C2 ≤ 4096 * 4096 := Int.mul_le_mul (by omega) (by omega) (by omega) (by omega)
      by_cases hcr : (C : Int) = R2
      · have hbig : 1048576 < (R : Int) * C2 := by
          rw [decide_eq_true hcr, Bool.true_and] at hf
          have := of_decide_eq_false hf
          omega
        obtain rfl : C = R2 := by omega
        clear hf hcr
        go_enter Try.func28, Try.ntmps28
        go_wp2_with fail
        refine (ref_fit _ _ a _ cap _ hn true hf1).mono ?_
        rintro e wb ⟨rfl, hb⟩
        have b0 := (((box3_at (w := w) (b := w.heap.size) rfl (.int .i64 R) (.int .i64 C) (.slice a (R * C : Nat) cap) 43).alloc _).alloc _).below hb
        have b1 := ((box3_at (w := w.alloc _) (b := w.heap.size + 1) (by simp) (.int .i64 C) (.int .i64 C2) (.slice a2 (C * C2 : Nat) cap2) 43).alloc _).below hb
        have b2 := (box3_at (w := (w.alloc _).alloc _) (b := w.heap.size + 1 + 1) (by simp) (.int .i64 0) (.int .i64 0) (.slice none 0 0) 43).below hb
        have hB := B _ _ _ _ hb
        obtain ⟨i1, h0, h1, h2, _, _, _⟩ := b0
        obtain ⟨j1, f0, f1, f2, _, _, _⟩ := b1
        clear B hb hf1
        go_wp2_with fail
        refine (ref_fit _ _ a2 _ cap2 _ hn2 true hf2).mono ?_
        rintro e wc ⟨rfl, hbc⟩
        obtain ⟨k1, d0, d1, d2, e0, e1, e2⟩ := b2.below hbc
        obtain ⟨_, g0, g1, g2, _, _, _⟩ := (show Box3 wb w.heap.size _ _ _ from ⟨i1, h0, h1, h2, by assumption, by assumption, by assumption⟩).below hbc
        obtain ⟨_, l0, l1, l2, _, _, _⟩ := (show Box3 wb (w.heap.size + 1) _ _ _ from ⟨j1, f0, f1, f2, by assumption, by assumption, by assumption⟩).below hbc
        have hB2 := below_two hB hbc
        clear hbc hf2 f0 f1 f2 hB b2 h0 h1 h2
        go_wp2
        exact bodyPost_ret (v := .tuple #[.agg #[.int .i64 0, .int .i64 0, .slice none 0 0], .bool false]) (by simp [results, Try.results28, go_sem, d0, d1, d2]) rfl
          ⟨rfl, below_res hB2 (by omega) _ _ _⟩
      · clear hf
        go_enter Try.func28, Try.ntmps28
        go_wp2_with fail
        refine (ref_fit _ _ a _ cap _ hn true hf1).mono ?_
        rintro e wb ⟨rfl, hb⟩
        have b0 := (((box3_at (w := w) (b := w.heap.size) rfl (.int .i64 R) (.int .i64 C) (.slice a (R * C : Nat) cap) 43).alloc _).alloc _).below hb
        have b1 := ((box3_at (w := w.alloc _) (b := w.heap.size + 1) (by simp) (.int .i64 R2) (.int .i64 C2) (.slice a2 (R2 * C2 : Nat) cap2) 43).alloc _).below hb
        have b2 := (box3_at (w := (w.alloc _).alloc _) (b := w.heap.size + 1 + 1) (by simp) (.int .i64 0) (.int .i64 0) (.slice none 0 0) 43).below hb
        have hB := B _ _ _ _ hb
        obtain ⟨i1, h0, h1, h2, _, _, _⟩ := b0
        obtain ⟨j1, f0, f1, f2, _, _, _⟩ := b1
        clear B hb hf1
        go_wp2_with fail
        refine (ref_fit _ _ a2 _ cap2 _ hn2 true hf2).mono ?_
        rintro e wc ⟨rfl, hbc⟩
        obtain ⟨k1, d0, d1, d2, e0, e1, e2⟩ := b2.below hbc
        obtain ⟨_, g0, g1, g2, _, _, _⟩ := (show Box3 wb w.heap.size _ _ _ from ⟨i1, h0, h1, h2, by assumption, by assumption, by assumption⟩).below hbc
        obtain ⟨_, l0, l1, l2, _, _, _⟩ := (show Box3 wb (w.heap.size + 1) _ _ _ from ⟨j1, f0, f1, f2, by assumption, by assumption, by assumption⟩).below hbc
        have hB2 := below_two hB hbc
        clear hbc hf2 f0 f1 f2 hB b2 h0 h1 h2
        go_wp2
        exact bodyPost_ret (v := .tuple #[.agg #[.int .i64 0, .int .i64 0, .slice none 0 0], .bool false]) (by simp [results, Try.results28, go_sem, d0, d1, d2]) rfl
          ⟨rfl, below_res hB2 (by omega) _ _ _⟩

end

/-- what the loops of Times keep: the two grids that came in, the result's cells, the grid that is built (in block o), its numbers so far -/
structure OutInv2 (w : World) (o : Nat) (R C : Int) (sl : Value) (R2 C2 : Int) (sl2 : Value) (m n : Int) (u : Value) (cs : List Int) (wr : World) : Prop where
  b0 : Box3 wr w.heap.size (.int .i64 R) (.int .i64 C) sl
  b1 : Box3 wr (w.heap.size + 1) (.int .i64 R2) (.int .i64 C2) sl2
  b2 : Box3 wr (w.heap.size + 1 + 1) (.int .i64 0) (.int .i64 0) (.slice none 0 0)
  b3 : Box3 wr o (.int .i64 m) (.int .i64 n) u
  own : wr.ownsRow (o + 1) 21 1 u cs.length (cs.map (.int .i32))
  bel : Below w.heap.size w wr
  lt : w.heap.size + 1 + 1 < o
  sz : o + 1 ≤ wr.heap.size

theorem OutInv2.below {w : World} {o : Nat} {R C : Int} {sl : Value} {R2 C2 : Int} {sl2 : Value} {m n : Int} {u : Value} {cs : List Int} {wr wc : World} (h : OutInv2 w o R C sl R2 C2 sl2 m n u cs wr) (hb : Below wr.heap.size wr wc) : OutInv2 w o R C sl R2 C2 sl2 m n u cs wc :=
  ⟨h.b0.below hb, h.b1.below hb, h.b2.below hb, h.b3.below hb, own_below h.own hb, below_two h.bel hb, h.lt, Nat.le_trans h.sz hb.size⟩

/-- one number more -/
theorem OutInv2.next {w : World} {o : Nat} {R C : Int} {sl : Value} {R2 C2 : Int} {sl2 : Value} {m n : Int} {u : Value} {cs : List Int} {wc : World} (h : OutInv2 w o R C sl R2 C2 sl2 m n u cs wc) (x : Int) (hl : cs.length ≤ 16777216) :
    ∃ g cap w', Sem.run Try.prog (Builtin.append_ #[27, 27] 27 #[u, .slice (some ⟨wc.heap.size, 0, none⟩) 1 1]) (wc.alloc (.cells #[.int .i32 x] 21)) = .ok (.slice (some ⟨g, 0, none⟩) (cs.length + 1) cap) w' ∧
      Box3 w' o (.int .i64 m) (.int .i64 n) u ∧
      OutInv2 w o R C sl R2 C2 sl2 m n (.slice (some ⟨g, 0, none⟩) (cs.length + 1) cap) (cs ++ [x]) (w'.setCell ⟨o, 2, none⟩ (.slice (some ⟨g, 0, none⟩) (cs.length + 1) cap)) := by
  have own2 := h.own
  have hs := h.sz
  have hlo := h.lt
  obtain ⟨g, cap, w', hr, hown, hg, hlt⟩ := run_append_one wc _ u cs.length cs x own2 hl (by omega)
  have hne : ∀ b, b < o + 1 → some b ≠ u.ownBlock := fun b hb' e => by
    have := (own2.lt b e.symm).1
    omega
  have d0 := h.b0.kept hg (hne _ (by omega))
  have d1 := h.b1.kept hg (hne _ (by omega))
  have d2 := h.b2.kept hg (hne _ (by omega))
  have d3 := h.b3.kept hg (hne _ (by omega))
  have hset := grownBy_setCell w' o 2 (.slice (some ⟨g, 0, none⟩) (cs.length + 1) cap)
  refine ⟨g, cap, w', hr, d3, d0.kept hset (by simp; omega), d1.kept hset (by simp; omega), d2.kept hset (by simp; omega), d3.set2 _, ?_, ?_, hlo, ?_⟩
  · rw [List.length_append, List.length_singleton]
    exact own_grown hown hset (by omega)
  · have hB : Below w.heap.size w w' := h.bel.grown hg (by omega) (fun k hk => by have := (own2.lt k hk).1; omega)
    exact hB.setCell (p := ⟨o, 2, none⟩) (by simp; omega) _
  · simp; omega

/-- the first k products -/
def pl (xs ys : List Int) (K C i j k : Nat) : List Int := (List.range k).map fun t => xs.getD (i * K + t) 0 * ys.getD (t * C + j) 0
theorem pl_succ (xs ys : List Int) (K C i j k : Nat) : pl xs ys K C i j (k + 1) = pl xs ys K C i j k ++ [xs.getD (i * K + k) 0 * ys.getD (k * C + j) 0] := by
  unfold pl; rw [List.range_succ, List.map_append]; rfl
theorem pl_length (xs ys : List Int) (K C i j k : Nat) : (pl xs ys K C i j k).length = k := by unfold pl; simp
theorem mul_wf {x y : Int} (hx : (Lit.int .i32 x).wf = true) (hy : (Lit.int .i32 y).wf = true) : -4611686018427387904 ≤ x * y ∧ x * y ≤ 4611686018427387904 := by
  have h1 := wf32 hx
  have h2 := wf32 hy
  have a1 : x.natAbs ≤ 2147483648 := by omega
  have a2 : y.natAbs ≤ 2147483648 := by omega
  have h3 : (x * y).natAbs ≤ 2147483648 * 2147483648 := by rw [Int.natAbs_mul]; exact Nat.mul_le_mul a1 a2
  omega
theorem pl_wf {xs ys : List Int} (hx : ∀ x ∈ xs, (Lit.int .i32 x).wf = true) (hy : ∀ x ∈ ys, (Lit.int .i32 x).wf = true) (K C i j k : Nat) : ∀ x ∈ pl xs ys K C i j k, (Lit.int .i64 x).wf = true := by
  intro x h
  unfold pl at h
  obtain ⟨t, _, rfl⟩ := List.mem_map.1 h
  have := mul_wf (getD_wf hx rfl (i * K + t)) (getD_wf hy rfl (t * C + j))
  exact WalkArith.wf_i64 ⟨by omega, by omega⟩

set_option maxHeartbeats 4000000 in
theorem ref_times_yes (R K C : Nat) (a a2 : Option Addr) (cap cap2 : Nat) (xs ys : List Int) (w : World) (h : Elems .i32 w a (R * K) xs) (h2 : Elems .i32 w a2 (K * C) ys) (hR : R ≤ 4096) (hK : K ≤ 4096) (hC : C ≤ 4096) (hle1 : R * K ≤ 1048576) (hle2 : K * C ≤ 1048576) (hle : R * C ≤ 1048576) :
    Calls Try.prog 28 #[.agg #[.int .i64 R, .int .i64 K, .slice a (R * K : Nat) cap], .agg #[.int .i64 K, .int .i64 C, .slice a2 (K * C : Nat) cap2]] w fun e w' => SomeOf w' R C (tab R C fun i j => prod xs ys K C i j) e ∧ Below w.heap.size w w' := by
  have B : ∀ x y z wb, Below (((w.alloc x).alloc y).alloc z).heap.size (((w.alloc x).alloc y).alloc z) wb → Below w.heap.size w wb := fun x y z wb hb =>
    below_two ((((Below.refl _ _).alloc (Nat.le_refl _) x).alloc (by simp) y).alloc (by simp; omega) z) hb
  have hf1 := fitB_nat R K hR hK hle1
  have hf2 := fitB_nat K C hK hC hle2
  have p0 : (0 : Int) ≤ (R : Int) * C := Int.mul_nonneg (by omega) (by omega)
  have p1 : (R : Int) * C ≤ 1048576 := by rw [← Int.natCast_mul]; omega
  have HE := Lib.hid h
  have HE2 := Lib.hid h2
  clear h h2
  go_enter Try.func28, Try.ntmps28
  go_wp2_with fail
  refine (ref_fit _ _ a _ cap _ (by omega) true hf1).mono ?_
  rintro e wb ⟨rfl, hb⟩
  have b0 := (((box3_at (w := w) (b := w.heap.size) rfl (.int .i64 R) (.int .i64 K) (.slice a (R * K : Nat) cap) 43).alloc _).alloc _).below hb
  have b1 := ((box3_at (w := w.alloc _) (b := w.heap.size + 1) (by simp) (.int .i64 K) (.int .i64 C) (.slice a2 (K * C : Nat) cap2) 43).alloc _).below hb
  have b2 := (box3_at (w := (w.alloc _).alloc _) (b := w.heap.size + 1 + 1) (by simp) (.int .i64 0) (.int .i64 0) (.slice none 0 0) 43).below hb
  have hB := B _ _ _ _ hb
  obtain ⟨i1, h0, h1, h2, z0, z1, z2⟩ := b0
  obtain ⟨j1, f0, f1, f2, z3, z4, z5⟩ := b1
  clear B hb hf1
  go_wp2_with fail
  refine (ref_fit _ _ a2 _ cap2 _ (by omega) true hf2).mono ?_
  rintro e wc ⟨rfl, hbc⟩
  have c2 := b2.below hbc
  have c0 := (show Box3 wb w.heap.size _ _ _ from ⟨i1, h0, h1, h2, z0, z1, z2⟩).below hbc
  have c1 := (show Box3 wb (w.heap.size + 1) _ _ _ from ⟨j1, f0, f1, f2, z3, z4, z5⟩).below hbc
  have hB2 := below_two hB hbc
  clear hbc hf2 f0 f1 f2 hB b2 h0 h1 h2 z0 z1 z2 z3 z4 z5 i1 j1
  obtain ⟨i1, h0, h1, h2, z0, z1, z2⟩ := c0
  obtain ⟨j1, f0, f1, f2, z3, z4, z5⟩ := c1
  go_wp2_with fail
  have hinv0 : OutInv2 w wc.heap.size R K (.slice a (R * K : Nat) cap) K C (.slice a2 (K * C : Nat) cap2) R C (.slice none 0 0) (pre C (fun i j => prod xs ys K C i j) 0 0) (wc.alloc (.cells #[.int .i64 R, .int .i64 C, .slice none 0 0] 43)) :=
    ⟨(show Box3 wc w.heap.size _ _ _ from ⟨i1, h0, h1, h2, z0, z1, z2⟩).alloc _, (show Box3 wc (w.heap.size + 1) _ _ _ from ⟨j1, f0, f1, f2, z3, z4, z5⟩).alloc _, c2.alloc _, box3_new _ _ _ _ _, own_nil _ _ _, hB2.alloc (by omega) _, c2.1, by simp⟩
  have HI := Lib.hid hinv0
  clear hinv0 h0 h1 h2 f0 f1 f2 z0 z1 z2 z3 z4 z5 c2 hB2
  go_loopw [7] (fun i wr => ∃ (i' : Nat) (u : Value), i' ≤ R ∧ i = .int .i64 i' ∧ Hid (OutInv2 w wc.heap.size R K (.slice a (R * K : Nat) cap) K C (.slice a2 (K * C : Nat) cap2) R C u (pre C (fun i j => prod xs ys K C i j) i' 0) wr)) (fun i _ => R - (intOf i).toNat)
  case atStart => exact ⟨0, .slice none 0 0, by omega, rfl, HI⟩
  case round =>
    clear HI
    obtain ⟨i', u, hi1, rfl, hinv⟩ := hrel
    obtain ⟨x1, k0, k1, k2, _, _, _⟩ := hinv.out.b0
    obtain ⟨x2, l0, l1, l2, _, _, _⟩ := hinv.out.b1
    by_cases hlt : i' < R
    · go_wp2_with fail
      go_loopw [8] (fun j wr => ∃ (j' : Nat) (u : Value), j' ≤ C ∧ j = .int .i64 j' ∧ Hid (OutInv2 w wc.heap.size R K (.slice a (R * K : Nat) cap) K C (.slice a2 (K * C : Nat) cap2) R C u (pre C (fun i j => prod xs ys K C i j) i' j') wr)) (fun j _ => C - (intOf j).toNat)
      case atStart => exact ⟨0, u, by omega, rfl, hinv⟩
      case round =>
        clear hinv k0 k1 k2 l0 l1 l2 x1 x2
        obtain ⟨j', u, hj1, rfl, hinv⟩ := hrel
        obtain ⟨x1, k0, k1, k2, _, _, _⟩ := hinv.out.b0
        obtain ⟨x2, l0, l1, l2, _, _, _⟩ := hinv.out.b1
        by_cases hlt2 : j' < C
        · obtain ⟨w0, hw0⟩ : ∃ w0, w0 = wr := ⟨_, rfl⟩
          subst hw0
          go_wp2_with fail
          go_loopw [9, 10] (fun v k wr => ∃ (k' : Nat), k' ≤ K ∧ k = .int .i64 k' ∧ Hid (w0.heap.size ≤ wr.heap.size ∧ Below w0.heap.size w0 wr ∧ wr.ownsRow w0.heap.size 2 1 v k' ((pl xs ys K C i' j' k').map (.int .i64)))) (fun _ k _ => K - (intOf k).toNat)
          case atStart => exact ⟨0, by omega, rfl, Lib.hid ⟨Nat.le_refl _, Below.refl _ _, own_nil _ _ _⟩⟩
          case round =>
            clear k0 k1 k2 l0 l1 l2 x1 x2
            obtain ⟨k', hk1, rfl, hrow⟩ := hrel
            have hinv2 := hinv.out.below hrow.out.2.1
            obtain ⟨x1, k0, k1, k2, _, _, _⟩ := hinv2.b0
            obtain ⟨x2, l0, l1, l2, _, _, _⟩ := hinv2.b1
            have HI2 := Lib.hid hinv2
            clear hinv2
            by_cases hlt3 : k' < K
            · obtain ⟨x, hx⟩ : ∃ x, x = xs.getD (i' * K + k') 0 := ⟨_, rfl⟩
              obtain ⟨y, hy⟩ : ∃ y, y = ys.getD (k' * C + j') 0 := ⟨_, rfl⟩
              have hA := fun W (hb : Below wr.heap.size wr W) => ref_cell R K i' k' a cap xs W (HE.out.below (below_two HI2.out.bel hb)) hR hK hlt hlt3
              have hB := fun W (hb : Below wr.heap.size wr W) => ref_cell K C k' j' a2 cap2 ys W (HE2.out.below (below_two HI2.out.bel hb)) hK hC hlt3 hlt2
              have wx : (Lit.int .i32 x).wf = true := by rw [hx]; exact getD_wf HE.out.2.2.1 rfl _
              have wy : (Lit.int .i32 y).wf = true := by rw [hy]; exact getD_wf HE2.out.2.2.1 rfl _
              have hxy := mul_wf wx wy
              have bx := wf32 wx
              have by_ := wf32 wy
              have hpl : pl xs ys K C i' j' (k' + 1) = pl xs ys K C i' j' k' ++ [x * y] := by rw [pl_succ, ← hx, ← hy]
              rw [← hx] at hA
              rw [← hy] at hB
              have HPL := Lib.hid hpl
              have hS0 : Below wr.heap.size wr wr.drew := (Below.refl _ _).drew
              have e1 : IntKind.i64.wrap x = x := IntWalk.i64_in _ (by omega)
              have e2 : IntKind.i64.wrap y = y := IntWalk.i64_in _ (by omega)
              have e3 : IntKind.i64.wrap (x * y) = x * y := IntWalk.i64_in _ (by omega)
              clear hx hy wx wy hpl bx by_ hxy
              go_wp2_with fail
              go_region_held3 (fun w' => w'.cell? ⟨w.heap.size, 0, none⟩ = some (.int .i64 R) ∧ w'.cell? ⟨w.heap.size, 1, none⟩ = some (.int .i64 K) ∧ w'.cell? ⟨w.heap.size, 2, none⟩ = some (.slice a (R * K : Nat) cap) ∧
                  w'.cell? ⟨w.heap.size + 1, 0, none⟩ = some (.int .i64 K) ∧ w'.cell? ⟨w.heap.size + 1, 1, none⟩ = some (.int .i64 C) ∧ w'.cell? ⟨w.heap.size + 1, 2, none⟩ = some (.slice a2 (K * C : Nat) cap2))
                (first | go_keep | (go_split_ands; refine ⟨?_, ?_, ?_, ?_, ?_, ?_⟩ <;> assumption))
                (first
                  | (go_at_call 41; (with_reducible refine (hA _ hS0).mono ?_); rintro e wc1 ⟨rfl, hb1⟩; have hS1 := below_two hS0 hb1
                     obtain ⟨_, m0, m1, m2, _, _, _⟩ := HI2.out.b0.below hS1
                     obtain ⟨_, m3, m4, m5, _, _, _⟩ := HI2.out.b1.below hS1)
                  | (go_at_call 41; (with_reducible refine (hB _ hS1).mono ?_); rintro e wc2 ⟨rfl, hb2⟩; have hS2 := below_two hS1 hb2
                     obtain ⟨_, n0, n1, n2, _, _, _⟩ := HI2.out.b0.below hS2
                     obtain ⟨_, n3, n4, n5, _, _, _⟩ := HI2.out.b1.below hS2
                     have hown2 := own_below hrow.out.2.2 hS2
                     obtain ⟨g, cap3, w3, hrun, hown3, hgr3, hlt3'⟩ := run_append_one64 wc2 w0.heap.size u9 k' (pl xs ys K C i' j' k') (x * y) hown2 (by omega) (by have := hS2.size; have := hrow.out.1; omega)
                     have hne : ∀ b, b < w0.heap.size → some b ≠ u9.ownBlock := fun b hb' e => by
                       have := (hown2.lt b e.symm).1
                       omega
                     have hw0 := hinv.out.b0.1
                     have hw1 := hinv.out.b1.1
                     obtain ⟨_, p0, p1, p2, _, _, _⟩ := (HI2.out.b0.below hS2).alloc (.cells #[.int .i64 (x * y)] 2)
                     obtain ⟨_, p3, p4, p5, _, _, _⟩ := (HI2.out.b1.below hS2).alloc (.cells #[.int .i64 (x * y)] 2)
                     obtain ⟨_, q0, q1, q2, _, _, _⟩ := (HI2.out.b0.below hS2).kept hgr3 (hne _ hw0)
                     obtain ⟨_, q3, q4, q5, _, _, _⟩ := (HI2.out.b1.below hS2).kept hgr3 (hne _ hw1))
                  | (refine step_append_run (by rfl) _ _ _ (by rfl) _ _ (by rfl) (by rfl) hrun ?_))
              have hbel3 : Below w0.heap.size w0 w3 := (below_two hrow.out.2.1 hS2).grown hgr3 (by have := hS2.size; have := hrow.out.1; omega) (fun k hk => (hown2.lt k hk).1)
              have hown4 := hown3
              rw [← HPL.out] at hown4
              have hsz3 := hbel3.size
              clear e1 e2 e3 hA hB hS0 hS1 hS2 hown2 hown3 hgr3 hrun
              go_wp2
              go_roundw
              case rel => exact ⟨k' + 1, by omega, by go_num, Lib.hid ⟨hsz3, hbel3, hown4⟩⟩
              case measure => simp [intOf]; omega
            · obtain rfl : k' = K := by omega
              obtain ⟨la, lcap, hv, hV⟩ := own_form hrow.out.2.2 (by omega) (pl_wf HE.out.2.2.1 HE2.out.2.2.1 k' C i' j' k')
              subst hv
              have hVd : Elems .i64 wr.drew la k' (pl xs ys k' C i' j' k') := hV
              have hinvd := HI2.out.below ((Below.refl wr.heap.size wr).drew)
              have hl : (pre C (fun i j => prod xs ys k' C i j) i' j').length ≤ 16777216 := by
                rw [pre_length]
                have := row_lt hlt hlt2
                omega
              have hnx : pre C (fun i j => prod xs ys k' C i j) i' j' ++ [wsum (pl xs ys k' C i' j' k')] = pre C (fun i j => prod xs ys k' C i j) i' (j' + 1) := by
                rw [pre_next]; rfl
              have HL := Lib.hid hl
              have HNX := Lib.hid hnx
              have HID := Lib.hid hinvd
              obtain ⟨z, hz⟩ : ∃ z, wsum (pl xs ys k' C i' j' k') = z := ⟨_, rfl⟩
              obtain ⟨cs, hcs⟩ : ∃ cs, pre C (fun i j => prod xs ys k' C i j) i' j' = cs := ⟨_, rfl⟩
              have hwr := ref_wrap la k' lcap _ _ hVd
              rw [hz] at HNX hwr
              rw [hcs] at HL HNX HID
              obtain ⟨x3, r0, r1, r2, r3, r4, r5⟩ := HID.out.b3
              obtain ⟨y3, s0, s1, s2, s3, s4, s5⟩ := HI2.out.b3
              clear hl hnx hcs hz hV hVd hinvd hrow hinv
              go_wp2_with fail
              go_region_law (first
                | (go_simp; go_at_call 31; (with_reducible refine hwr.mono ?_); rintro e w' ⟨rfl, rfl⟩
                   obtain ⟨g, cap3, w3, hrun, ⟨_, q0, q1, q2, t0, t1, t2⟩, hnext⟩ := HID.out.next z HL.out)
                | (refine step_append_run (by rfl) _ _ _ (by rfl) _ _ (by rfl) (by rfl) hrun ?_))
              all_goals go_wp2
              all_goals
                go_roundw
                case rel => exact ⟨j' + 1, _, by omega, by go_num, Lib.hid (by rw [← HNX.out]; exact hnext)⟩
                case measure => simp [intOf]; omega
        · obtain rfl : j' = C := by omega
          have hnx := hinv.out
          rw [pre_row] at hnx
          have HNX := Lib.hid hnx
          clear hnx
          go_wp2
          go_roundw
          case rel => exact ⟨i' + 1, u, by omega, by go_num, HNX⟩
          case measure => simp [intOf]; omega
    · obtain rfl : i' = R := by omega
      have hnx := hinv.out
      rw [pre_tab] at hnx
      have hwf := tab_wf (r := i') (c := C) (f := fun i j => prod xs ys K C i j) fun i j _ _ => wrap32_wf _
      have hlen := tab_length i' C fun i j => prod xs ys K C i j
      obtain ⟨cs, hcs⟩ : ∃ cs, tab i' C (fun i j => prod xs ys K C i j) = cs := ⟨_, rfl⟩
      rw [hcs] at hnx hwf hlen
      have HCS := Lib.hid hcs
      obtain ⟨h1, d0, d1, d2, f0, f1, f2⟩ := hnx.b2
      obtain ⟨h3, r0, r1, r2, g0, g1, g2⟩ := hnx.b3
      have hown := hnx.own
      have hbel := hnx.bel
      have hlo := hnx.lt
      have hG := gridV_own (m := i') (n := C) hown (by omega) hwf
      obtain ⟨ua, ucap, hu, hE2, hca, hcb⟩ := hG
      obtain rfl : u = .slice ua cs.length ucap := by simpa using hu
      have hE3 := own_elems_set hown (by omega) hwf (b := w.heap.size + 1 + 1) (by omega) (.int .i64 i') (.int .i64 C) (.slice ua cs.length ucap)
      have hbr := below_res hbel (b := w.heap.size + 1 + 1) (by omega) (.int .i64 i') (.int .i64 C) (.slice ua cs.length ucap)
      clear hinv hnx hcs hown hlen hu hE2
      go_wp2
      exact bodyPost_ret (v := .tuple #[.agg #[.int .i64 i', .int .i64 C, .slice ua cs.length ucap], .bool true]) (by simp [results, Try.results28, go_sem, d0, d1, d2]) rfl
        ⟨⟨_, rfl, by rw [HCS.out]; exact ⟨ua, ucap, rfl, hE3, hca, hcb⟩⟩, hbr⟩

end Go.Proofs.Ytkiedganojaniaa
