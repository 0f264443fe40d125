import Derived.Test.YtoeihigdndkjeaaGreatDoorP29
import Derived.Test.YtoeihigdndkjeaaGreatDoorJ04
import Derived.Test.YtoeihigdndkjeaaGreatDoorJ12
import Derived.IntWalk
import Derived.Test.YtoeihigdndkjeaaGreatDoorP22
import Derived.Test.YtoeihigdndkjeaaGreatDoorP28
import Derived.Test.YtoeihigdndkjeaaGreatDoorP24
/-
  The document's Grown: the numbers that grow out of a seed.
-/
namespace Go.Proofs.YtoeihigdndkjeaaGreatDoor
open Go.RowKit
set_option linter.unusedVariables false

set_option maxHeartbeats 3200000 in
set_option maxRecDepth 100000 in
theorem doc_grown (s : Sz) (ok : s.Ok) (x : Nat) (hx : x < 18446744073709551616) (w : World) :
    Calls Tryz.prog 40 #[s.val, .int .u64 x] w fun e w' => (∃ v, e = .returned v ∧ w'.ownsRow w.heap.size 64 1 v (cnt s) ((grownL s x).map (.int .i8))) ∧ Below w.heap.size w w' := by
  have rw7 := fun W => doc_rows s ok W
  have hl := ok.bd.1
  have HOK := Lib.hid ok
  have HX := Lib.hid hx
  clear ok hx
  unfold Sz.val at rw7 ⊢
  go_enter Tryz.func40, Tryz.ntmps40
  go_wp2_with fail
  refine (rw7 _).mono ?_
  rintro e wa ⟨⟨ra, rcap, rfl, hR⟩, hb0⟩
  have hb := ((Below.refl w.heap.size w).alloc (Nat.le_refl _) (.cells #[.int .i64 s.l, .int .i64 s.w, .int .i64 s.h, .int .i64 s.i, .int .i64 s.v, .int .i64 s.p] 45)).trans (hb0.mono (by simp))
  obtain ⟨hlen, b, rfl, hblt, hat⟩ := hR
  have HAT := Lib.hid hat
  have HB := Lib.hid hb
  clear hb0 hb hlen hat rw7
  have O0 : Hid (off7 s 0 = 0) := Lib.hid rfl
  have OE : Hid (off7 s (8 * s.l + 3) = cnt s) := Lib.hid (off7_end s)
  have CL := Lib.hid (cnt_le HOK.out)
  have G0 : Hid ((List.range 0).map (grownF s x) = []) := Lib.hid rfl
  go_wp2_with fail
  go_loopw [5, 7, 8] (fun v y j' wr => ∃ (j q : Nat), j ≤ 8 * s.l + 3 ∧ j' = .int .i64 j ∧ y = .int .u64 q ∧ Hid (q = seedK x (off7 s j)) ∧ Hid (wr.ownsRow wa.heap.size 64 1 v (off7 s j) (((List.range (off7 s j)).map (grownF s x)).map (.int .i8))) ∧ Hid (Below wa.heap.size wa wr)) (fun _ _ j' _ => 8 * s.l + 3 - (intOf j').toNat)
  case atStart => exact ⟨0, x, by omega, rfl, rfl, Lib.hid rfl, Lib.hid (own_nil _ _ _), Lib.hid (Below.refl _ _)⟩
  case round =>
    obtain ⟨j, q, hj, rfl, rfl, hq, hown, hbel⟩ := hrel
    by_cases hlt : j < 8 * s.l + 3
    · obtain ⟨c0, c1⟩ := HAT.out j hlt
      have hsuc := Lib.hid (off7_succ s j hlt)
      have hgj := Lib.hid (fun i hi => gainK_at (rowsL s) j i (by rw [rowsL_len]; exact hlt) hi)
      have hlto := Lib.hid (fun i hi => off7_lt s j i hlt hi)
      have hN : ((rowsL s).getD j default).2 ≤ 2232448 := by
        rcases Nat.eq_zero_or_pos ((rowsL s).getD j default).2 with h0 | h0
        · omega
        · have h1 := hlto.out (((rowsL s).getD j default).2 - 1) (by show _ < ((rowsL s).getD j default).2; omega)
          have h2 := CL.out
          omega
      have hsuc2 : Hid (off7 s (j + 1) = off7 s j + ((rowsL s).getD j default).2) := Lib.hid hsuc.out
      have hlto2 : Hid (∀ i, i < ((rowsL s).getD j default).2 → off7 s j + i < cnt s) := Lib.hid hlto.out
      have hgj2 : Hid (∀ i, i < ((rowsL s).getD j default).2 → gainK (rowsL s) (off7 s j + i) = ((rowsL s).getD j default).1) := Lib.hid hgj.out
      clear hsuc hlto hgj
      generalize ((rowsL s).getD j default).2 = N at *
      generalize ((rowsL s).getD j default).1 = GA at *
      have C01 := Lib.hid (And.intro c0 c1)
      clear c0 c1
      have j1 : (j : Int) < 8 * (s.l : Int) + 3 := by omega
      go_wp2_with fail
      go_loopw [5, 7, 9, 10] (fun v y i' n' wr' => ∃ (i q' : Nat), i ≤ N ∧ i' = .int .i64 i ∧ y = .int .u64 q' ∧ Hid (q' = seedK x (off7 s j + i)) ∧ Hid (wr'.ownsRow wa.heap.size 64 1 v (off7 s j + i) (((List.range (off7 s j + i)).map (grownF s x)).map (.int .i8))) ∧ Hid (Below wa.heap.size wa wr')) (fun _ _ i' _ _ => N - (intOf i').toNat)
      case atStart => exact ⟨0, q, by omega, rfl, rfl, hq, hown, hbel⟩
      case round =>
        obtain ⟨i, y, hi, rfl, rfl, hY, hown2, hbel2⟩ := hrel
        have c0 : wr.cell? ⟨b, j * 2, none⟩ = some (.bool GA) := (hbel2.out.cell (p := ⟨b, j * 2, none⟩) hblt).trans C01.out.1
        have c1 : wr.cell? ⟨b, j * 2 + 1, none⟩ = some (.int .i64 (N : Nat)) := (hbel2.out.cell (p := ⟨b, j * 2 + 1, none⟩) hblt).trans C01.out.2
        by_cases hlt2 : i < N
        · have hz : nxt y < 18446744073709551616 := nxt_lt y
          have hZ : Hid (nxt y = seedK x (off7 s j + (i + 1))) := Lib.hid (by rw [hY.out]; rfl)
          have hNum : Hid (numK GA (nxt y) = grownF s x (off7 s j + i)) := Lib.hid (by unfold grownF; rw [hgj2.out i hlt2, hY.out]; rfl)
          have hbd := numK_bd GA (nxt y) hz
          have hP : off7 s j + i ≤ 16777216 := by have := hlto2.out i hlt2; have := CL.out; omega
          obtain ⟨v2, w2, hrun, ho2, hg2, _⟩ := run_append_lits (P := Tryz.prog) .i8 wr wa.heap.size 24 64 1 (by omega) Tryz.underlying24 info_i8 _ (off7 s j + i) 1 _ [numK GA (nxt y)] #[.int .i8 (numK GA (nxt y))] rfl rfl hown2.out hP (by omega) hbel2.out.size
          have HO : Hid (w2.ownsRow wa.heap.size 64 1 v2 (off7 s j + (i + 1)) (((List.range (off7 s j + (i + 1))).map (grownF s x)).map (.int .i8))) := Lib.hid (by
            rw [← Nat.add_assoc, List.range_succ, List.map_append, List.map_cons, List.map_nil, ← hNum.out]
            exact ho2)
          have HB2 := Lib.hid (hbel2.out.grown hg2 hbel2.out.size (fun k hk => (hown2.out.lt k hk).1))
          have hm1 := mulK_eq y
          have hm2 := addK y
          generalize mulK y = m1 at hm1 hm2
          clear ho2 hg2
          generalize hzz : nxt y = z at *
          clear hzz
          have hb255 : z / 72057594037927936 ≤ 255 := top_le z hz
          obtain ⟨bb, hbb⟩ : ∃ bb : Nat, z / 72057594037927936 = bb := ⟨_, Eq.refl _⟩
          rw [hbb] at hb255
          have hdiv := top_cast _ _ hbb
          have T0 := Lib.hid hbb
          have HBD := Lib.hid hbd
          clear hbb hbd hz
          cases GA with
          | true =>
            obtain ⟨tt, htt⟩ : ∃ tt : Int, ((bb : Int) - 128).tdiv 16 = tt := ⟨_, Eq.refl _⟩
            have htb : numK true z = tt + 16 := by rw [← htt]; exact numK_true _ _ T0.out
            have hbt : -144 ≤ tt ∧ tt ≤ 111 := by have := HBD.out; omega
            rw [htb] at hrun
            have HTB := Lib.hid htb
            clear htb
            go_wp2_with (at_builtin; refine wpList_append_at (by rfl) _ _ _ (by rfl) _ _ (by rfl) (by rfl) hrun ?_)
            clear hrun hm1 hm2 htt
            go_roundw
            case rel => exact ⟨i + 1, z, by omega, by go_num, rfl, hZ, HO, HB2⟩
            case measure => simp [intOf]; omega
          | false =>
            have htb : numK false z = (bb : Int) - 128 := numK_false _ _ T0.out
            rw [htb] at hrun
            clear htb
            go_wp2_with (at_builtin; refine wpList_append_at (by rfl) _ _ _ (by rfl) _ _ (by rfl) (by rfl) hrun ?_)
            clear hrun hm1 hm2
            go_roundw
            case rel => exact ⟨i + 1, z, by omega, by go_num, rfl, hZ, HO, HB2⟩
            case measure => simp [intOf]; omega
        · obtain rfl : i = N := by omega
          have HE : Hid (wr.ownsRow wa.heap.size 64 1 u5 (off7 s (j + 1)) (((List.range (off7 s (j + 1))).map (grownF s x)).map (.int .i8))) := Lib.hid (by rw [hsuc2.out]; exact hown2.out)
          have HY : Hid (y = seedK x (off7 s (j + 1))) := Lib.hid (by rw [hsuc2.out]; exact hY.out)
          go_wp2
          go_roundw
          case rel => exact ⟨j + 1, y, by omega, by go_num, rfl, HY, HE, hbel2⟩
          case measure => simp [intOf]; omega
    · obtain rfl : j = 8 * s.l + 3 := by omega
      have i2 : ¬ (8 * (s.l : Int) + 3 < 8 * (s.l : Int) + 3) := by omega
      have HF : Hid (wr.ownsRow w.heap.size 64 1 u5 (cnt s) ((grownL s x).map (.int .i8))) := Lib.hid (by
        have h := Go.Joins.ownsRow_le hown.out (show w.heap.size ≤ wa.heap.size from HB.out.size)
        rw [OE.out] at h
        exact h)
      have HB3 := Lib.hid (HB.out.trans (hbel.out.mono HB.out.size))
      go_wp2
      go_ret
      exact ⟨⟨_, rfl, HF.out⟩, HB3.out⟩

end Go.Proofs.YtoeihigdndkjeaaGreatDoor

/-
  The document's Made: right weights of a small shape out of raw numbers.
-/
namespace Go.Proofs.YtoeihigdndkjeaaGreatDoor
open Go.RowKit Go.Shelf
set_option linter.unusedVariables false

/-- weights where a block of few cells changes, none of them a number of 8 bits -/
theorem wt_but {w w' : World} {T : Nat} {W : Wt7} {X : TypeId} {cs : Array Value} (h : W.In w) (hX : Box w T X cs) (h8 : No8 cs) (h3 : cs.size ≤ 19) (hg : w.grownBy w' (some T)) : W.In w' := by
  have hb := but_of hg
  obtain ⟨k1, k2, k3, ⟨c1, c2, c3, c4⟩, k5⟩ := h
  refine ⟨gr_but hX h8 hb k1, gr_but hX h8 hb k2, rw_but hX h8 hb k3, ⟨c1, c2, fun b hbm => bk_but hX h8 hb (c3 b hbm), fun hn => ?_⟩, k5⟩
  obtain ⟨gb, off, ha, hlt, hx⟩ := c4 hn
  have hne : gb ≠ T := by
    rintro rfl
    have h9 := hx 0 hn 19 (by decide)
    rw [hX.cell, Array.getElem?_eq_none (by omega)] at h9
    have h8 : (19 : Nat) < (W.bs.getD 0 default).cells.size := (by decide : 19 < 20)
    rw [Array.getElem?_eq_getElem h8] at h9
    cases h9
  refine ⟨gb, off, ha, Nat.lt_of_lt_of_le hlt hg.size, fun i hi k hk => ?_⟩
  rw [World.cell?_of_block (w := w) (a := ⟨gb, off + i * 20 + k, none⟩) (hb gb hlt hne)]
  exact hx i hi k hk
/-- weights of a small shape are answered -/
def MadeW (w : World) (e : Ending) : Prop := ∃ s xs, (Sz.Tiny s ∧ s.p ≤ 12) ∧ OfW s xs w e
theorem tiny_cnt {s : Sz} (h : s.Tiny) : 0 < cnt s ∧ cnt s ≤ 10000 := by
  obtain ⟨ok, h1, h2, h3, h4⟩ := h
  have bd := ok.bd
  have a1 := Nat.mul_le_mul h4 h2
  have a2 := Nat.mul_le_mul h2 h2
  have a3 := Nat.mul_le_mul h3 h2
  have a4 : 1 * 1 ≤ s.v * s.w := Nat.mul_le_mul (by omega) (by omega)
  have a5 : s.l * blkN s ≤ 3 * blkN s := Nat.mul_le_mul_right _ h1
  have a6 : blkN s = 2 * s.w + 4 * (s.w * s.w) + 2 * (s.i * s.w) := rfl
  rw [cnt_blk]
  omega
theorem grownL_wf (s : Sz) (x : Nat) (hx : x < 18446744073709551616) : ∀ y ∈ grownL s x, (Lit.int .i8 y).wf = true := by
  intro y hy
  unfold grownL at hy
  obtain ⟨k, _, rfl⟩ := List.mem_map.1 hy
  exact numK_wf _ _ (seedK_lt x hx _)

end Go.Proofs.YtoeihigdndkjeaaGreatDoor

/-
  A model of a small shape, and its weights, as the statements of stage 9 make them.
-/
namespace Go.Proofs.YtoeihigdndkjeaaGreatDoor
open Go.RowKit Go.Shelf
set_option linter.unusedVariables false

/-- a model where a block of few cells changes -/
theorem mod_but {w w' : World} {m T : Nat} {s : Sz} {W : Wt7} {X : TypeId} {cs : Array Value} (h : ModAt w m s W) (hX : Box w T X cs) (h8 : No8 cs) (h3 : cs.size ≤ 19) (hne : X ≠ 94) (hg : w.grownBy w' (some T)) : ModAt w' m s W :=
  ⟨h.box.kept hg (by simpa using box_ne8 h.box hX hne.symm), wt_but h.inn hX h8 h3 hg, h.l, h.w, h.h, h.i, h.v, h.p, h.whole⟩
/-- weights' sides are the shape's -/
def SixW (s : Sz) (W : Wt7) : Prop := W.l = s.l ∧ W.w = s.w ∧ W.h = s.h ∧ W.i = s.i ∧ W.v = s.v ∧ W.p = s.p
/-- a model m of right weights W of a small shape s -/
structure MadeM (w : World) (m : Nat) (s : Sz) (W V : Wt7) : Prop where
  tiny : s.Tiny
  p12 : s.p ≤ 12
  inn : W.In w
  six : SixW s W
  whole : wtB s W = true
  mod : ModAt w m s V
  same : V.nums s = W.nums s
theorem MadeM.bel {w w' : World} {m : Nat} {s : Sz} {W V : Wt7} (h : MadeM w m s W V) (hb : Below w.heap.size w w') : MadeM w' m s W V := ⟨h.tiny, h.p12, h.inn.bel hb, h.six, h.whole, h.mod.bel hb, h.same⟩
theorem MadeM.cells {w : World} {m n : Nat} {s : Sz} {W V : Wt7} {T : TypeId} (h : MadeM w m s W V) {w' : World} (hX : Box w' n T W.cells) :
    w'.cell? ⟨n, 0, none⟩ = some (.int .i64 s.l) ∧ w'.cell? ⟨n, 1, none⟩ = some (.int .i64 s.w) ∧ w'.cell? ⟨n, 2, none⟩ = some (.int .i64 s.h) ∧ w'.cell? ⟨n, 3, none⟩ = some (.int .i64 s.i) ∧ w'.cell? ⟨n, 4, none⟩ = some (.int .i64 s.v) ∧ w'.cell? ⟨n, 5, none⟩ = some (.int .i64 s.p) := by
  obtain ⟨e0, e1, e2, e3, e4, e5⟩ := h.six
  refine ⟨?_, ?_, ?_, ?_, ?_, ?_⟩
  · rw [hX.cell 0, ← e0]; rfl
  · rw [hX.cell 1, ← e1]; rfl
  · rw [hX.cell 2, ← e2]; rfl
  · rw [hX.cell 3, ← e3]; rfl
  · rw [hX.cell 4, ← e4]; rfl
  · rw [hX.cell 5, ← e5]; rfl
/-- a number brought into 1 .. m -/
theorem brought (x : Int) (m : Nat) (hm : 0 < m) (h9 : m ≤ 1000) : -(m : Int) ≤ x.tmod m ∧ x.tmod m ≤ m ∧ ∃ a : Nat, 1 ≤ a ∧ a ≤ m ∧ wrap64 (1 + x.tmod m % m) = (a : Int) := by
  have h1 : (x.tmod m).natAbs < m := by
    have := Int.natAbs_tmod x m
    rw [this, Int.natAbs_natCast]
    exact Nat.mod_lt _ hm
  have h4 := Int.emod_nonneg (x.tmod m) (show (m : Int) ≠ 0 by omega)
  have h5 := Int.emod_lt_of_pos (x.tmod m) (show 0 < (m : Int) by omega)
  refine ⟨by omega, by omega, (1 + x.tmod m % m).toNat, by omega, by omega, ?_⟩
  generalize x.tmod m % m = r at *
  unfold wrap64
  omega
def Makes9 (w0 w : World) (e : Ending) : Prop := ∃ m s W V, e = .returned (.tuple #[.pointer (some ⟨m, 0, none⟩), .agg W.cells]) ∧ w0.heap.size ≤ m ∧ MadeM w m s W V

end Go.Proofs.YtoeihigdndkjeaaGreatDoor
