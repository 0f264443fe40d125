import Derived.Test.YtoeihigdndkjeaaGreatDoorJ29
import Derived.Test.YtoeihigdndkjeaaGreatDoorJ04
import Derived.Test.YtoeihigdndkjeaaGreatDoorJ12
import Derived.IntWalk
import Derived.Test.YtoeihigdndkjeaaGreatDoorJ22
import Derived.Test.YtoeihigdndkjeaaGreatDoorJ28
import Derived.Test.YtoeihigdndkjeaaGreatDoorJ24
/-
  The document's Grown: the numbers that grow out of a seed.
-/
namespace Go.Proofs.YtoeihigdndkjeaaGreatDoor
open Go.RowKit
set_option linter.unusedVariables false

set_option maxHeartbeats 3200000 in
set_option maxRecDepth 100000 in
theorem doc_grown (s : Sz) (ok : s.Ok) (x : Nat) (hx : x < 18446744073709551616) (w : World) :
    Calls Tryz.prog 40 #[s.val, .int .u64 x] w fun e w' => (∃ v, e = .returned v ∧ w'.ownsRow w.heap.size 64 1 v (cnt s) ((grownL s x).map (.int .i8))) ∧ Below w.heap.size w w' := by
  have rw7 := fun W => doc_rows s ok W
  have hl := ok.bd.1
  have HOK := Lib.hid ok
  have HX := Lib.hid hx
  clear ok hx
  unfold Sz.val at rw7 ⊢
  go_enter Tryz.func40, Tryz.ntmps40
  go_wp2_with fail
  refine (rw7 _).mono ?_
  rintro e wa ⟨⟨ra, rcap, rfl, hR⟩, hb0⟩
  have hb := ((Below.refl w.heap.size w).alloc (Nat.le_refl _) (.cells #[.int .i64 s.l, .int .i64 s.w, .int .i64 s.h, .int .i64 s.i, .int .i64 s.v, .int .i64 s.p] 45)).trans (hb0.mono (by simp))
  obtain ⟨hlen, b, rfl, hblt, hat⟩ := hR
  have HAT := Lib.hid hat
  have HB := Lib.hid hb
  clear hb0 hb hlen hat rw7
  have O0 : Hid (off7 s 0 = 0) := Lib.hid rfl
  have OE : Hid (off7 s (8 * s.l + 3) = cnt s) := Lib.hid (off7_end s)
  have CL := Lib.hid (cnt_le HOK.out)
  have G0 : Hid ((List.range 0).map (grownF s x) = []) := Lib.hid rfl
  go_wp2_with fail
  go_loopw [5, 7, 8] (fun v y j' wr => ∃ (j q : Nat), j ≤ 8 * s.l + 3 ∧ j' = .int .i64 j ∧ y = .int .u64 q ∧ Hid (q = seedK x (off7 s j)) ∧ Hid (wr.ownsRow wa.heap.size 64 1 v (off7 s j) (((List.range (off7 s j)).map (grownF s x)).map (.int .i8))) ∧ Hid (Below wa.heap.size wa wr)) (fun _ _ j' _ => 8 * s.l + 3 - (intOf j').toNat)
  case atStart => exact ⟨0, x, by omega, rfl, rfl, Lib.hid rfl, Lib.hid (own_nil _ _ _), Lib.hid (Below.refl _ _)⟩
  case round =>
    obtain ⟨j, q, hj, rfl, rfl, hq, hown, hbel⟩ := hrel
    by_cases hlt : j < 8 * s.l + 3
    · obtain ⟨c0, c1⟩ := HAT.out j hlt
      have hsuc := Lib.hid (off7_succ s j hlt)
      have hgj := Lib.hid (fun i hi => gainK_at (rowsL s) j i (by rw [rowsL_len]; exact hlt) hi)
      have hlto := Lib.hid (fun i hi => off7_lt s j i hlt hi)
      have hN : ((rowsL s).getD j default).2 ≤ 2232448 := by
        rcases Nat.eq_zero_or_pos ((rowsL s).getD j default).2 with h0 | h0
        · omega
        · have h1 := hlto.out (((rowsL s).getD j default).2 - 1) (by show _ < ((rowsL s).getD j default).2; omega)
          have h2 := CL.out
          omega
      have hsuc2 : Hid (off7 s (j + 1) = off7 s j + ((rowsL s).getD j default).2) := Lib.hid hsuc.out
      have hlto2 : Hid (∀ i, i < ((rowsL s).getD j default).2 → off7 s j + i < cnt s) := Lib.hid hlto.out
      have hgj2 : Hid (∀ i, i < ((rowsL s).getD j default).2 → gainK (rowsL s) (off7 s j + i) = ((rowsL s).getD j default).1) := Lib.hid hgj.out
      clear hsuc hlto hgj
      generalize ((rowsL s).getD j default).2 = N at *
      generalize ((rowsL s).getD j default).1 = GA at *
      have C01 := Lib.hid (And.intro c0 c1)
      clear c0 c1
      have j1 : (j : Int) < 8 * (s.l : Int) + 3 := by omega
      go_wp2_with fail
      go_loopw [5, 7, 9, 10] (fun v y i' n' wr' => ∃ (i q' : Nat), i ≤ N ∧ i' = .int .i64 i ∧ y = .int .u64 q' ∧ Hid (q' = seedK x (off7 s j + i)) ∧ Hid (wr'.ownsRow wa.heap.size 64 1 v (off7 s j + i) (((List.range (off7 s j + i)).map (grownF s x)).map (.int .i8))) ∧ Hid (Below wa.heap.size wa wr')) (fun _ _ i' _ _ => N - (intOf i').toNat)
      case atStart => exact ⟨0, q, by omega, rfl, rfl, hq, hown, hbel⟩
      case round =>
        obtain ⟨i, y, hi, rfl, rfl, hY, hown2, hbel2⟩ := hrel
        have c0 : wr.cell? ⟨b, j * 2, none⟩ = some (.bool GA) := (hbel2.out.cell (p := ⟨b, j * 2, none⟩) hblt).trans C01.out.1
        have c1 : wr.cell? ⟨b, j * 2 + 1, none⟩ = some (.int .i64 (N : Nat)) := (hbel2.out.cell (p := ⟨b, j * 2 + 1, none⟩) hblt).trans C01.out.2
        by_cases hlt2 : i < N
        · have hz : nxt y < 18446744073709551616 := nxt_lt y
          have hZ : Hid (nxt y = seedK x (off7 s j + (i + 1))) := Lib.hid (by rw [hY.out]; rfl)
          have hNum : Hid (numK GA (nxt y) = grownF s x (off7 s j + i)) := Lib.hid (by unfold grownF; rw [hgj2.out i hlt2, hY.out]; rfl)
          have hbd := numK_bd GA (nxt y) hz
          have hP : off7 s j + i ≤ 16777216 := by have := hlto2.out i hlt2; have := CL.out; omega
          obtain ⟨v2, w2, hrun, ho2, hg2, _⟩ := run_append_lits (P := Tryz.prog) .i8 wr wa.heap.size 24 64 1 (by omega) Tryz.underlying24 info_i8 _ (off7 s j + i) 1 _ [numK GA (nxt y)] #[.int .i8 (numK GA (nxt y))] rfl rfl hown2.out hP (by omega) hbel2.out.size
          have HO : Hid (w2.ownsRow wa.heap.size 64 1 v2 (off7 s j + (i + 1)) (((List.range (off7 s j + (i + 1))).map (grownF s x)).map (.int .i8))) := Lib.hid (by
            rw [← Nat.add_assoc, List.range_succ, List.map_append, List.map_cons, List.map_nil, ← hNum.out]
            exact ho2)
          have HB2 := Lib.hid (hbel2.out.grown hg2 hbel2.out.size (fun k hk => (hown2.out.lt k hk).1))
          have hm1 := mulK_eq y
          have hm2 := addK y
          generalize mulK y = m1 at hm1 hm2
          clear ho2 hg2
          generalize hzz : nxt y = z at *
          clear hzz
          have hb255 : z / 72057594037927936 ≤ 255 := top_le z hz
          obtain ⟨bb, hbb⟩ : ∃ bb : Nat, z / 72057594037927936 = bb := ⟨_, Eq.refl _⟩
          rw [hbb] at hb255
          have hdiv := top_cast _ _ hbb
          have T0 := Lib.hid hbb
          have HBD := Lib.hid hbd
          clear hbb hbd hz
          cases GA with
          | true =>
            obtain ⟨tt, htt⟩ : ∃ tt : Int, ((bb : Int) - 128).tdiv 16 = tt := ⟨_, Eq.refl _⟩
            have htb : numK true z = tt + 16 := by rw [← htt]; exact numK_true _ _ T0.out
            have hbt : -144 ≤ tt ∧ tt ≤ 111 := by have := HBD.out; omega
            rw [htb] at hrun
            have HTB := Lib.hid htb
            clear htb
            go_wp2_with (at_builtin; refine wpList_append_at (by rfl) _ _ _ (by rfl) _ _ (by rfl) (by rfl) hrun ?_)
            clear hrun hm1 hm2 htt
            go_roundw
            case rel => exact ⟨i + 1, z, by omega, by go_num, rfl, hZ, HO, HB2⟩
            case measure => simp [intOf]; omega
          | false =>
            have htb : numK false z = (bb : Int) - 128 := numK_false _ _ T0.out
            rw [htb] at hrun
            clear htb
            go_wp2_with (at_builtin; refine wpList_append_at (by rfl) _ _ _ (by rfl) _ _ (by rfl) (by rfl) hrun ?_)
            clear hrun hm1 hm2
            go_roundw
            case rel => exact ⟨i + 1, z, by omega, by go_num, rfl, hZ, HO, HB2⟩
            case measure => simp [intOf]; omega
        · obtain rfl : i = N := by omega
          have HE : Hid (wr.ownsRow wa.heap.size 64 1 u5 (off7 s (j + 1)) (((List.range (off7 s (j + 1))).map (grownF s x)).map (.int .i8))) := Lib.hid (by rw [hsuc2.out]; exact hown2.out)
          have HY : Hid (y = seedK x (off7 s (j + 1))) := Lib.hid (by rw [hsuc2.out]; exact hY.out)
          go_wp2
          go_roundw
          case rel => exact ⟨j + 1, y, by omega, by go_num, rfl, HY, HE, hbel2⟩
          case measure => simp [intOf]; omega
    · obtain rfl : j = 8 * s.l + 3 := by omega
      have i2 : ¬ (8 * (s.l : Int) + 3 < 8 * (s.l : Int) + 3) := by omega
      have HF : Hid (wr.ownsRow w.heap.size 64 1 u5 (cnt s) ((grownL s x).map (.int .i8))) := Lib.hid (by
        have h := Go.Joins.ownsRow_le hown.out (show w.heap.size ≤ wa.heap.size from HB.out.size)
        rw [OE.out] at h
        exact h)
      have HB3 := Lib.hid (HB.out.trans (hbel.out.mono HB.out.size))
      go_wp2
      go_ret
      exact ⟨⟨_, rfl, HF.out⟩, HB3.out⟩

end Go.Proofs.YtoeihigdndkjeaaGreatDoor

/-
  The document's Made: right weights of a small shape out of raw numbers.
-/
namespace Go.Proofs.YtoeihigdndkjeaaGreatDoor
open Go.RowKit Go.Shelf
set_option linter.unusedVariables false

/-- weights where a block of few cells changes, none of them a number of 8 bits -/
theorem wt_but {w w' : World} {T : Nat} {W : Wt7} {X : TypeId} {cs : Array Value} (h : W.In w) (hX : Box w T X cs) (h8 : No8 cs) (h3 : cs.size ≤ 19) (hg : w.grownBy w' (some T)) : W.In w' := by
  have hb := but_of hg
  obtain ⟨k1, k2, k3, ⟨c1, c2, c3, c4⟩, k5⟩ := h
  refine ⟨gr_but hX h8 hb k1, gr_but hX h8 hb k2, rw_but hX h8 hb k3, ⟨c1, c2, fun b hbm => bk_but hX h8 hb (c3 b hbm), fun hn => ?_⟩, k5⟩
  obtain ⟨gb, off, ha, hlt, hx⟩ := c4 hn
  have hne : gb ≠ T := by
    rintro rfl
    have h9 := hx 0 hn 19 (by decide)
    rw [hX.cell, Array.getElem?_eq_none (by omega)] at h9
    have h8 : (19 : Nat) < (W.bs.getD 0 default).cells.size := (by decide : 19 < 20)
    rw [Array.getElem?_eq_getElem h8] at h9
    cases h9
  refine ⟨gb, off, ha, Nat.lt_of_lt_of_le hlt hg.size, fun i hi k hk => ?_⟩
  rw [World.cell?_of_block (w := w) (a := ⟨gb, off + i * 20 + k, none⟩) (hb gb hlt hne)]
  exact hx i hi k hk
/-- weights of a small shape are answered -/
def MadeW (w : World) (e : Ending) : Prop := ∃ s xs, (Sz.Tiny s ∧ s.p ≤ 12) ∧ OfW s xs w e
theorem tiny_cnt {s : Sz} (h : s.Tiny) : 0 < cnt s ∧ cnt s ≤ 10000 := by
  obtain ⟨ok, h1, h2, h3, h4⟩ := h
  have bd := ok.bd
  have a1 := Nat.mul_le_mul h4 h2
  have a2 := Nat.mul_le_mul h2 h2
  have a3 := Nat.mul_le_mul h3 h2
  have a4 : 1 * 1 ≤ s.v * s.w := Nat.mul_le_mul (by omega) (by omega)
  have a5 : s.l * blkN s ≤ 3 * blkN s := Nat.mul_le_mul_right _ h1
  have a6 : blkN s = 2 * s.w + 4 * (s.w * s.w) + 2 * (s.i * s.w) := rfl
  rw [cnt_blk]
  omega
theorem grownL_wf (s : Sz) (x : Nat) (hx : x < 18446744073709551616) : ∀ y ∈ grownL s x, (Lit.int .i8 y).wf = true := by
  intro y hy
  unfold grownL at hy
  obtain ⟨k, _, rfl⟩ := List.mem_map.1 hy
  exact numK_wf _ _ (seedK_lt x hx _)

set_option maxHeartbeats 8000000 in
set_option maxRecDepth 100000 in
theorem made_doc (x0 x1 x2 x3 x4 x5 : Int) (sd : Nat) (hsd : sd < 18446744073709551616) (q : Rw) (w : World) (hq : q.In .i8 w) (hn : q.n ≤ 2000) :
    Calls Tryz.prog 17 #[.agg #[.int .i64 x0, .int .i64 x1, .int .i64 x2, .int .i64 x3, .int .i64 x4, .int .i64 x5], .int .u64 sd, .slice q.a q.n q.cap] w fun e w' => MadeW w' e ∧ Below w.heap.size w w' := by
  obtain ⟨qa, qn, qcap, qv⟩ := q
  have HQ : Hid (Elems .i8 w qa qn qv) := Lib.hid hq.1
  have hn : qn ≤ 2000 := hn
  have cT : ∀ W, Calls Tryz.prog 39 #[.agg #[.int .i64 x0, .int .i64 x1, .int .i64 x2, .int .i64 x3, .int .i64 x4, .int .i64 x5]] W fun e w' => (∃ s : Sz, (s.Tiny ∧ s.p ≤ 12) ∧ e = .returned (.agg #[.int .i64 s.l, .int .i64 s.w, .int .i64 s.h, .int .i64 s.i, .int .i64 s.v, .int .i64 s.p])) ∧ Below W.heap.size W w' := fun W => tiny_any2 x0 x1 x2 x3 x4 x5 W
  have cG : ∀ (s : Sz), s.Ok → ∀ W, Calls Tryz.prog 40 #[.agg #[.int .i64 s.l, .int .i64 s.w, .int .i64 s.h, .int .i64 s.i, .int .i64 s.v, .int .i64 s.p], .int .u64 sd] W fun e w' => (∃ v, e = .returned v ∧ w'.ownsRow W.heap.size 64 1 v (cnt s) ((grownL s sd).map (.int .i8))) ∧ Below W.heap.size W w' := fun s ok W => doc_grown s ok sd hsd W
  have HSD := Lib.hid hsd
  clear hq hsd
  go_enter Tryz.func17, Tryz.ntmps17
  go_upto_region 1 with (fail)
  generalize hwa : World.alloc _ _ = wa
  have XN : Box wa w.heap.size 22 #[.int .i64 x0, .int .i64 x1, .int .i64 x2, .int .i64 x3, .int .i64 x4, .int .i64 x5] := by rw [← hwa]; exact (box_new _ _ _).alloc _
  have RZ : Box wa (w.heap.size + 1) 50 zwts := by rw [← hwa]; exact box_at (by simp) _ _
  have HB : Below w.heap.size w wa := by rw [← hwa]; exact ((Below.refl _ _).alloc (Nat.le_refl _) _).alloc (by simp) _
  clear hwa
  obtain ⟨z0, z1, z2, z3, z4, z5⟩ := XN.cells6
  have HRZ := Lib.hid RZ
  have HBA := Lib.hid HB
  clear XN RZ HB
  go_wp2_with fail
  refine (cT _).mono ?_
  rintro e w1 ⟨⟨s, hs, rfl⟩, hb⟩
  have HRZ1 := Lib.hid (HRZ.out.bel hb)
  have HB1 := Lib.hid (below_two HBA.out hb)
  have HS := Lib.hid hs
  have cG1 := cG s hs.1.1
  clear cT cG z0 z1 z2 z3 z4 z5 HRZ HBA hb hs
  go_upto_region 2 with (fail)
  generalize hw2 : World.alloc w1 _ = w2
  have SH : Box w2 w1.heap.size 45 #[.int .i64 s.l, .int .i64 s.w, .int .i64 s.h, .int .i64 s.i, .int .i64 s.v, .int .i64 s.p] := by rw [← hw2]; exact box_new _ _ _
  have RZ2 : Box w2 (w.heap.size + 1) 50 zwts := by rw [← hw2]; exact HRZ1.out.alloc _
  have HB2 : Below w.heap.size w w2 := by rw [← hw2]; exact HB1.out.alloc HB1.out.size _
  obtain ⟨n1, hn1⟩ : ∃ n1, w1.heap.size = n1 := ⟨_, rfl⟩
  have hn01 : w.heap.size ≤ n1 := by rw [← hn1]; exact HB1.out.size
  have hn02 : w.heap.size + 1 < n1 := by rw [← hn1]; exact HRZ1.out.lt
  rw [hn1] at SH ⊢
  clear hw2 HRZ1 HB1 hn1
  obtain ⟨z0, z1, z2, z3, z4, z5⟩ := SH.cells6
  have hn12 := SH.lt
  have HSH := Lib.hid SH
  have HRZ2 := Lib.hid RZ2
  have HBB2 := Lib.hid HB2
  clear SH RZ2 HB2
  go_wp2_with fail
  refine (cG1 _).mono ?_
  rintro e w3 ⟨⟨v, rfl, hown⟩, hb⟩
  have hwf := grownL_wf s sd HSD.out
  obtain ⟨c1, c2⟩ := tiny_cnt HS.out.1
  obtain ⟨n, hcn⟩ : ∃ n, cnt s = n := ⟨_, rfl⟩
  rw [hcn] at hown c1 c2
  obtain ⟨a, cap, rfl, hE, hc1, hc2, -, hc4⟩ := own_lies hown hwf (by omega)
  obtain ⟨g, rfl⟩ := hc4 c1
  have HCN := Lib.hid hcn
  have HO : Hid (w3.ownsRow (n1 + 1) 64 1 (.slice (some ⟨g, 0, none⟩) n cap) n ((grownL s sd).map (.int .i8))) := Lib.hid (Go.Joins.ownsRow_le hown hn12)
  have HWF := Lib.hid hwf
  have HSH3 := Lib.hid (HSH.out.bel hb)
  have HRZ3 := Lib.hid (HRZ2.out.bel hb)
  have HB3 := Lib.hid (below_two HBB2.out hb)
  clear hcn hown hE hc4 hwf hb z0 z1 z2 z3 z4 z5 HSH HRZ2 HBB2 cG1
  go_wp2_with fail
  go_loopw [9] (fun i wr => ∃ (k : Nat) (xs : List Int), k ≤ n ∧ i = .int .i64 k ∧ Hid (wr.ownsRow (n1 + 1) 64 1 (.slice (some ⟨g, 0, none⟩) n cap) n (xs.map (.int .i8))) ∧ Hid (∀ y ∈ xs, (Lit.int .i8 y).wf = true) ∧ Hid (Box wr n1 45 #[.int .i64 s.l, .int .i64 s.w, .int .i64 s.h, .int .i64 s.i, .int .i64 s.v, .int .i64 s.p]) ∧ Hid (Box wr (w.heap.size + 1) 50 zwts) ∧ Hid (Below w.heap.size w wr)) (fun i _ => n - (intOf i).toNat)
  case atStart => exact ⟨0, _, by omega, rfl, HO, HWF, HSH3, HRZ3, HB3⟩
  case round =>
    clear HO HWF HSH3 HRZ3 HB3
    obtain ⟨k, xs, hk, rfl, hO, hW, hS, hR, hB⟩ := hrel
    have hg1 : n1 + 1 ≤ g := (hO.out.lt g rfl).1
    by_cases hlt : k < n ∧ k < qn
    · obtain ⟨hl1, hl2⟩ := hlt
      obtain ⟨bb, off, t, rfl, hc, HT, hw⟩ := (HQ.out.below hB.out).at_ hl2
      have hxl : xs.length = n := by have := hO.out.1; simpa using this
      have y0 : wr.cell? ⟨g, k, none⟩ = some (.int .i8 (xs.getD k 0)) := by
        have := hO.out.cellAt k (by omega)
        rw [this, List.getElem?_map, List.getD_eq_getElem?_getD, List.getElem?_eq_getElem (by omega)]
        rfl
      have yf := hO.out.frozenAt k
      have HO2 : Hid ((wr.setCell ⟨g, k, none⟩ (.int .i8 t)).ownsRow (n1 + 1) 64 1 (.slice (some ⟨g, 0, none⟩) n cap) n ((xs.set k t).map (.int .i8))) := Lib.hid (own_store hO.out k t)
      have HW2 : Hid (∀ y ∈ xs.set k t, (Lit.int .i8 y).wf = true) := Lib.hid (set_wf hW.out k hw)
      have HS2 : Hid (Box (wr.setCell ⟨g, k, none⟩ (.int .i8 t)) n1 45 #[.int .i64 s.l, .int .i64 s.w, .int .i64 s.h, .int .i64 s.i, .int .i64 s.v, .int .i64 s.p]) := Lib.hid (hS.out.other _ (by omega))
      have HR2 : Hid (Box (wr.setCell ⟨g, k, none⟩ (.int .i8 t)) (w.heap.size + 1) 50 zwts) := Lib.hid (hR.out.other _ (by omega))
      have HB4 : Hid (Below w.heap.size w (wr.setCell ⟨g, k, none⟩ (.int .i8 t))) := Lib.hid (hB.out.setCell (by show w.heap.size ≤ g; omega) _)
      clear hO hW hS hR hB hxl hw
      go_wp2
      go_roundw
      case rel => exact ⟨k + 1, _, by omega, by go_num, HO2, HW2, HS2, HR2, HB4⟩
      case measure => simp [intOf]; omega
    · obtain ⟨a, cap2, hv, hE, hc1, hc2, -, -⟩ := own_lies hO.out hW.out (by omega)
      cases hv
      have cO := of8 s HS.out.1.1 g 0 n cap xs wr hE HCN.out.symm hc1 hc2 (by omega)
      unfold Sz.val shv at cO
      obtain ⟨z0, z1, z2, z3, z4, z5⟩ := hS.out.cells6
      have HE := Lib.hid hE
      clear hE hO hW
      have hcase : (k = n) ∨ (k < n ∧ ¬ k < qn) := by omega
      clear hlt
      rcases hcase with rfl | ⟨hl1, hl2⟩
      all_goals
        go_wp2_with fail
        refine cO.mono ?_
        rintro e w4 ⟨⟨W, rfl, hin, h6, hwt, hnu⟩, hb⟩
        have RZ4 := hR.out.bel hb
        have HF : Hid (W.In w4 ∧ (W.l = s.l ∧ W.w = s.w ∧ W.h = s.h ∧ W.i = s.i ∧ W.v = s.v ∧ W.p = s.p) ∧ wtB s W = true ∧ W.nums s = wnOf s xs) := Lib.hid ⟨hin, h6, hwt, hnu⟩
        have HB4 := Lib.hid (below_two hB.out hb)
        clear hin h6 hwt hnu hb z0 z1 z2 z3 z4 z5 cO HE hR hB hS
        unfold zwts at RZ4
        go_wp2_with (refine wpList_store_row (o := ⟨none, .store _ _ _, _, _, _, _⟩) rfl 50 _ _ rfl (w.heap.size + 1) W.cells rfl rfl 50 _ RZ4 (by kernel_rfl) rfl (by simp [Wt7.cells, Value.oneCell']) ?_)
        have X2 := RZ4.setRow (cs' := W.cells)
        have hB5 := below_setRow (cs := W.cells) HB4.out (g := w.heap.size + 1) (by omega) HB4.out.size
        have hin2 := wt_but HF.out.1 RZ4 (no8_of (by simp)) (by simp) (grownBy_setRow w4 (w.heap.size + 1) W.cells)
        exact bodyPost_ret (v := .agg W.cells) (results_row rfl rfl X2 Tryz.underlying50 rfl (by kernel_rfl)) rfl ⟨⟨s, xs, HS.out, W, rfl, hin2, HF.out.2⟩, hB5⟩

end Go.Proofs.YtoeihigdndkjeaaGreatDoor

/-
  A model of a small shape, and its weights, as the statements of stage 9 make them.
-/
namespace Go.Proofs.YtoeihigdndkjeaaGreatDoor
open Go.RowKit Go.Shelf
set_option linter.unusedVariables false

theorem results_tmp_cell9 {fn : Func} {p u : Tmp} {ty : TypeId} (h : fn.results = #[.tmp u, .cell p ty]) (tmps : Array Value) (P : Program) (w : World) :
    (results fn tmps).run P w = ((asAddr (tmps.getD p undef)).run P w).andThen fun a w₁ => ((loadVar ty a).run P w₁).andThen fun v w₂ => .ok (.tuple #[tmps.getD u undef, v]) w₂ := by
  simp only [results, h]
  simp [Sem.run_bind, Result.andThen]
theorem results_tmp_row9 {P : Program} {fn : Func} {p u : Tmp} {ty : TypeId} (h : fn.results = #[.tmp u, .cell p ty]) {tmps : Array Value} {w : World} {g : Nat} {T : TypeId} {cs : Array Value} {d : TypeDesc} {v : Value}
    (hv : tmps.getD u undef = v) (hp : tmps.getD p undef = .pointer (some ⟨g, 0, none⟩)) (hg : Box w g T cs) (hu : P.underlying ty = some d) (hd : (match d with | .struct _ | .array _ _ => true | _ => false) = true) (hi : (P.info? ty).map (·.size) = some cs.size) :
    (results fn tmps).run P w = .ok (.tuple #[v, .agg cs]) w := by
  have hl := run_loadVar_row (P := P) w g T ty cs (0, 0) d hg hu hd hi
  rw [results_tmp_cell9 h, hp, hv]
  simp [hl, asAddr]
/-- a model where a block of few cells changes -/
theorem mod_but {w w' : World} {m T : Nat} {s : Sz} {W : Wt7} {X : TypeId} {cs : Array Value} (h : ModAt w m s W) (hX : Box w T X cs) (h8 : No8 cs) (h3 : cs.size ≤ 19) (hne : X ≠ 94) (hg : w.grownBy w' (some T)) : ModAt w' m s W :=
  ⟨h.box.kept hg (by simpa using box_ne8 h.box hX hne.symm), wt_but h.inn hX h8 h3 hg, h.l, h.w, h.h, h.i, h.v, h.p, h.whole⟩
/-- weights' sides are the shape's -/
def SixW (s : Sz) (W : Wt7) : Prop := W.l = s.l ∧ W.w = s.w ∧ W.h = s.h ∧ W.i = s.i ∧ W.v = s.v ∧ W.p = s.p
/-- a model m of right weights W of a small shape s -/
structure MadeM (w : World) (m : Nat) (s : Sz) (W V : Wt7) : Prop where
  tiny : s.Tiny
  p12 : s.p ≤ 12
  inn : W.In w
  six : SixW s W
  whole : wtB s W = true
  mod : ModAt w m s V
  same : V.nums s = W.nums s
theorem MadeM.bel {w w' : World} {m : Nat} {s : Sz} {W V : Wt7} (h : MadeM w m s W V) (hb : Below w.heap.size w w') : MadeM w' m s W V := ⟨h.tiny, h.p12, h.inn.bel hb, h.six, h.whole, h.mod.bel hb, h.same⟩
theorem MadeM.cells {w : World} {m n : Nat} {s : Sz} {W V : Wt7} {T : TypeId} (h : MadeM w m s W V) {w' : World} (hX : Box w' n T W.cells) :
    w'.cell? ⟨n, 0, none⟩ = some (.int .i64 s.l) ∧ w'.cell? ⟨n, 1, none⟩ = some (.int .i64 s.w) ∧ w'.cell? ⟨n, 2, none⟩ = some (.int .i64 s.h) ∧ w'.cell? ⟨n, 3, none⟩ = some (.int .i64 s.i) ∧ w'.cell? ⟨n, 4, none⟩ = some (.int .i64 s.v) ∧ w'.cell? ⟨n, 5, none⟩ = some (.int .i64 s.p) := by
  obtain ⟨e0, e1, e2, e3, e4, e5⟩ := h.six
  refine ⟨?_, ?_, ?_, ?_, ?_, ?_⟩
  · rw [hX.cell 0, ← e0]; rfl
  · rw [hX.cell 1, ← e1]; rfl
  · rw [hX.cell 2, ← e2]; rfl
  · rw [hX.cell 3, ← e3]; rfl
  · rw [hX.cell 4, ← e4]; rfl
  · rw [hX.cell 5, ← e5]; rfl
/-- so much may be generated: more of it, and behind what was said -/
theorem check9_more {v p : Int} {ts : List Int} {a : Int} (h : check9 v p ts 1 = 0) (h1 : 1 ≤ a) (h2 : a ≤ p - ts.length + 1) : check9 v p ts a = 0 := by
  obtain ⟨c1, c2, _, c4, _⟩ := check9_ok h
  unfold check9
  rw [if_neg c1, if_neg (by simp [c2]), if_neg (by omega), if_neg (by omega), if_neg (by omega)]
theorem check9_on {v p : Int} {ts said : List Int} {a : Int} (h : check9 v p ts 1 = 0) (hs : ∀ t ∈ said, 0 ≤ t ∧ t < v) (h1 : 1 ≤ a) (h2 : a ≤ p - (ts.length + said.length) + 1) (h3 : (ts.length : Int) + said.length ≤ p) : check9 v p (ts ++ said) a = 0 := by
  obtain ⟨c1, c2, _, c4, _⟩ := check9_ok h
  have e : (ts ++ said).length = ts.length + said.length := by simp
  have ha : (ts ++ said).any (odd9 v) = false := by
    rw [List.any_append, c2, Bool.false_or, List.any_eq_false]
    intro t ht
    have := hs t ht
    unfold odd9
    simp
    omega
  unfold check9
  rw [e, if_neg (by omega), if_neg (by simp [ha]), if_neg (by omega), if_neg (by omega), if_neg (by omega)]
theorem genL_bd {s : Sz} {W : Wn8} {ts said : List Int} (h : GenL s W ts said) : ∀ t ∈ said, 0 ≤ t ∧ t < s.v := by
  intro t ht
  obtain ⟨i, hi, rfl⟩ := List.getElem_of_mem ht
  obtain ⟨B, e, hB, _⟩ := h i hi
  rw [List.getD_eq_getElem?_getD, List.getElem?_eq_getElem hi] at e
  simp only [Option.getD_some] at e
  rw [e]
  omega
/-- a number brought into 1 .. m -/
theorem brought (x : Int) (m : Nat) (hm : 0 < m) (h9 : m ≤ 1000) : -(m : Int) ≤ x.tmod m ∧ x.tmod m ≤ m ∧ ∃ a : Nat, 1 ≤ a ∧ a ≤ m ∧ wrap64 (1 + x.tmod m % m) = (a : Int) := by
  have h1 : (x.tmod m).natAbs < m := by
    have := Int.natAbs_tmod x m
    rw [this, Int.natAbs_natCast]
    exact Nat.mod_lt _ hm
  have h4 := Int.emod_nonneg (x.tmod m) (show (m : Int) ≠ 0 by omega)
  have h5 := Int.emod_lt_of_pos (x.tmod m) (show 0 < (m : Int) by omega)
  refine ⟨by omega, by omega, (1 + x.tmod m % m).toNat, by omega, by omega, ?_⟩
  generalize x.tmod m % m = r at *
  unfold wrap64
  omega
def Makes9 (w0 w : World) (e : Ending) : Prop := ∃ m s W V, e = .returned (.tuple #[.pointer (some ⟨m, 0, none⟩), .agg W.cells]) ∧ w0.heap.size ≤ m ∧ MadeM w m s W V

set_option maxHeartbeats 8000000 in
set_option maxRecDepth 100000 in
theorem made9 (x0 x1 x2 x3 x4 x5 : Int) (sd : Nat) (hsd : sd < 18446744073709551616) (q : Rw) (w : World) (hq : q.In .i8 w) (hn : q.n ≤ 2000) :
    Calls Tryz.prog 25 #[.agg #[.int .i64 x0, .int .i64 x1, .int .i64 x2, .int .i64 x3, .int .i64 x4, .int .i64 x5, .int .u64 sd, .slice q.a q.n q.cap]] w fun e w' => Makes9 w w' e ∧ Below w.heap.size w w' := by
  have cM : ∀ W, Below w.heap.size w W → Calls Tryz.prog 17 #[.agg #[.int .i64 x0, .int .i64 x1, .int .i64 x2, .int .i64 x3, .int .i64 x4, .int .i64 x5], .int .u64 sd, .slice q.a q.n q.cap] W fun e w' => MadeW w' e ∧ Below W.heap.size W w' := fun W hW => made_doc x0 x1 x2 x3 x4 x5 sd hsd q W (hq.below hW) hn
  clear hq hsd
  go_enter Tryz.func25, Tryz.ntmps25
  go_upto_region 1 with (fail)
  generalize hwa : World.alloc _ _ = wa
  have XN : Box wa w.heap.size 73 #[.int .i64 x0, .int .i64 x1, .int .i64 x2, .int .i64 x3, .int .i64 x4, .int .i64 x5, .int .u64 sd, .slice q.a q.n q.cap] := by rw [← hwa]; exact (box_new _ _ _).alloc _
  have RZ : Box wa (w.heap.size + 1) 50 zwts := by rw [← hwa]; exact box_at (by simp) _ _
  have HB : Below w.heap.size w wa := by rw [← hwa]; exact ((Below.refl _ _).alloc (Nat.le_refl _) _).alloc (by simp) _
  clear hwa
  have z0 : wa.cell? ⟨w.heap.size, 0, none⟩ = some (.int .i64 x0) := XN.cell 0
  have z1 : wa.cell? ⟨w.heap.size, 1, none⟩ = some (.int .i64 x1) := XN.cell 1
  have z2 : wa.cell? ⟨w.heap.size, 2, none⟩ = some (.int .i64 x2) := XN.cell 2
  have z3 : wa.cell? ⟨w.heap.size, 3, none⟩ = some (.int .i64 x3) := XN.cell 3
  have z4 : wa.cell? ⟨w.heap.size, 4, none⟩ = some (.int .i64 x4) := XN.cell 4
  have z5 : wa.cell? ⟨w.heap.size, 5, none⟩ = some (.int .i64 x5) := XN.cell 5
  have z6 : wa.cell? ⟨w.heap.size, 6, none⟩ = some (.int .u64 sd) := XN.cell 6
  have z7 : wa.cell? ⟨w.heap.size, 7, none⟩ = some (.slice q.a q.n q.cap) := XN.cell 7
  have cM1 := cM wa HB
  have HRZ := Lib.hid RZ
  have HBA := Lib.hid HB
  clear XN RZ HB cM
  go_wp2_with fail
  refine cM1.mono ?_
  rintro e w1 ⟨⟨s, xs, hs, W, rfl, hin, h6, hwt, hnu⟩, hb⟩
  have HF : Hid (W.In w1 ∧ SixW s W ∧ wtB s W = true) := Lib.hid ⟨hin, h6, hwt⟩
  have HRZ1 := Lib.hid (HRZ.out.bel hb)
  have HB1 := Lib.hid (below_two HBA.out hb)
  have HS := Lib.hid hs
  clear cM1 HRZ HBA hin h6 hwt hnu hb z0 z1 z2 z3 z4 z5 z6 z7 hs
  go_upto_region 2 with (first
    | (refine wpList_store_row (o := ⟨none, .store _ _ _, _, _, _, _⟩) rfl 50 _ _ rfl w1.heap.size W.cells rfl rfl 50 _ (box_new _ _ _) (by kernel_rfl) rfl (by simp [Wt7.cells, Value.oneCell']) ?_))
  generalize hw2 : World.setRow _ _ _ = w2
  have XW : Box w2 w1.heap.size 50 W.cells := by rw [← hw2]; exact (box_new _ _ _).setRow
  have RZ2 : Box w2 (w.heap.size + 1) 50 zwts := by rw [← hw2]; exact Box.setRow_other (HRZ1.out.alloc _) (by have := HRZ1.out.lt; omega)
  have hbw : Below w1.heap.size w1 w2 := by rw [← hw2]; exact below_setRow ((Below.refl _ _).alloc (Nat.le_refl _) _) (Nat.le_refl _) (by simp)
  have hlt1 := HRZ1.out.lt
  obtain ⟨n2, hn2⟩ : ∃ n2, w1.heap.size = n2 := ⟨_, rfl⟩
  have HB2 := Lib.hid (below_two HB1.out hbw)
  have HIN2 := Lib.hid (HF.out.1.bel hbw)
  rw [hn2] at XW hlt1 ⊢
  have cN := new8 s HS.out.1.1 W w2 HIN2.out HF.out.2.1 HF.out.2.2
  have HXW := Lib.hid XW
  have HRZ2 := Lib.hid RZ2
  clear hw2 RZ2 hbw HRZ1 HB1 hn2
  go_wp2_with (refine wpList_load_row rfl 50 _ rfl n2 rfl 50 _ (0, 0) _ XW Tryz.underlying50 rfl (by kernel_rfl) ?_)
  refine cN.mono ?_
  rintro e w3 ⟨⟨m, V, rfl, hm, hmod, hnums⟩, hb⟩
  have HXW3 := Lib.hid (HXW.out.bel hb)
  have HRZ3 := Lib.hid (HRZ2.out.bel hb)
  have HB3 := Lib.hid (below_two HB2.out hb)
  have HM := Lib.hid hmod
  have HNU := Lib.hid hnums
  have HIN3 := Lib.hid (HIN2.out.bel hb)
  have hmw := Nat.le_trans HB2.out.size hm
  clear cN XW HXW HRZ2 HB2 HIN2 hmod hnums hb
  go_upto_region 5 with (fail)
  have R0 : w3.drew.rangeAt n2 0 W.cells.toList := rangeAt_box HXW3.out
  refine wp_region_held_drew (S := (fun w' => w'.rangeAt n2 0 W.cells.toList)) (by kernel_rfl) ?_ (fun hHeld => ?_)
  · exact R0
  refine wpAnyH_take (i := 0) (oi := ⟨some 22, _, _, _, _, _⟩) (v := ?_) rfl (by kernel_rfl) (by kernel_rfl) (by kernel_rfl) (fun _ _ _ h => h) (Or.inl ⟨by rfl, ?hy1⟩) hHeld ?rest1
  case hy1 => (intro W hSw; (try dsimp only at hSw); go_simp; (try with_reducible rfl))
  simp only [Act.put, List.setIfInBounds_toArray, List.set_cons_zero, List.set_cons_succ]
  refine wpAnyH_take (i := 1) (oi := ⟨some 23, _, _, _, _, _⟩) (v := .agg W.cells) rfl (by kernel_rfl) (by kernel_rfl) (by kernel_rfl) (fun _ _ _ h => h) (yieldsIf_load_box (by rfl) 50 _ rfl n2 rfl W.cells (fun _ h => h) Tryz.underlying50 rfl (by kernel_rfl)) hHeld ?_
  simp only [Act.put, List.setIfInBounds_toArray, List.set_cons_zero, List.set_cons_succ]
  refine wpAnyH_take (i := 2) (oi := ⟨some 2, _, _, _, _, _⟩) (v := ?_) rfl (by kernel_rfl) (by kernel_rfl) (by kernel_rfl) (fun _ _ _ h => h) (Or.inl ⟨by rfl, ?hy2⟩) hHeld ?rest2
  case hy2 => (intro W hSw; (try dsimp only at hSw); go_simp; (try with_reducible rfl))
  simp only [Act.put, List.setIfInBounds_toArray, List.set_cons_zero, List.set_cons_succ]
  refine wpAnyH_ready (rs := [3]) (by kernel_rfl) (by simp) ?_
  refine AllReadyH.cons (o := ⟨none, _, _, _, _, _⟩) rfl (fun K hK => ?_) AllReadyH.nil
  have RZ3 : Box w3.drew (w.heap.size + 1) 50 zwts := HRZ3.out
  unfold zwts at RZ3
  refine wp_store_row 50 _ _ rfl (w.heap.size + 1) W.cells rfl rfl 50 _ RZ3 (by kernel_rfl) rfl (by simp [Wt7.cells, Value.oneCell']) ?_
  have hg := grownBy_setRow w3.drew (w.heap.size + 1) W.cells
  have R1 : (w3.drew.setRow (w.heap.size + 1) W.cells).rangeAt n2 0 W.cells.toList := rangeAt_box (Box.setRow_other (w := w3.drew) HXW3.out (by omega))
  refine hK.out _ _ ?_ (fun hNew => ?_)
  · exact R1
  clear hK K hHeld hNew R0 R1
  refine wpAnyH_done (by kernel_rfl) ?_ _
  have X2 := RZ3.setRow (cs' := W.cells)
  have hB5 := below_setRow (cs := W.cells) HB3.out.drew (g := w.heap.size + 1) (by omega) HB3.out.size
  have hd : Below w3.heap.size w3 w3.drew := (Below.refl _ _).drew
  have hin2 := wt_but (HIN3.out.bel hd) RZ3 (no8_of (by simp)) (by simp) hg
  have hmod2 := mod_but (HM.out.bel hd) RZ3 (no8_of (by simp)) (by simp) (by decide) hg
  have HX2 := Lib.hid X2
  have HB5 := Lib.hid hB5
  have HIN5 := Lib.hid hin2
  have HM5 := Lib.hid hmod2
  clear X2 hB5 hin2 hmod2 hd hg RZ3 HXW3 HRZ3
  go_wp2_with fail
  exact bodyPost_ret (v := .tuple #[.pointer (some ⟨m, 0, none⟩), .agg W.cells]) (results_tmp_row9 rfl rfl rfl HX2.out Tryz.underlying50 rfl (by kernel_rfl)) rfl ⟨⟨m, s, W, V, rfl, hmw, ⟨HS.out.1, HS.out.2, HIN5.out, HF.out.2.1, HF.out.2.2, HM5.out, HNU.out⟩⟩, HB5.out⟩

end Go.Proofs.YtoeihigdndkjeaaGreatDoor
