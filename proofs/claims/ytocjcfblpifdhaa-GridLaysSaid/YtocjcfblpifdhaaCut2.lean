/-
  The functions that fill the rows of what Turn and Times answer: each is what filled asks.
-/
import Derived.Test.YtocjcfblpifdhaaFilled
namespace Go.Proofs.Ytocjcfblpifdhaa
open Go.RowKit
set_option linter.unusedVariables false

set_option maxHeartbeats 800000 in
theorem fills_turn (R C : Nat) (hR : R ≤ 4096) (hC : C ≤ 4096) (a : Option Addr) (cap : Nat) (xs : List Int) (p : Nat) (w : World) (hb : Box3 w p (.int .i64 R) (.int .i64 C) (.slice a (R * C : Nat) cap))
    (hE : Elems .i32 w a (R * C) xs) (hcap : R * C ≤ cap) (hcap2 : cap ≤ 9223372036854775807) :
    Fills Try.prog 44 #[.pointer (some ⟨p, 0, none⟩)] w 21 C R (fun i j => xs.getD (j * C + i) 0) := by
  intro W row d dcap g cs hrow hW hg hM hlen hd hdc hdc2 hz
  show Calls Try.prog 44 #[.int .i64 row, .slice d R dcap, .pointer (some ⟨p, 0, none⟩)] W _
  have hb' := hb.below hW
  have hpg : p < g := Nat.lt_of_lt_of_le hb.1 hg
  have HE := Lib.hid (hE.below hW)
  have hblk := hE.blk
  have HD := Lib.hid hd
  have HZ := Lib.hid (rowIs_start hlen hz)
  have HL := Lib.hid hlen
  have hgl := hM.lt
  clear hb hE hd hz hlen hW
  go_enter Try.func44, Try.ntmps44
  go_wp2_with fail
  go_loopw [8] (fun i wr => ∃ (k : Nat) (cs' : List Int), k ≤ R ∧ i = .int .i64 k ∧ Mine wr g 21 cs' ∧ Hid (RowIs (fun j => if j < k then xs.getD (j * C + row) 0 else 0) C R row cs cs') ∧ W.grownBy wr (some g)) (fun i _ => R - (intOf i).toNat)
  case atStart => exact ⟨0, cs, by omega, rfl, hM, Lib.hid (HZ.out.congr fun j hj => by rw [if_neg (by omega)]), grownBy_refl _ _⟩
  case round =>
    obtain ⟨k, cs', hk, rfl, hM', hri, hgr⟩ := hrel
    by_cases hlt : k < R
    · have hd2 := HD.out (by omega)
      subst hd2
      have hrc := row_lt hlt hrow
      obtain ⟨b, off, rfl, hcells⟩ := HE.out.2.2.2 (by omega)
      have hbl : b < w.heap.size := hblk ⟨b, off, none⟩ rfl (by omega)
      have hEr := HE.out.other hgr (by omega)
      obtain ⟨b2, off2, v, he2, hcv, hv, _⟩ := hEr.at_ hrc
      cases he2
      obtain ⟨h1, c0, c1, c2, _, _, _⟩ := hb'.kept hgr (show some p ≠ some g by simp; omega)
      have hstep := fun (cs2 : List Int) (h : cs2 = cs'.set (row * R + k) v) => (show RowIs (fun j => if j < k + 1 then xs.getD (j * C + row) 0 else 0) C R row cs cs2 by
        rw [h]
        refine hri.out.set hrow hlt ?_ ?_
        · rw [if_pos (by omega), hv.out]
        · intro j hj hne
          by_cases e : j < k
          · rw [if_pos e, if_pos (by omega)]
          · rw [if_neg e, if_neg (by omega)])
      have HST := Lib.hid hstep
      have hrk := row_lt hrow hlt
      have hglr := hM'.lt
      have hlen' := hri.out.1
      have hold : ∀ w1, Below wr.heap.size wr w1 → ∃ c, w1.cell? ⟨g, row * R + k, none⟩ = some (.int .i32 c) ∧ w1.frozen? ⟨g, row * R + k, none⟩ = false := fun w1 hb1 => by
        have hM1 := hM'.below hb1 hglr
        exact ⟨_, hM1.cell (by omega), hM1.frozen _⟩
      have hcv2 : ∀ w1, Below wr.heap.size wr w1 → w1.cell? ⟨b, off + k * C + row, none⟩ = some (.int .i32 v) := fun w1 hb1 => by
        rw [hb1.cell (p := ⟨b, _, none⟩) (by have := World.block_lt_of_cell? _ _ hcv; simpa using this), Nat.add_assoc]; exact hcv
      have HOLD := Lib.hid hold
      have HCV := Lib.hid hcv2
      clear hri hv hstep hold hcv2 hcv hEr hcells hlen'
      go_wp2_with fail
      refine (line_any R C k b off cap _ hcap hcap2 hR hC (by omega) hlt).mono ?_
      rintro e w1 ⟨rfl, hb1⟩
      obtain ⟨c, hc, hf⟩ := HOLD.out w1 hb1
      have hx := HCV.out w1 hb1
      have hM1 := (hM'.below hb1 hglr).set (row * R + k) v
      have hgr1 := ((hgr.trans (grownBy_below hb1 _)).trans (grownBy_setCell w1 g (row * R + k) (.int .i32 v)))
      clear hb1 hM'
      go_wp2
      go_roundw
      case rel => exact ⟨k + 1, _, by omega, by go_num, hM1, Lib.hid (HST.out _ rfl), hgr1⟩
      case measure => simp [intOf]; omega
    · obtain rfl : k = R := by omega
      have HR := Lib.hid (hri.out.rowSet (f := fun i j => xs.getD (j * C + i) 0) (fun j hj => by rw [if_pos hj]))
      clear hri
      go_wp2
      go_end0
      exact ⟨rfl, _, hgr, hM', HR.out⟩

/-- the sum of the first k products of row i of xs (of K columns) with column j of ys (of C columns) -/
def psum (xs ys : List Int) (K C i j k : Nat) : Int := ((List.range k).map fun t => xs.getD (i * K + t) 0 * ys.getD (t * C + j) 0).sum
theorem psum_succ (xs ys : List Int) (K C i j k : Nat) : psum xs ys K C i j (k + 1) = psum xs ys K C i j k + xs.getD (i * K + k) 0 * ys.getD (k * C + j) 0 := by
  unfold psum; rw [List.range_succ, List.map_append, List.sum_append]; simp
/-- a number of the product -/
def prod (xs ys : List Int) (K C i j : Nat) : Int := wrap32 (psum xs ys K C i j K)

set_option maxHeartbeats 2000000 in
theorem fills_times (R K C : Nat) (hR : R ≤ 4096) (hK : K ≤ 4096) (hC : C ≤ 4096) (a a' : Option Addr) (cap cap' : Nat) (xs ys : List Int) (p q : Nat) (w : World) (hb : Box3 w p (.int .i64 R) (.int .i64 K) (.slice a (R * K : Nat) cap)) (hb' : Box3 w q (.int .i64 K) (.int .i64 C) (.slice a' (K * C : Nat) cap'))
    (hE : Elems .i32 w a (R * K) xs) (hE' : Elems .i32 w a' (K * C) ys) (hcap : R * K ≤ cap) (hcap2 : cap ≤ 9223372036854775807) (hcap' : K * C ≤ cap') (hcap2' : cap' ≤ 9223372036854775807) (ha : Sl a cap) (ha' : Sl a' cap') :
    Fills Try.prog 54 #[.pointer (some ⟨p, 0, none⟩), .pointer (some ⟨q, 0, none⟩)] w 21 R C (fun i j => prod xs ys K C i j) := by
  intro W row d dcap g cs hrow hW hg hM hlen hd hdc hdc2 hz
  show Calls Try.prog 54 #[.int .i64 row, .slice d C dcap, .pointer (some ⟨p, 0, none⟩), .pointer (some ⟨q, 0, none⟩)] W _
  have B1 := hb.below hW
  have B2 := hb'.below hW
  have hpg : p < g := Nat.lt_of_lt_of_le hb.1 hg
  have hqg : q < g := Nat.lt_of_lt_of_le hb'.1 hg
  have hspot := hE.spot
  have hblk := hE.blk
  have hspot' := hE'.spot
  have hblk' := hE'.blk
  have HE := Lib.hid (hE.below hW)
  have HE' := Lib.hid (hE'.below hW)
  have HD := Lib.hid hd
  have HZ := Lib.hid (rowIs_start hlen hz)
  have hgl := hM.lt
  have HB := Lib.hid hblk
  have HB' := Lib.hid hblk'
  have HS := Lib.hid hspot
  have HS' := Lib.hid hspot'
  clear hb hb' hE hE' hd hz hW hblk hblk' hspot hspot'
  obtain ⟨h1, c0, c1, c2, f0, f1, f2⟩ := B1
  go_enter Try.func54, Try.ntmps54
  go_wp2_with fail
  refine (line_at R K row a cap _ hcap hcap2 ha.1 HS.out hR hK hrow).mono ?_
  rintro e wa ⟨⟨a1, cap1, rfl, hc1, hc2, ha1⟩, hba⟩
  have B2a := B2.below hba
  have hMa := hM.below hba hgl
  have HA1 := Lib.hid ha1
  have hga := grownBy_below hba (some g)
  clear ha1 c0 c1 c2 f0 f1 f2 hM B2
  go_wp2_with fail
  go_loopw [14] (fun i wr => ∃ (k : Nat) (cs' : List Int), k ≤ K ∧ i = .int .i64 k ∧ Mine wr g 21 cs' ∧ Hid (RowIs (fun j => wrap32 (psum xs ys K C row j k)) R C row cs cs') ∧ W.grownBy wr (some g) ∧ wa.grownBy wr (some g)) (fun i _ => K - (intOf i).toNat)
  case atStart => exact ⟨0, cs, by omega, rfl, hMa, Lib.hid (HZ.out.congr fun j hj => by simp [psum, wrap32]), hga, grownBy_refl _ _⟩
  case round =>
    obtain ⟨k, cs', hk, rfl, hM', hri, hgr, hgr2⟩ := hrel
    by_cases hlt : k < K
    · have hrk := row_lt hrow hlt
      obtain ⟨b, off, rfl, rfl⟩ := HA1.out (by omega)
      have hbl : b < w.heap.size := HB.out ⟨b, off, none⟩ rfl (by omega)
      have hEr := HE.out.other hgr (by omega)
      obtain ⟨b2, off2, x, he2, hcx, hx, wx⟩ := hEr.at_ hrk
      cases he2
      have hcx' : wr.cell? ⟨b, off + row * K + k, none⟩ = some (.int .i32 x) := by rw [Nat.add_assoc]; exact hcx
      obtain ⟨h1, c0, c1, c2, f0, f1, f2⟩ := B2a.kept hgr2 (show some q ≠ some g by simp; omega)
      clear hcx hEr hk
      go_wp2_with fail
      refine (line_at K C k a' cap' _ hcap' hcap2' ha'.1 HS'.out hK hC hlt).mono ?_
      rintro e wb ⟨⟨a2, cap2, rfl, hd1, hd2, ha2⟩, hbb⟩
      have HA2 := Lib.hid ha2
      have hMb := hM'.below hbb hM'.lt
      have hgb := hgr.trans (grownBy_below hbb (some g))
      have hgb2 := hgr2.trans (grownBy_below hbb (some g))
      have hkK := hlt
      clear ha2 c0 c1 c2 f0 f1 f2 hM' hgr hgr2 hcx' hbb hlt
      go_wp2_with fail
      go_loopw [23] (fun i wr => ∃ (m : Nat) (cs2 : List Int), m ≤ C ∧ i = .int .i64 m ∧ Mine wr g 21 cs2 ∧ Hid (RowIs (fun j => if j < m then wrap32 (psum xs ys K C row j (k + 1)) else wrap32 (psum xs ys K C row j k)) R C row cs cs2) ∧ W.grownBy wr (some g) ∧ wa.grownBy wr (some g)) (fun i _ => C - (intOf i).toNat)
      case atStart => exact ⟨0, cs', by omega, rfl, hMb, Lib.hid (hri.out.congr fun j hj => by rw [if_neg (by omega)]), hgb, hgb2⟩
      case round =>
        clear hri hMb hgb hgb2
        obtain ⟨m, cs2, hm, rfl, hM2, hri, hgr, hgr2⟩ := hrel
        by_cases hlt : m < C
        · have hkm := row_lt hkK hlt
          have hrm := row_lt hrow hlt
          obtain ⟨b', off', rfl, rfl⟩ := HA2.out (by omega)
          have hbl' : b' < w.heap.size := HB'.out ⟨b', off', none⟩ rfl (by omega)
          have hEr := HE'.out.other hgr (by omega)
          obtain ⟨b3, off3, y, he3, hcy, hy, wy⟩ := hEr.at_ hkm
          cases he3
          have hcy' : wr.cell? ⟨b', off' + k * C + m, none⟩ = some (.int .i32 y) := by rw [Nat.add_assoc]; exact hcy
          have hd2 := HD.out (by omega)
          subst hd2
          have hlen2 := hri.out.1
          have hcell := hM2.cell (k := row * C + m) (by omega)
          have hfrz := hM2.frozen (row * C + m)
          have hcv := hri.out.at_ hrow hlt
          rw [if_neg (by omega)] at hcv
          rw [hcv] at hcell
          obtain ⟨S, hS⟩ : ∃ S, S = psum xs ys K C row m k := ⟨_, rfl⟩
          rw [← hS] at hcell
          have hval : wrap32 (wrap32 S + wrap32 (x * y)) = wrap32 (psum xs ys K C row m (k + 1)) := by
            rw [psum_succ, hx.out, hy.out, wrap32_add2, hS]
          have hM3 := hM2.set (row * C + m) (wrap32 (wrap32 S + wrap32 (x * y)))
          have HRI := Lib.hid (hri.out.set (h' := fun j => if j < m + 1 then wrap32 (psum xs ys K C row j (k + 1)) else wrap32 (psum xs ys K C row j k)) (v := wrap32 (wrap32 S + wrap32 (x * y))) hrow hlt (by rw [if_pos (by omega), hval]) (by
            intro j hj hne
            by_cases e : j < m
            · rw [if_pos e, if_pos (by omega)]
            · rw [if_neg e, if_neg (by omega)]))
          have hgs := grownBy_setCell wr g (row * C + m) (.int .i32 (wrap32 (wrap32 S + wrap32 (x * y))))
          clear hcy hEr hcv hval hri hlen2 hS hM2
          go_wp2
          go_roundw
          case rel => exact ⟨m + 1, _, by omega, by go_num, hM3, HRI, hgr.trans hgs, hgr2.trans hgs⟩
          case measure => simp [intOf]; omega
        · obtain rfl : m = C := by omega
          have HRI := Lib.hid (hri.out.congr (h' := fun j => wrap32 (psum xs ys K m row j (k + 1))) (fun j hj => by rw [if_pos hj]))
          clear hri
          go_wp2
          go_roundw
          case rel => exact ⟨k + 1, _, by omega, by go_num, hM2, HRI, hgr, hgr2⟩
          case measure => simp [intOf]; omega
    · obtain rfl : k = K := by omega
      have HR := Lib.hid (hri.out.rowSet (f := fun i j => prod xs ys k C i j) (fun j hj => rfl))
      clear hri
      go_wp2
      go_end0
      exact ⟨rfl, _, hgr, hM', HR.out⟩

end Go.Proofs.Ytocjcfblpifdhaa
