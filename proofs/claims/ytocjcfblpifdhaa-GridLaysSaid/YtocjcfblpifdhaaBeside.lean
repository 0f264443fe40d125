/-
  The function that fills the rows of what Beside answers.
-/
import Derived.Test.YtocjcfblpifdhaaDelete
import Derived.Test.YtocjcfblpifdhaaStack
namespace Go.Proofs.Ytocjcfblpifdhaa
open Go.RowKit
set_option linter.unusedVariables false

theorem rowIs_splice {h h' : Nat → Int} {R C row o K : Nat} {cs cs' ys : List Int} (H : RowIs h R C row cs cs') (hr : row < R) (ho : o + K ≤ C) (hy : ys.length = K) (hh : ∀ j, j < C → h' j = if o ≤ j ∧ j < o + K then ys.getD (j - o) 0 else h j) : RowIs h' R C row cs (splice cs' (row * C + o) ys) := by
  have hle := row_le (C := C) hr
  refine ⟨by rw [length_splice _ _ _ (by rw [H.1]; omega), H.1], fun i j hi hj => ?_⟩
  rw [splice_at _ _ _ (by rw [H.1]; omega), hy]
  by_cases e : i = row
  · subst e
    rw [if_pos rfl, hh j hj]
    by_cases e2 : o ≤ j ∧ j < o + K
    · rw [if_pos e2, if_pos ⟨by omega, by omega⟩, show i * C + j - (i * C + o) = j - o by omega]
    · rw [if_neg e2, if_neg (by omega), H.at_ hr hj]
  · rw [if_neg e, if_neg, H.2 i j hi hj, if_neg e]
    intro ⟨h1, h2⟩
    rcases Nat.lt_or_ge i row with h3 | h3
    · have := row_le (C := C) h3; omega
    · have h4 : row < i := by omega
      have := row_le (C := C) h4; omega

/-- the grids' columns, together -/
def colsN (gs : List Gr) : Nat := (gs.map fun g => g.c.toNat).sum
/-- the grids' rows number i, one behind the other -/
def catRow (gs : List Gr) (i : Nat) : List Int := gs.flatMap fun g => rowOf g.v g.c.toNat i
theorem colsN_step (gs : List Gr) (k : Nat) (hk : k < gs.length) (g : Gr) (hg : gs.getD k default = g) : colsN (gs.take (k + 1)) = colsN (gs.take k) + g.c.toNat := by
  unfold colsN
  rw [List.take_add_one, List.map_append, List.sum_append, ← hg]
  simp [List.getD, List.getElem?_eq_getElem hk]
theorem colsN_split (gs : List Gr) (k : Nat) : colsN gs = colsN (gs.take k) + colsN (gs.drop k) := by
  unfold colsN; rw [← List.sum_append, ← List.map_append, List.take_append_drop]
theorem catRow_split (gs : List Gr) (k i : Nat) : catRow gs i = catRow (gs.take k) i ++ catRow (gs.drop k) i := by
  unfold catRow; rw [← List.flatMap_append, List.take_append_drop]
theorem catRow_length {gs : List Gr} {R i : Nat} (hi : i < R) (h : ∀ g ∈ gs, g.v.length = R * g.c.toNat) : (catRow gs i).length = colsN gs := by
  induction gs with
  | nil => rfl
  | cons g gs ih =>
    have h1 := h g List.mem_cons_self
    have h2 := ih (fun x hx => h x (List.mem_cons_of_mem _ hx))
    have h3 : (rowOf g.v g.c.toNat i).length = g.c.toNat := by unfold rowOf; have := row_le (C := g.c.toNat) hi; simp; omega
    have e1 : catRow (g :: gs) i = rowOf g.v g.c.toNat i ++ catRow gs i := rfl
    have e2 : colsN (g :: gs) = g.c.toNat + colsN gs := by simp [colsN]
    rw [e1, e2, List.length_append, h3, h2]

set_option maxHeartbeats 2000000 in
theorem fills_beside (ws : List Gr) (R C : Nat) (a : Option Addr) (m cap p : Nat) (w : World) (hp : p < w.heap.size) (hpc : w.cell? ⟨p, 0, none⟩ = some (.slice a m cap)) (hG : Grids w a m ws) (hR : R ≤ 4096) (hC : C ≤ 4096)
    (hs : ∀ g ∈ ws, g.r = R ∧ 0 < g.c ∧ g.c ≤ 4096 ∧ g.n = R * g.c.toNat) (hcols : colsN ws = C) :
    Fills Try.prog 52 #[.pointer (some ⟨p, 0, none⟩)] w 21 R C (fun i j => (catRow ws i).getD j 0) := by
  intro W row d dcap g cs hrow hW hg hM hlen hd hdc hdc2 hz
  show Calls Try.prog 52 #[.int .i64 row, .slice d C dcap, .pointer (some ⟨p, 0, none⟩)] W _
  have cp : W.cell? ⟨p, 0, none⟩ = some (.slice a m cap) := (hW.cell (p := ⟨p, 0, none⟩) hp).trans hpc
  have hpW : p < W.heap.size := Nat.lt_of_lt_of_le hp hW.size
  have HG := Lib.hid hG
  have HW := Lib.hid hW
  have HS := Lib.hid hs
  have HD := Lib.hid hd
  have HC := Lib.hid hcols
  have HZ := Lib.hid (rowIs_start hlen hz)
  have HL := Lib.hid hG.1
  have hvl : ∀ x ∈ ws, x.v.length = R * x.c.toNat := fun x hx => by rw [(hG.2.2.1 x hx).1.1]; exact (hs x hx).2.2.2
  have HVL := Lib.hid hvl
  have hgl := hM.lt
  have hmm := hG.2.1
  clear hpc hG hs hd hcols hz hlen hW hvl
  go_enter Try.func52, Try.ntmps52
  go_wp2_with fail
  go_loopw [1, 9] (fun t i wr => ∃ (k o L Lc : Nat) (ra : Option Addr) (cs' : List Int), k ≤ m ∧ i = .int .i64 k ∧ t = .slice ra L Lc ∧ L ≤ Lc ∧ Lc ≤ 9223372036854775807 ∧ Hid (L + o = C ∧ o = colsN (ws.take k) ∧ (o < C → ra = some ⟨g, row * C + o, none⟩) ∧ RowIs (fun j => if j < o then (catRow ws row).getD j 0 else 0) R C row cs cs') ∧
      Mine wr g 21 cs' ∧ W.grownBy wr (some g)) (fun _ i _ => m - (intOf i).toNat)
  case atStart =>
    exact ⟨0, 0, C, dcap, d, cs, by omega, rfl, rfl, hdc, hdc2, Lib.hid ⟨by omega, by simp [colsN], fun h => by rw [Nat.add_zero]; exact HD.out h, HZ.out.congr fun j hj => by rw [if_neg (by omega)]⟩, hM, grownBy_refl _ _⟩
  case round =>
    obtain ⟨k, o, L, Lc, ra, cs', hk, rfl, rfl, hLL, hLc, hrel, hM', hgr⟩ := hrel
    have hBw := below_grown HW.out hgr hg
    by_cases hlt : k < m
    · obtain ⟨b, off, gk, rfl, hbl, c0, c1, c2, hgk, hin⟩ := (HG.out.below hBw).at_ hlt
      have hkl : k < ws.length := by rw [HL.out]; exact hlt
      have hgm := getD_mem_gr hkl hgk.out
      obtain ⟨s1, s2, s3, s4⟩ := HS.out gk hgm
      have hstc := colsN_step ws k hkl gk hgk.out
      obtain ⟨hLo, hoc, hra, hri⟩ := hrel.out
      have hall := colsN_split ws (k + 1)
      have hcat := catRow_split ws k row
      have hcat2 : catRow (ws.drop k) row = rowOf gk.v gk.c.toNat row ++ catRow (ws.drop (k + 1)) row := by
        rw [List.drop_eq_getElem_cons hkl]
        have : ws[k] = gk := by rw [← hgk.out, List.getD_eq_getElem?_getD, List.getElem?_eq_getElem hkl]; rfl
        rw [this]; rfl
      have hpl : (catRow (ws.take k) row).length = o := by rw [catRow_length hrow (fun x hx => HVL.out x (List.mem_of_mem_take hx)), hoc]
      obtain ⟨r, c, ga, n, gcap, v⟩ := gk
      simp only at c0 c1 c2 s1 s2 s3 s4 hstc hcat2
      obtain ⟨K, rfl⟩ : ∃ K : Nat, c = K := ⟨c.toNat, by omega⟩
      subst s1
      rw [Int.toNat_natCast] at s4 hstc hcat2
      subst s4
      obtain ⟨hE, hgc, hgc2, hSl, _, _, _, _⟩ := hin
      simp only at hE hgc hgc2 hSl
      rw [HC.out, hstc, ← hoc] at hall
      have hra2 := hra (by omega)
      subst hra2
      have hspot := hE.spot
      have HSP := Lib.hid hspot
      have HE := Lib.hid hE
      have hrl : (rowOf v K row).length = K := by unfold rowOf; have := row_le (C := K) hrow; have := hE.1; simp; omega
      have hnew : Hid (colsN (ws.take (k + 1)) = o + K ∧ RowIs (fun j => if j < o + K then (catRow ws row).getD j 0 else 0) R C row cs (splice cs' (row * C + o) (rowOf v K row))) := Lib.hid ⟨by rw [hstc, ← hoc], rowIs_splice hri hrow (by omega) hrl fun j hj => by
        by_cases e1 : o ≤ j ∧ j < o + K
        · rw [if_pos e1, if_pos e1.2, hcat, hcat2, List.getD_eq_getElem?_getD, List.getElem?_append_right (by omega), hpl, List.getElem?_append_left (by omega), ← List.getD_eq_getElem?_getD]
        · rw [if_neg e1]
          by_cases e2 : j < o
          · rw [if_pos e2, if_pos (by omega)]
          · rw [if_neg e2, if_neg (by omega)]⟩
      have hfit : row * C + o + (rowOf v K row).length ≤ cs'.length := by rw [hrl, hri.1]; have := row_le (C := C) hrow; omega
      have HFIT := Lib.hid hfit
      have HRL := Lib.hid hrl
      have hKL : K ≤ L := by omega
      have hoL := Lib.hid hLo
      have HMx := fun o => hM'.alloc o
      have hgx := fun o => hgr.trans (World.grownBy_alloc wr o (some g))
      have hEx := Lib.hid (fun o => HE.out.below ((Below.refl wr.heap.size wr).alloc (Nat.le_refl _) o))
      have hglr := hM'.lt
      clear hstc hall hcat hcat2 hpl hri hra hoc hLo hfit hrl hspot hE hgm hrel hM' hgr
      go_wp2_with fail
      refine (line_at R K row ga gcap _ hgc hgc2 hSl.1 HSP.out hR (by omega) hrow).mono ?_
      rintro e wc ⟨⟨a', cap', rfl, hc1, hc2, ha'⟩, hbc⟩
      have hMc := (HMx _).below hbc (by simp; omega)
      have hgc3 := (hgx _).trans (grownBy_below hbc (some g))
      have hEc := (hEx.out _).below hbc
      have hsrc : 0 < (rowOf v K row).length → Elems .i32 wc a' (rowOf v K row).length (rowOf v K row) := fun hpos => by
        rw [HRL.out] at hpos ⊢
        obtain ⟨b9, off9, rfl, rfl⟩ := ha' hpos
        exact rowOf_elems hEc hrow
      have HSRC := Lib.hid hsrc
      obtain ⟨ys, hys⟩ : ∃ ys, rowOf v K row = ys := ⟨_, rfl⟩
      rw [hys] at HFIT HRL HSRC hnew
      clear hsrc hys ha' hEc hEx HMx hgx HE HSP hbc
      have i0 : (0 : Int) ≤ (K : Int) := by omega
      have i1 : (K : Int) ≤ (L : Int) := by omega
      have i2 : (K : Int) ≤ (Lc : Int) := by omega
      by_cases hcut : K = Lc
      · obtain rfl : L = K := by omega
        obtain rfl := hcut
        go_wp2_with (with_reducible refine wpList_copy_mine rfl (.tmp 14) (.tmp 17) 22 22 rfl 21 Try.underlying22 (by kernel_rfl) (some ⟨g, row * C + o, none⟩) a' L L L cap' rfl rfl g (row * C + o) cs' 21 hMc ys ?c1 ?c2 HFIT.out ?c3)
        case c1 => first | exact HRL.out | (rw [HRL.out]; exact (Nat.min_self _).symm)
        case c2 => intro hpos; first | exact ⟨rfl, HSRC.out hpos⟩ | exact HSRC.out hpos
        case c3 =>
          intro wf hMf hgf
          have hgf2 := hgc3.trans hgf
          have HRL2 := HRL.out
          clear hgc3 hgf hMc
          go_wp2
          go_roundw
          case rel => exact ⟨k + 1, o + L, 0, 0, _, splice cs' (row * C + o) ys, by omega, by go_num, rfl, by omega, by omega, Lib.hid ⟨by have := hoL.out; omega, hnew.out.1.symm, fun h => absurd h (by have := hoL.out; omega), hnew.out.2⟩, hMf, hgf2⟩
          case measure => simp [intOf]; omega
      · have i3 : (K : Int) < (Lc : Int) := by omega
        go_wp2_with (with_reducible refine wpList_copy_mine rfl (.tmp 14) (.tmp 17) 22 22 rfl 21 Try.underlying22 (by kernel_rfl) (some ⟨g, row * C + o, none⟩) a' L Lc K cap' rfl rfl g (row * C + o) cs' 21 hMc ys ?d1 ?d2 HFIT.out ?d3)
        case d1 => first | exact HRL.out | (rw [HRL.out]; exact (Nat.min_eq_left hKL).symm)
        case d2 => intro hpos; first | exact ⟨rfl, HSRC.out hpos⟩ | exact HSRC.out hpos
        case d3 =>
          intro wf hMf hgf
          have hgf2 := hgc3.trans hgf
          have HRL2 := HRL.out
          clear hgc3 hgf hMc
          go_wp2
          go_roundw
          case rel => exact ⟨k + 1, o + K, L - K, Lc - K, _, splice cs' (row * C + o) ys, by omega, by go_num, rfl, by omega, by omega, Lib.hid ⟨by have := hoL.out; omega, hnew.out.1.symm, fun _ => by (rw [Nat.add_assoc]), hnew.out.2⟩, hMf, hgf2⟩
          case measure => simp [intOf]; omega
    · obtain rfl : k = m := by omega
      obtain ⟨hLo, hoc, hra, hri⟩ := hrel.out
      rw [show ws.take k = ws from List.take_of_length_le (by rw [HL.out]; omega), HC.out] at hoc
      subst hoc
      have hri2 := Lib.hid (RowIs.rowSet (f := fun i j => (catRow ws i).getD j 0) hri fun j hj => if_pos hj)
      clear hrel hLo hra hri
      go_wp2
      go_end0
      exact ⟨rfl, _, hgr, hM', hri2.out⟩

end Go.Proofs.Ytocjcfblpifdhaa
