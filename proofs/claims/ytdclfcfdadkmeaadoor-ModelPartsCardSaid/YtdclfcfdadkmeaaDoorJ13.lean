import Derived.Test.YtdclfcfdadkmeaaDoorJ12
import Derived.Deep.RegionHeld3
import Derived.Deep.CutRange
/-
  A token's row, at first; the second half of a layer; the first error of tokens.
-/
namespace Go.Proofs.YtdclfcfdadkmeaaDoor
open Go.RowKit
set_option linter.unusedVariables false

theorem emb_len (W : Wn8) (t : Nat) (h : W.e.length = W.s.v * W.s.w) (ht : t < W.s.v) : (embO W t).length = W.s.w := by
  unfold embO
  rw [List.length_map]
  exact rowOf_length h ht

set_option maxHeartbeats 1000000 in
set_option maxRecDepth 100000 in
theorem embedded8 (m t : Nat) (s : Sz) (ok : s.Ok) (ht : t < s.v) (W : Wt7) (w : World) (h : ModAt w m s W) :
    Calls Tryd.prog 48 #[.pointer (some ⟨m, 0, none⟩), .int .i64 t] w fun e w' => GivesS .i32 s.w (embO (W.nums s) t) e w' ∧ Below w.heap.size w w' := by
  have bd := ok.bd
  have hs := shape8 m s W w h
  obtain ⟨⟨e1, e2, e3⟩, _⟩ := wtB_yes h.whole
  obtain ⟨hE, hcap, hcap2, _⟩ := h.inn.1
  have c8 := h.box.cell 8
  have HB := Lib.hid h.box
  obtain ⟨ab, off, ha, hcell⟩ := hE.2.2.2 (by rw [e3]; exact Nat.mul_pos (by omega) (by omega))
  have hablt := World.block_lt_of_cell? _ _ (hcell 0 (by rw [e3]; exact Nat.mul_pos (by omega) (by omega)))
  have HE := Lib.hid hE
  obtain ⟨lo, hlo⟩ : ∃ lo, t * s.w = lo := ⟨_, rfl⟩
  have hle : lo + s.w ≤ W.e.n := by rw [e3, ← hlo]; exact row_le ht
  have hmk := run_make_row' (P := Tryd.prog) 39 21 (.int .i32 0) 4 Tryd.underlying39 info_int32 rfl .i64 .i64 s.w (by omega) (by omega)
  have hn64 : W.e.n ≤ 65536 := by rw [e3]; exact Nat.le_trans (Nat.mul_le_mul bd.2.2.2.2.1.2 bd.2.2.1.2) (by decide)
  have c8' : w.cell? ⟨m, 8, none⟩ = some (.slice W.e.a W.e.n W.e.cap) := c8
  have hx : Elems .i8 w (some ⟨ab, off + lo, none⟩) s.w (rowOf W.e.v s.w t) := by
    have h1 := (hE.cut lo (by omega)).take s.w (by omega)
    rw [ha] at h1
    simp only [Option.map_some, add_plain'] at h1
    unfold rowOf
    rw [hlo]
    exact h1
  rw [ha] at c8'
  have hmul : (t : Int) * (s.w : Int) = (lo : Int) := by rw [← hlo]; push_cast; rfl
  have hne : ¬ W.e.cap = lo := by omega
  have l1 : (lo : Int) ≤ (W.e.n : Int) := by omega
  have l2 : (s.w : Int) ≤ (W.e.cap : Int) - (lo : Int) := by omega
  have l3 : s.w ≤ W.e.cap - lo := by omega
  have w1 : s.w ≤ 128 := bd.2.2.1.2
  have hv512 : s.v ≤ 512 := bd.2.2.2.2.1.2
  have HX := Lib.hid hx
  have HOUT : Hid (embO (W.nums s) t = (rowOf W.e.v s.w t).map (· * 16)) := Lib.hid rfl
  obtain ⟨xs, hxs⟩ : ∃ xs, rowOf W.e.v s.w t = xs := ⟨_, rfl⟩
  rw [hxs] at HX HOUT
  obtain ⟨en, hen⟩ : ∃ en, W.e.n = en := ⟨_, rfl⟩
  obtain ⟨ec, hec⟩ : ∃ ec, W.e.cap = ec := ⟨_, rfl⟩
  rw [hen] at c8' hle l1 hn64
  rw [hec] at c8' hne l2 l3 hcap2
  have hcap' : en ≤ ec := by rw [← hen, ← hec]; exact hcap
  obtain ⟨l, W0, H, I, V, P⟩ := s
  unfold Sz.val shv at hs
  simp only at hs hle hmk hmul l2 l3 w1 HX HOUT hv512 ht ⊢
  clear hx hxs hlo ha hcell hE c8 bd e1 e2 e3 hen hec ok h hcap
  have hfl : ∀ W', (Instr.field 35 (.agg #[.int .i64 l, .int .i64 W0, .int .i64 H, .int .i64 I, .int .i64 V, .int .i64 P]) 1).run Tryd.prog W' = .ok (.int .i64 W0) W' := fun _ => by kernel_rfl
  go_enter Tryd.func48, Tryd.ntmps48
  go_wp2_with fail
  refine hs.mono ?_
  rintro e wa ⟨rfl, hba⟩
  have c8a := cell_kept6 hba c8'
  have hxa := HX.out.below hba
  have hsz := hba.size
  have c8b := fun o => cell_alloc c8a o
  clear hs c8' c8a
  go_wp2
  go_loopw [27] (fun i wr => ∃ (k : Nat) (cs : List Int), k ≤ W0 ∧ i = .int .i64 k ∧ MineK .i32 wr wa.heap.size 21 cs ∧ Below wa.heap.size wa wr ∧ Hid (FilledBy (fun i => xs.getD i 0 * 16) W0 k cs)) (fun i _ => W0 - (intOf i).toNat)
  case atStart => exact ⟨0, List.replicate W0 0, by omega, rfl, mine_made .i32 wa 21 W0 rfl, (Below.refl _ _).alloc (Nat.le_refl _) _, Lib.hid (filledBy_start _ W0)⟩
  case round =>
    obtain ⟨k, cs, hk, rfl, hmine, hbel, hfil⟩ := hrel
    by_cases hlt : k < W0
    · obtain ⟨b, o2, v, he, hc, hv, wv⟩ := (hxa.below hbel).at_ hlt
      cases he
      obtain ⟨v1, v2⟩ := wf8 wv
      have hl := hfil.out.1
      have hold := hmine.cell (k := k) (by omega)
      have hf := hmine.frozen k
      have hst := Lib.hid (filledBy_step hfil.out hlt)
      simp only [hv.out] at hst
      have hnew := hmine.set k (v * 16)
      have hbS := hbel.setCell (p := ⟨wa.heap.size, k, none⟩) (Nat.le_refl _) (.int .i32 (v * 16))
      generalize cs.getD k 0 = c at hold
      clear hv hl hfil hmine hbel hmk hxa c8b
      go_wp2
      go_roundw
      case rel => exact ⟨k + 1, cs.set k (v * 16), by omega, by go_num, hnew, hbS, hst⟩
      case measure => simp [intOf]; omega
    · obtain rfl : k = W0 := by omega
      have hxl := hxa.1
      have he := filledBy_end (g := (· * 16)) hfil.out hxl (fun i _ => rfl)
      have hE := hmine.elems (n := k) hfil.out.1 (by omega) (by
        rw [he]
        intro c hc
        obtain ⟨x, hx, rfl⟩ := List.mem_map.1 hc
        have := wf8 (hxa.2.2.1 x hx)
        exact WalkArith.wf_i32 ⟨by omega, by omega⟩)
      rw [he] at hE
      have HE2 := Lib.hid hE
      have hB := below_two hba hbel
      clear hxa he hE hmine hfil c8b hxl
      go_wp2
      go_ret
      exact ⟨⟨_, k, rfl, by rw [HOUT.out]; exact HE2.out, Nat.le_refl _, by omega⟩, hB⟩

end Go.Proofs.YtdclfcfdadkmeaaDoor

/-
  The second half of a layer.
-/
namespace Go.Proofs.YtdclfcfdadkmeaaDoor
open Go.RowKit
set_option linter.unusedVariables false

set_option maxHeartbeats 2000000 in
set_option maxRecDepth 100000 in
theorem gated8 (s : Sz) (ok : s.Ok) (b : Bk7) (hbk : bkB s b = true) (xa : Option Addr) (xcap : Nat) (xs : List Int) (w : World) (hin : b.In w) (hx : Elems .i32 w xa s.w xs) :
    Calls Tryd.prog 49 #[.agg b.cells, .slice xa s.w xcap] w fun e w' => GivesS .i32 s.w (gateO s b.blk xs) e w' ∧ Below w.heap.size w w' := by
  have bd := ok.bd
  obtain ⟨n1, n2, _, _, _, _, m7, m8⟩ := bkB_yes hbk
  obtain ⟨i1, i2, _, _, _, _, i7, i8⟩ := hin
  have HO : Hid (gateO s b.blk xs = joinL 1 4 xs (mv b.d.v ((smallO b.u.v (normO b.y.v xs s.w) s.i s.w).map gate1) s.w s.i) s.w) := Lib.hid rfl
  have w1 : 2 ≤ s.w := bd.2.2.1.1
  have w2 : s.w ≤ 128 := bd.2.2.1.2
  have v2 : s.i ≤ 256 := bd.2.2.2.1.2
  have iy := i2.1
  rw [n2] at iy
  have HN := Lib.hid n2
  have HM7 := Lib.hid m7
  have HM8 := Lib.hid m8
  clear ok bd hbk n1 n2 m7 m8 i1 i2
  go_enter Tryd.func49, Tryd.ntmps49
  go_upto_region 1 with (fail)
  generalize hwa : w.alloc _ = wa
  have X : Box wa w.heap.size 101 b.cells := by rw [← hwa]; exact box_new _ _ _
  have hB : Below w.heap.size w wa := by rw [← hwa]; exact (Below.refl _ _).alloc (Nat.le_refl _) _
  obtain ⟨_, z1, _, _, _, _, _, _, _, _, _, _, _, _, z14, z15, z16, z17, z18, z19⟩ := box_bk X
  rw [HN.out] at z1
  have cN := normed8 b.y.a xa s.w b.y.cap xcap b.y.v xs wa.drew (iy.below hB.drew) (hx.below hB.drew) (by omega) (by omega)
  have I7 := i7.below hB
  have I8 := i8.below hB
  have HX := Lib.hid (hx.below hB)
  have HBa := Lib.hid hB
  clear hwa X hB iy hx i7 i8
  go_region_held3 (fun w' => w'.cell? ⟨w.heap.size, 1, none⟩ = some (.slice b.y.a s.w b.y.cap) ∧ w'.cell? ⟨w.heap.size, 14, none⟩ = some (.int .i64 b.u.r) ∧ w'.cell? ⟨w.heap.size, 15, none⟩ = some (.int .i64 b.u.c) ∧ w'.cell? ⟨w.heap.size, 16, none⟩ = some (.slice b.u.a b.u.n b.u.cap))
    (first | go_keep | (go_split_ands; refine ⟨?_, ?_, ?_, ?_⟩ <;> assumption))
    (first
      | (go_at_call 31; (with_reducible refine cN.mono ?_); rintro e wb ⟨⟨g, c, rfl, hE, hc1, hc2⟩, hb1⟩
         have hb1' : Below wa.heap.size wa wb := ((Below.refl _ wa).drew).trans hb1
         have k1 := cell_kept6 hb1' z1
         have k14 := cell_kept6 hb1' z14
         have k15 := cell_kept6 hb1' z15
         have k16 := cell_kept6 hb1' z16
         have k17 := cell_kept6 hb1' z17
         have k18 := cell_kept6 hb1' z18
         have k19 := cell_kept6 hb1' z19
         have cS := small8 b.u ⟨some ⟨g, 0, none⟩, s.w, c, _⟩ s.i s.w HM7.out rfl (by omega) (by omega) wb (I7.below hb1') (rw_at hE hc1 hc2))
      | (go_at_call 62; (with_reducible refine cS.mono ?_); rintro e wc ⟨⟨g2, c2, rfl, hE2, hd1, hd2⟩, hb2⟩
         have j1 := cell_kept6 hb2 k1
         have j14 := cell_kept6 hb2 k14
         have j15 := cell_kept6 hb2 k15
         have j16 := cell_kept6 hb2 k16
         have j17 := cell_kept6 hb2 k17
         have j18 := cell_kept6 hb2 k18
         have j19 := cell_kept6 hb2 k19
         have cG := gates (some ⟨g2, 0, none⟩) s.i c2 _ wc hE2 (by omega))
      | (go_at_call 61; (with_reducible refine cG.mono ?_); rintro e wd ⟨rfl, hE3, hb3⟩
         have l1 := cell_kept6 hb3 j1
         have l14 := cell_kept6 hb3 j14
         have l15 := cell_kept6 hb3 j15
         have l16 := cell_kept6 hb3 j16
         have l17 := cell_kept6 hb3 j17
         have l18 := cell_kept6 hb3 j18
         have l19 := cell_kept6 hb3 j19))
  have hB4 : Below wa.heap.size wa wd := below_two (below_two hb1' hb2) hb3
  have hB5 := below_two HBa.out hB4
  have cP := product8 b.d ⟨some ⟨wc.heap.size, 0, none⟩, s.i, s.i, _⟩ s.w s.i HM8.out rfl (by omega) (by omega) wd (I8.below hB4) (rw_at hE3 (Nat.le_refl _) (by omega))
  have HXd := Lib.hid (HX.out.below hB4)
  clear cN cS cG hE hE2 hE3 hb1 hb1' hb2 hb3 hB4 I7 I8 HX HBa k1 k14 k15 k16 k17 k18 k19 j1 j14 j15 j16 j17 j18 j19 l1 l14 l15 l16 z1 z14 z15 z16 z17 z18 z19 hc1 hc2 hd1 hd2
  go_wp2_with fail
  refine cP.mono ?_
  rintro e we ⟨⟨g4, c4, rfl, hE4, _, _⟩, hb4⟩
  have hB6 := below_two hB5 hb4
  have cJ := joined8 xa (some ⟨g4, 0, none⟩) s.w xcap c4 xs _ we (HXd.out.below hb4) hE4 (by omega)
  clear cP hE4 hb4 hB5 HXd
  go_wp2_with fail
  refine cJ.mono ?_
  rintro e wf ⟨⟨g5, c5, rfl, hE5, q1, q2⟩, hb5⟩
  have hB7 := below_two hB6 hb5
  have HE5 := Lib.hid hE5
  clear cJ hB6 hb5 hE5
  go_wp2
  go_ret
  exact ⟨⟨g5, c5, rfl, by rw [HO.out]; exact HE5.out, q1, q2⟩, hB7⟩

end Go.Proofs.YtdclfcfdadkmeaaDoor
