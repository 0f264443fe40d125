/-
  Contracts of own and Owners: the map of owners.
-/
import Derived.Test.YtledjabhbakdeaaOwn10
import Derived.Test.YtledjabhbakdeaaEqTwo
import Derived.Test.YtledjabhbakdeaaAppRow
namespace Go.Proofs.Ytledjabhbakdeaa
open Go.RowKit Go.Maps Go.ChangeMaps
set_option linter.unusedVariables false

theorem om_grown {w w' : World} {b : Nat} {s : Sz} {st pt : Nat} {ps : List Nat} (h : OM w b s st pt ps) (hb : Below w.heap.size w w') : OM w' b s st pt ps := h.below hb
theorem zero_ints (w : World) : (zeroValue 46).run Try.prog w = .ok (.slice none 0 0) w := by kernel_rfl

theorem grown_row {w w' : World} {b : Nat} (h : w.grownBy w' none) : w.grownBy w' (some b) := ⟨h.os, h.tape, h.output, h.size, fun i hi hne => h.block i hi (by simp)⟩
/-- one head's owner is laid into the map -/
theorem om_add {wq : World} {b : Nat} {s : Sz} {st pt : Nat} {ps : List Nat} (hO : OM wq b s st pt ps) {l h n : Nat} (hl : l < s.l) (hh : h < s.h) (hL : s.l ≤ 16) (hH : s.h ≤ 16) (ho : owner s st pt l h = n) (hno : l * s.h + h ∉ ps) (hps : ps.length ≤ 1000) :
    ∃ (stp : Nat) (w3 w4 w5 : World) (g cap : Nat),
      (Instr.mapEntry 44 (.map (some b)) (.agg #[.int .i64 l, .int .i64 h])).run Try.prog ((wq.alloc (.cells #[.int .i64 l, .int .i64 h] 29)).alloc (.cells #[.int .i64 n] 3)) = .ok (.tuple #[.slice none 0 0, goInt stp]) w3 ∧
      Sem.run Try.prog (Builtin.append_ #[46, 46] 46 #[.slice none 0 0, .slice (some ⟨wq.heap.size + 1, 0, none⟩) 1 1]) w3 = .ok (.slice (some ⟨g, 0, none⟩) 1 cap) w4 ∧
      (Instr.entryStore 44 (.map (some b)) (goInt stp) (.slice (some ⟨g, 0, none⟩) 1 cap)).run Try.prog w4 = .ok () w5 ∧
      OM w5 b s st pt (ps ++ [l * s.h + h]) ∧ wq.grownBy w5 (some b) := by
  have hblt := hO.lt
  obtain ⟨D, h1, h2, h3⟩ := hO
  have hkey := key_mk (p := l) (i := h) (by omega) (by omega)
  have hnd : Maps.has D (keyP l h) = false := by rw [(h3 l h hl hh).1, decide_eq_false hno]
  have h1' := (World.ownsMap.alloc (World.ownsMap.alloc h1 (.cells #[.int .i64 l, .int .i64 h] 29)) (.cells #[.int .i64 n] 3))
  obtain ⟨stp, w3, r1, g3, hst⟩ := entry_new h1' arr2.law Try.underlying44 (z := .slice none 0 0) zero_ints (by unfold maxLen; omega) hkey hnd
  obtain ⟨i0, hi, hz0, hz1, hz2⟩ := info_int
  have hcell0 : ((wq.alloc (.cells #[.int .i64 l, .int .i64 h] 29)).alloc (.cells #[.int .i64 n] 3)).cell? ⟨wq.heap.size + 1, 0, none⟩ = some (.int .i64 n) := by
    simp
  have hsz2 : ((wq.alloc (.cells #[.int .i64 l, .int .i64 h] 29)).alloc (.cells #[.int .i64 n] 3)).heap.size = wq.heap.size + 2 := by simp
  have hcell : w3.cell? ⟨wq.heap.size + 1, 0, none⟩ = some (.int .i64 n) := by
    rw [g3.cell_far _ (by rw [hsz2]; show wq.heap.size + 1 < _; omega) (by simp; omega)]
    exact hcell0
  have s3 := g3.size
  rw [hsz2] at s3
  obtain ⟨v', w4, hr, h4, g4, _, hat⟩ := run_append_own_at (P := Try.prog) w3 0 46 46 3 i0 _ 1 8 Try.underlying46 hi hz0 hz1 hz2 rfl (by omega) (.slice none 0 0) 0 [] (World.ownsRow_nil _ _ _ _)
    ⟨wq.heap.size + 1, 0, none⟩ 1 1 [.int .i64 n] rfl (by
      intro j u hu
      match j, hu with
      | 0, hu => simp only [List.getElem?_cons_zero, Option.some.injEq] at hu; subst hu; rw [add_plain']; exact hcell) (by intro u hu; simp only [List.mem_singleton] at hu; subst hu; rfl) (by unfold maxLen; omega) (by omega) (by omega)
  rcases h4.2 with ⟨_, h0⟩ | ⟨g, cap, cur, hv, hb0, hg, hnc, hcm, hcs, htk⟩
  · omega
  · have hgn : g = w3.heap.size := by
      rw [hv] at hat
      rcases hat with h | h
      · cases h
      · simpa [Value.ownBlock] using h
    subst hv
    have hgc : w4.cell? ⟨g, 0, none⟩ = some (.int .i64 n) := by
      have := h4.cellAt 0 (by omega)
      simpa using this
    obtain ⟨w5, r5, hm5, g5⟩ := hst w4 (.slice (some ⟨g, 0, none⟩) 1 cap) _ _ (g4.block b (by omega) (by simp [Value.ownBlock])) (sl1_mk g cap)
    have gg : wq.grownBy w4 (some b) := ((World.grownBy_alloc wq _ (some b)).trans (World.grownBy_alloc _ _ (some b))).trans (g3.trans (grown_row g4))
    have s4 := g4.size
    refine ⟨stp, w3, w4, w5, g, cap, r1, hr, r5, ?_, gg.trans g5⟩
    refine om_step h1 h2 h3 (fun g' hg' v hv' => ?_) hl hh hL hH hno (by simpa using hm5) (by omega) ?_
    · rw [(gg.trans g5).cell_far ⟨g', 0, none⟩ (World.block_lt_of_cell? _ _ hv') (by simp; omega)]
      exact hv'
    · rw [g5.cell_far ⟨g, 0, none⟩ (World.block_lt_of_cell? _ _ hgc) (by simp; omega), ho]
      exact hgc

set_option maxHeartbeats 6400000 in
set_option maxRecDepth 100000 in
theorem own_any (s : Sz) (hs : s.Tiny) (st pt n : Nat) (oc : OkC s.l s.h s.i st pt) (hst : st ≤ 3) (hpt : pt ≤ 8) (hn : n < st * pt) (W : World) (b : Nat) (ps : List Nat) (hO : OM W b s st pt ps) (hV : Vis s st pt ps n 0 0) :
    Calls Try.prog 28 #[.map (some b), s.val, cutv st pt, .int .i64 n] W fun e w' => e = .returned (.tuple #[]) ∧ (∃ ps', OM w' b s st pt ps' ∧ Vis s st pt ps' (n + 1) 0 0) ∧ Below b W w' := by
  have hok := hs.1
  obtain ⟨bl, bh, bw, bi, bv, bp⟩ := hok.bd
  have r : SaysR s.l s.w s.h s.i s.v s.p st pt true := fun W => sright_yes _ _ _ _ _ _ _ _ W hok oc
  obtain ⟨s0, s1x, p0, p1, p2, p3⟩ := oc
  have wh := fun W => where_yes st pt n W (by omega) (by omega) hn
  have a1 : n / pt < st := (Nat.div_lt_iff_lt_mul (by omega)).2 hn
  have a2 : n % pt < pt := Nat.mod_lt n (by omega)
  have LY := fun W => layers_yes s.l s.w s.h s.i s.v s.p st pt (n / pt) s.l st W r rfl rfl (by omega) a1 (by omega)
  have HY := fun W => heads_yes s.l s.w s.h s.i s.v s.p st pt (n % pt) s.h pt W r rfl rfl (by omega) a2 (by omega)
  have OS := Lib.hid (fun l h (hh : h < s.h) => owner_span (s := s) (st := st) (pt := pt) (l := l) (h := h) (n := n) (by omega) (by omega) (by omega) (by omega) hh)
  have L1 := span_le s.l st (n / pt + 1) (by omega)
  have L2 := span_mono s.l st (n / pt) (n / pt + 1) (by omega)
  have H1 := span_le s.h pt (n % pt + 1) (by omega)
  have H2 := span_mono s.h pt (n % pt) (n % pt + 1) (by omega)
  generalize spanAt s.l st (n / pt) = l0 at *
  generalize spanAt s.l st (n / pt + 1) = l1 at *
  generalize spanAt s.h pt (n % pt) = h0 at *
  generalize spanAt s.h pt (n % pt + 1) = h1 at *
  have hV2 := Lib.hid (vis_move (l1 := l0) (h1 := h0) hV (fun l h hl hh e => by have := (OS.out l h hh).1 e; omega))
  generalize n / pt = na at *
  generalize n % pt = nb at *
  have n24 : n < 24 := by have := Nat.mul_le_mul hst hpt; omega
  have hl16 : s.l ≤ 16 := bl.2
  have hh16 : s.h ≤ 16 := bh.2
  have hwf : (Lit.int .i64 (n : Int)).wf = true := WalkArith.wf_i64 (by omega)
  have HO := Lib.hid hO
  have hblt := hO.lt
  unfold Sz.val shv cutv at *
  clear r hV hO hs hok p1 p2 p3 a1 a2
  go_enter Try.func28, Try.ntmps28
  go_wp2_with fail
  refine (wh _).mono ?_
  rintro e wa ⟨rfl, hb⟩
  have XS := ((box_new W _ _).alloc _).bel hb
  have XC := (box_at (show W.heap.size + 1 = (W.alloc _).heap.size by simp) _ _).bel hb
  have B := below_two (((Below.refl W.heap.size W).alloc (Nat.le_refl _) _).alloc (by simp) _) hb
  obtain ⟨c0, c1, c2, c3, c4, c5⟩ := (XS.alloc (.cells #[Value.int .i64 na, .int .i64 nb] 29)).cells6
  obtain ⟨d0, d1⟩ := two_cells (XC.alloc (.cells #[Value.int .i64 na, .int .i64 nb] 29))
  clear hb wh
  go_wp2_with fail
  refine (LY _).mono ?_
  rintro e wb ⟨rfl, hb⟩
  clear c0 c1 c2 c3 c4 c5 d0 d1
  replace XS := (XS.alloc _).bel hb
  replace XC := (XC.alloc _).bel hb
  have XA := (box_new wa _ _).bel hb
  replace B := below_two (B.alloc B.size _) hb
  have zb := B.size
  obtain ⟨c0, c1, c2, c3, c4, c5⟩ := (XS.alloc (.cells #[Value.int .i64 l0, .int .i64 l1] 29)).cells6
  obtain ⟨d0, d1⟩ := two_cells (XC.alloc (.cells #[Value.int .i64 l0, .int .i64 l1] 29))
  obtain ⟨y0, y1⟩ := two_cells (XA.alloc (.cells #[Value.int .i64 l0, .int .i64 l1] 29))
  clear hb LY
  go_wp2_with fail
  refine (HY _).mono ?_
  rintro e wc ⟨rfl, hb⟩
  clear c0 c1 c2 c3 c4 c5 d0 d1 y0 y1
  have XB := (box_new wb _ _).bel hb
  replace B := below_two (B.alloc B.size _) hb
  have zc := B.size
  have XD := box_new wc 29 #[Value.int .i64 h0, .int .i64 h1]
  clear hb HY XS XC XA
  go_upto_region 4 with (fail)
  replace XB := XB.alloc (.cells #[Value.int .i64 h0, .int .i64 h1] 29)
  replace B := B.alloc B.size (.cells #[Value.int .i64 h0, .int .i64 h1] 29)
  have hsz : wb.heap.size < (wc.alloc (.cells #[Value.int .i64 h0, .int .i64 h1] 29)).heap.size ∧ wc.heap.size < (wc.alloc (.cells #[Value.int .i64 h0, .int .i64 h1] 29)).heap.size := ⟨XB.lt, by simp⟩
  have hO2 := HO.out.below B
  generalize hwd : wc.alloc (.cells #[Value.int .i64 h0, .int .i64 h1] 29) = wd at *
  have hgb : b < wb.heap.size ∧ b < wc.heap.size := ⟨by omega, by omega⟩
  generalize wb.heap.size = gb at *
  generalize wc.heap.size = gc at *
  have ST := Lib.hid (And.intro hO2 hV2.out)
  have NB : Hid (some gb ≠ some b ∧ some gc ≠ some b) := Lib.hid ⟨by simp; omega, by simp; omega⟩
  have HXB := Lib.hid XB
  have HXD := Lib.hid XD
  have HB := Lib.hid B
  obtain ⟨y0, y1⟩ := two_cells XB
  clear hO2 hV2 hwd hgb hsz XB XD B HO zb zc
  go_wp2_with fail
  clear y0 y1
  go_loopw [14] (fun x wr => ∃ (l : Nat) (ps : List Nat), l0 ≤ l ∧ l ≤ l1 ∧ x = .int .i64 l ∧ Hid (OM wr b s st pt ps ∧ Vis s st pt ps n l h0) ∧ Hid (wd.grownBy wr (some b))) (fun x _ => l1 - (intOf x).toNat)
  case atStart => exact ⟨l0, ps, by omega, L2, rfl, ST, Lib.hid (grownBy_refl _ _)⟩
  case round =>
    obtain ⟨l, qs, hl1, hl2, rfl, hst1, hg1⟩ := hrel
    obtain ⟨y0, y1⟩ := two_cells (HXB.out.kept hg1.out NB.out.1)
    obtain ⟨z0, z1⟩ := two_cells (HXD.out.kept hg1.out NB.out.2)
    by_cases hlt : l < l1
    · have i1 : (l : Int) < (l1 : Int) := by omega
      go_wp2_with fail
      clear y0 y1 z0 z1
      go_loopw [15] (fun x wq => ∃ (h : Nat) (ps : List Nat), h0 ≤ h ∧ h ≤ h1 ∧ x = .int .i64 h ∧ Hid (OM wq b s st pt ps ∧ Vis s st pt ps n l h) ∧ Hid (wd.grownBy wq (some b))) (fun x _ => h1 - (intOf x).toNat)
      case atStart => exact ⟨h0, qs, by omega, H2, rfl, hst1, hg1⟩
      case round =>
        obtain ⟨h, rs, hh1, hh2, rfl, hst2, hg2⟩ := hrel
        obtain ⟨y0, y1⟩ := two_cells (HXB.out.kept hg2.out NB.out.1)
        obtain ⟨z0, z1⟩ := two_cells (HXD.out.kept hg2.out NB.out.2)
        by_cases hlt2 : h < h1
        · have ho : owner s st pt l h = n := (OS.out l h (by omega)).2 ⟨⟨by omega, by omega⟩, by omega, by omega⟩
          obtain ⟨v2, hno⟩ := vis_step hst2.out.2 (show l < s.l by omega) (show h < s.h by omega) ho
          have hlen : rs.length ≤ 1000 := by
            have hnd := hst2.out.2.1
            have hsub : ∀ c ∈ rs, c ∈ List.range (s.l * s.h) := fun c hc => List.mem_range.2 (hst2.out.2.2.1 c hc)
            have := List.Nodup.length_le_of_subset hnd hsub
            have h2 := Nat.mul_le_mul hl16 hh16
            rw [List.length_range] at this
            omega
          obtain ⟨stp, w3, w4, w5, g, cap, r1, r2, r3, ho5, g5⟩ := om_add hst2.out.1 (show l < s.l by omega) (show h < s.h by omega) hl16 hh16 ho hno hlen
          have ST5 := Lib.hid (And.intro ho5 v2)
          have G5 := Lib.hid (hg2.out.trans g5)
          have i2 : (h : Int) < (h1 : Int) := by omega
          clear ho v2 hno hlen ho5 g5 y0 y1 hst1 hst2 hg1
          go_wp2_with (first
            | (refine wpList_mapEntry_at (by rfl) _ _ 44 (by rfl) _ _ _ (by rfl) (by rfl) r1 ?_)
            | (at_builtin; refine wpList_append_at (by rfl) _ _ _ (by rfl) _ _ (by rfl) (by rfl) r2 ?_)
            | (refine wpList_entryStore_at (by rfl) _ _ _ 44 (by rfl) _ _ _ (by rfl) (by rfl) (by rfl) r3 ?_))
          go_roundw
          case rel => exact ⟨h + 1, _, by omega, by omega, by go_num, ST5, G5⟩
          case measure => simp [intOf]; omega
        · obtain rfl : h = h1 := by omega
          have ST5 : Hid (OM wr b s st pt rs ∧ Vis s st pt rs n (l + 1) h0) := Lib.hid ⟨hst2.out.1, vis_row hst2.out.2 (fun h' hh' e => by have := (OS.out l h' hh').1 e; omega) (fun h' hh' e => by have := (OS.out (l + 1) h' hh').1 e; omega)⟩
          clear hst1 hst2 hg1
          go_wp2
          go_roundw
          case rel => exact ⟨l + 1, rs, by omega, by omega, by go_num, ST5, hg2⟩
          case measure => simp [intOf]; omega
    · obtain rfl : l = l1 := by omega
      have ST5 : Hid (∃ ps', OM wr b s st pt ps' ∧ Vis s st pt ps' (n + 1) 0 0) := Lib.hid ⟨qs, hst1.out.1, vis_next (l1 := l) (vis_move (l1 := l) (h1 := 0) hst1.out.2 (fun l' h' hl' hh' e => by have := (OS.out l' h' hh').1 e; omega)) (fun l' h' hl' hh' e => by have := (OS.out l' h' hh').1 e; omega)⟩
      have BF : Hid (Below b W wr) := Lib.hid (by
        have hz := HB.out.size
        exact (HB.out.mono (by omega)).trans ⟨hg1.out.os, hg1.out.tape, hg1.out.output, hg1.out.size, fun i hi => hg1.out.block i (by omega) (by simp; omega)⟩)
      clear hst1 hg1
      go_wp2
      refine bodyPost_end (v := .tuple #[]) (results_none rfl _ _ _) rfl ?_
      exact ⟨rfl, ST5.out, BF.out⟩

theorem made_owners (w : World) : (Instr.makeMap 44 none).run Try.prog w = .ok (.map (some w.heap.size)) (w.alloc (.map #[] 0)) := by
  simp [Instr.makeMap, Result.andThen]
theorem owners_no (s : Sz) (st pt : Int) (W : World) (r : SaysR s.l s.w s.h s.i s.v s.p st pt false) (x y : Nat) :
    Calls Try.prog 20 #[s.val, cutv st pt] W fun e w' => (∃ b, e = .returned (.map (some b)) ∧ OM w' b s x y []) ∧ Below W.heap.size W w' := by
  have nw := fun W => workers_no _ _ _ _ _ _ _ _ W r
  unfold Sz.val shv cutv at *
  clear r
  have hmm := made_owners
  go_enter Try.func20, Try.ntmps20
  go_wp2_with fail
  refine (nw _).mono ?_
  rintro e wa ⟨rfl, hb⟩
  have hO := (om_made ((W.alloc (.cells #[.int .i64 s.l, .int .i64 s.w, .int .i64 s.h, .int .i64 s.i, .int .i64 s.v, .int .i64 s.p] 23)).alloc (.cells #[.int .i64 st, .int .i64 pt] 25)) s x y).below hb
  have B := below_two ((((Below.refl W.heap.size W).alloc (Nat.le_refl _) _).alloc (by simp) _).alloc (by simp; omega) _) hb
  have HO := Lib.hid hO
  clear hb hO nw hmm
  go_wp2_with fail
  go_loopw [11] (fun x wr => x = .int .i64 0 ∧ wr = wa) (fun x _ => 0 - (intOf x).toNat)
  case atStart => exact ⟨rfl, rfl⟩
  case round =>
    obtain ⟨rfl, rfl⟩ := hrel
    go_wp2
    go_ret
    exact ⟨⟨_, rfl, by simpa using HO.out⟩, B⟩

set_option maxHeartbeats 1600000 in
set_option maxRecDepth 100000 in
theorem owners_yes (s : Sz) (hs : s.Tiny) (st pt : Nat) (oc : OkC s.l s.h s.i st pt) (hst : st ≤ 3) (hpt : pt ≤ 8) (W : World) :
    Calls Try.prog 20 #[s.val, cutv st pt] W fun e w' => (∃ b ps, e = .returned (.map (some b)) ∧ OM w' b s st pt ps ∧ ps.length = s.l * s.h ∧ ∀ l h, l < s.l → h < s.h → l * s.h + h ∈ ps) ∧ Below W.heap.size W w' := by
  have hok := hs.1
  obtain ⟨bl, bh, bw, bi, bv, bp⟩ := hok.bd
  have r : SaysR s.l s.w s.h s.i s.v s.p st pt true := fun W => sright_yes _ _ _ _ _ _ _ _ W hok oc
  have cO := Lib.hid (fun n hn W b ps hO hV => own_any s hs st pt n oc hst hpt hn W b ps hO hV)
  obtain ⟨s0, s1x, p0, p1, p2, p3⟩ := oc
  obtain ⟨z, hz⟩ : ∃ z, z = st * pt := ⟨_, rfl⟩
  have e1 : (st : Int) * (pt : Int) = (z : Int) := by rw [hz]; push_cast; rfl
  have z24 : z ≤ 24 := by rw [hz]; exact Nat.mul_le_mul hst hpt
  have nw := fun W => workers_yes _ _ _ _ _ _ _ _ W z e1 (by omega) r
  have VA := Lib.hid (fun ps (v : Vis s st pt ps (st * pt) 0 0) => vis_all v (by omega) (by omega) (by omega) (by omega))
  rw [← hz] at cO VA
  unfold Sz.val shv cutv at *
  clear r hs hok p1 p2 p3 hz e1
  have hmm := made_owners
  go_enter Try.func20, Try.ntmps20
  go_wp2_with fail
  refine (nw _).mono ?_
  rintro e wa ⟨rfl, hb⟩
  have hO := (om_made ((W.alloc (.cells #[.int .i64 s.l, .int .i64 s.w, .int .i64 s.h, .int .i64 s.i, .int .i64 s.v, .int .i64 s.p] 23)).alloc (.cells #[.int .i64 st, .int .i64 pt] 25)) s st pt).below hb
  have XS := (((box_new W _ _).alloc _).alloc _).bel hb
  have XC := ((box_at (show W.heap.size + 1 = (W.alloc _).heap.size by simp) _ _).alloc _).bel hb
  have B := below_two ((((Below.refl W.heap.size W).alloc (Nat.le_refl _) _).alloc (by simp) _).alloc (by simp; omega) _) hb
  have HO : Hid (OM wa (W.heap.size + 2) s st pt []) := Lib.hid (by simpa using hO)
  have HS := Lib.hid XS
  have HC := Lib.hid XC
  have hsz : W.heap.size + 2 < wa.heap.size := HO.out.lt
  clear hb hO nw XS XC hmm
  go_wp2_with fail
  go_loopw [11] (fun x wr => ∃ (n : Nat) (ps : List Nat), n ≤ z ∧ x = .int .i64 n ∧ Hid (OM wr (W.heap.size + 2) s st pt ps ∧ Vis s st pt ps n 0 0) ∧ Hid (Below (W.heap.size + 2) wa wr)) (fun x _ => z - (intOf x).toNat)
  case atStart => exact ⟨0, [], by omega, rfl, Lib.hid ⟨HO.out, vis_start s st pt⟩, Lib.hid (Below.refl _ _)⟩
  case round =>
    obtain ⟨n, ps, hn, rfl, hst1, hbel⟩ := hrel
    obtain ⟨c0, c1, c2, c3, c4, c5⟩ := (HS.out.below hbel.out (by omega)).cells6
    obtain ⟨d0, d1⟩ := two_cells (HC.out.below hbel.out (by omega))
    by_cases hlt : n < z
    · have i1 : (n : Int) < (z : Int) := by omega
      have co := cO.out n hlt wr (W.heap.size + 2) ps hst1.out.1 hst1.out.2
      go_wp2_with fail
      refine co.mono ?_
      rintro e wb ⟨rfl, ⟨ps', h1, h2⟩, hb⟩
      have ST := Lib.hid (And.intro h1 h2)
      have BB := Lib.hid (hbel.out.trans hb)
      clear c0 c1 c2 c3 c4 c5 d0 d1 co h1 h2 hb hst1 hbel
      go_wp2
      go_roundw
      case rel => exact ⟨n + 1, ps', by omega, by go_num, ST, BB⟩
      case measure => simp [intOf]; omega
    · obtain rfl : n = z := by omega
      have FIN := Lib.hid (VA.out ps hst1.out.2)
      have BF := Lib.hid (B.trans (hbel.out.mono (by omega)))
      clear c0 c1 c2 c3 c4 c5 d0 d1
      go_wp2
      go_ret
      exact ⟨⟨_, ps, rfl, hst1.out.1, FIN.out⟩, BF.out⟩

end Go.Proofs.Ytledjabhbakdeaa
