/-
  Proved: for any twelve numbers and any place WeightApart returns true (weights that differ in one number have unlike files of one length; models of unlike shapes have unlike files, of the same shape the same) and nothing that was in memory turns. No condition.
-/
import Derived.Test.YtlgnpicnpnibfaaRows
import Derived.WalkKit
import Derived.ProofKit
import Derived.OpenShut
import Derived.ShutString
import Derived.ChangeOld
import Derived.Below
import Derived.Test.YtlgnpicnpnibfaaShapeRow
import Derived.Test.YtlgnpicnpnibfaaAwake7
import Derived.Test.YtlgnpicnpnibfaaTiny
import Derived.Test.YtlgnpicnpnibfaaGrown
import Derived.Test.YtlgnpicnpnibfaaFile
import Derived.Test.YtlgnpicnpnibfaaFileBack
import Derived.Test.YtlgnpicnpnibfaaBytes7
import Derived.Test.YtlgnpicnpnibfaaOwnCut
import Derived.Deep.RegionHeld3
import Derived.Deep.CutRange
import Derived.Test.YtlgnpicnpnibfaaRegInv
import Derived.Test.YtlgnpicnpnibfaaApart7
namespace Go.Proofs.Ytlgnpicnpnibfaa.weightApart
open Go.ChangeShapes Go.WideShapes Go.ChangeAt Go.RowKit
open Go.ChangeMaps (open_string shut_string)
set_option linter.unusedVariables false

theorem own : ownKnob Try.prog.godebug = none := by kernel_rfl
theorem laidOut : laidOutB Try.prog = true := by kernel_rfl

set_option maxHeartbeats 6400000 in
set_option maxRecDepth 100000 in
theorem walk (sl0 sw0 sh0 si0 sv0 sp0 : Int) (sl1 sw1 sh1 si1 sv1 sp1 : Int) (a2 : Int) (w : World) (h0 : Six sl0 sw0 sh0 si0 sv0 sp0) (h1 : Six sl1 sw1 sh1 si1 sv1 sp1) (h2 : (Lit.int .i64 a2).wf = true) :
    Calls Try.prog 9 #[.agg #[.int .i64 sl0, .int .i64 sw0, .int .i64 sh0, .int .i64 si0, .int .i64 sv0, .int .i64 sp0], .agg #[.int .i64 sl1, .int .i64 sw1, .int .i64 sh1, .int .i64 si1, .int .i64 sv1, .int .i64 sp1], .int .i64 a2] w fun e w' => e = .returned (.bool true) ∧ Below w.heap.size w w' := by
  clear h0 h1 h2
  go_enter Try.func9, Try.ntmps9
  go_wp2_with fail
  refine (awake7 _).mono ?_
  rintro e w1 ⟨rfl, hb1⟩
  have HX1 : Hid (Box w1 w.heap.size 37 #[.int .i64 sl0, .int .i64 sw0, .int .i64 sh0, .int .i64 si0, .int .i64 sv0, .int .i64 sp0]) := Lib.hid (((box_new w _ _).alloc _).bel hb1)
  have HY1 : Hid (Box w1 (w.heap.size + 1) 37 #[.int .i64 sl1, .int .i64 sw1, .int .i64 sh1, .int .i64 si1, .int .i64 sv1, .int .i64 sp1]) := Lib.hid ((box_at (by simp) _ _).bel hb1)
  have HB1 := Lib.hid (below_two (((Below.refl w.heap.size w).alloc (Nat.le_refl _) _).alloc (by simp) _) hb1)
  have hlt1 : w.heap.size + 1 < w1.heap.size := HY1.out.lt
  clear hb1
  obtain ⟨z0, z1, z2, z3, z4, z5⟩ := HX1.out.cells6
  obtain ⟨y0, y1, y2, y3, y4, y5⟩ := HY1.out.cells6
  go_upto_region 3 with fail
  clear z0 z1 z2 z3 z4 z5 y0 y1 y2 y3 y4 y5
  refine region_inv2 [25, 26, 27, 28, 7, 8] (fun listed a W => ∃ (g7 g8 : Nat) (s u : Sz) (cs7 cs8 : Array Value), (listed.getD 0 false = true → a.tmps.getD 25 undef = .agg #[.int .i64 sl0, .int .i64 sw0, .int .i64 sh0, .int .i64 si0, .int .i64 sv0, .int .i64 sp0]) ∧ (listed.getD 1 false = true → a.tmps.getD 26 undef = .agg #[.int .i64 s.l, .int .i64 s.w, .int .i64 s.h, .int .i64 s.i, .int .i64 s.v, .int .i64 s.p] ∧ s.Tiny) ∧ (listed.getD 2 false = true → a.tmps.getD 27 undef = .agg #[.int .i64 sl1, .int .i64 sw1, .int .i64 sh1, .int .i64 si1, .int .i64 sv1, .int .i64 sp1]) ∧ (listed.getD 3 false = true → a.tmps.getD 28 undef = .agg #[.int .i64 u.l, .int .i64 u.w, .int .i64 u.h, .int .i64 u.i, .int .i64 u.v, .int .i64 u.p] ∧ u.Tiny) ∧ (listed.getD 4 false = true → a.tmps.getD 7 undef = .pointer (some ⟨g7, 0, none⟩) ∧ w1.heap.size ≤ g7 ∧ Box W g7 30 cs7 ∧ cs7.size = 6 ∧ (listed.getD 6 false = true → cs7 = #[.int .i64 s.l, .int .i64 s.w, .int .i64 s.h, .int .i64 s.i, .int .i64 s.v, .int .i64 s.p])) ∧ (listed.getD 5 false = true → a.tmps.getD 8 undef = .pointer (some ⟨g8, 0, none⟩) ∧ w1.heap.size ≤ g8 ∧ Box W g8 30 cs8 ∧ cs8.size = 6 ∧ (listed.getD 7 false = true → cs8 = #[.int .i64 u.l, .int .i64 u.w, .int .i64 u.h, .int .i64 u.i, .int .i64 u.v, .int .i64 u.p])) ∧ (listed.getD 4 false = true → listed.getD 5 false = true → g7 ≠ g8) ∧ (listed.getD 6 false = true → listed.getD 4 false = true ∧ listed.getD 1 false = true) ∧ (listed.getD 7 false = true → listed.getD 5 false = true ∧ listed.getD 3 false = true) ∧ Below w1.heap.size w1 W) (by kernel_rfl) rfl ?h0 ?step ?fin
  case h0 =>
    have hno : ∀ j, (Array.replicate 8 false).getD j false = false := fun j => by simp [Array.getD]
    refine ⟨0, 0, ⟨0, 0, 0, 0, 0, 0⟩, ⟨0, 0, 0, 0, 0, 0⟩, #[], #[], ?_, ?_, ?_, ?_, ?_, ?_, ?_, ?_, ?_, (Below.refl _ _).drew⟩ <;> (intro h; exact absurd (h.symm.trans (hno _)) (by simp))
  case step =>
    intro i o listed a W K ho hs hun hw h hk next
    obtain ⟨g7, g8, s, u, cs7, cs8, f0, f1, f2, f3, f4, f5, f6, f7, f8, hb⟩ := h
    have hi : i = 0 ∨ i = 1 ∨ i = 2 ∨ i = 3 ∨ i = 4 ∨ i = 5 ∨ i = 6 ∨ i = 7 := by have := (Array.getElem?_eq_some_iff.1 ho).1; simp only [List.size_toArray, List.length_cons, List.length_nil] at this; omega
    have hset : ∀ j k, (listed.setIfInBounds j true).getD k false = true → j ≠ k → listed.getD k false = true := fun j k h hne => by simpa [Array.getD_eq_getD_getElem?, Array.getElem?_setIfInBounds, hne] using h
    have hmono : ∀ j k, listed.getD k false = true → (listed.setIfInBounds j true).getD k false = true := by
      intro j k h
      by_cases e : j = k
      · subst e
        have hl : j < listed.size := by apply Classical.byContradiction; intro hh; simp [Array.getD, hh] at h
        simp [Array.getD_eq_getD_getElem?, hl]
      · simpa [Array.getD_eq_getD_getElem?, Array.getElem?_setIfInBounds, e] using h
    rcases hi with rfl | rfl | rfl | rfl | rfl | rfl | rfl | rfl
    · obtain rfl := Option.some.inj ho
      have e3 : a.tmps.getD 3 undef = .pointer (some ⟨w.heap.size, 0, none⟩) := (hk.1 3 (by decide)).trans rfl
      have G : ∀ t, t ≠ 25 → (a.put (some 25) (.agg #[.int .i64 sl0, .int .i64 sw0, .int .i64 sh0, .int .i64 si0, .int .i64 sv0, .int .i64 sp0])).tmps.getD t undef = a.tmps.getD t undef := fun t ht => (hk.get (show 25 < 124 by decide) t _).trans (if_neg ht)
      have Gd : (a.put (some 25) (.agg #[.int .i64 sl0, .int .i64 sw0, .int .i64 sh0, .int .i64 si0, .int .i64 sv0, .int .i64 sp0])).tmps.getD 25 undef = .agg #[.int .i64 sl0, .int .i64 sw0, .int .i64 sh0, .int .i64 si0, .int .i64 sv0, .int .i64 sp0] := (hk.get (show 25 < 124 by decide) 25 _).trans (if_pos rfl)
      have KK := hk.put (d := 25) (by decide) (show 25 < 124 by decide) (.agg #[.int .i64 sl0, .int .i64 sw0, .int .i64 sh0, .int .i64 si0, .int .i64 sv0, .int .i64 sp0])
      refine wpOp_run rfl rfl (wp_load_row _ _ rfl (w.heap.size) e3 37 #[.int .i64 sl0, .int .i64 sw0, .int .i64 sh0, .int .i64 si0, .int .i64 sv0, .int .i64 sp0] (0, 0) _ (HX1.out.bel hb) Try.underlying37 rfl (by kernel_rfl) ?_)
      exact next _ W ⟨g7, g8, s, u, cs7, cs8, fun _ => Gd, fun h => ⟨(G 26 (by decide)).trans (f1 (hset 0 1 h (by decide))).1, (f1 (hset 0 1 h (by decide))).2⟩, fun h => (G 27 (by decide)).trans (f2 (hset 0 2 h (by decide))), fun h => ⟨(G 28 (by decide)).trans (f3 (hset 0 3 h (by decide))).1, (f3 (hset 0 3 h (by decide))).2⟩, fun h => ⟨(G 7 (by decide)).trans (f4 (hset 0 4 h (by decide))).1, (f4 (hset 0 4 h (by decide))).2.1, id (f4 (hset 0 4 h (by decide))).2.2.1, (f4 (hset 0 4 h (by decide))).2.2.2.1, fun h6 => (f4 (hset 0 4 h (by decide))).2.2.2.2 (hset 0 6 h6 (by decide))⟩, fun h => ⟨(G 8 (by decide)).trans (f5 (hset 0 5 h (by decide))).1, (f5 (hset 0 5 h (by decide))).2.1, id (f5 (hset 0 5 h (by decide))).2.2.1, (f5 (hset 0 5 h (by decide))).2.2.2.1, fun h7 => (f5 (hset 0 5 h (by decide))).2.2.2.2 (hset 0 7 h7 (by decide))⟩, fun h4 h5 => f6 (hset 0 4 h4 (by decide)) (hset 0 5 h5 (by decide)), fun h => ⟨hmono 0 4 (f7 (hset 0 6 h (by decide))).1, hmono 0 1 (f7 (hset 0 6 h (by decide))).2⟩, fun h => ⟨hmono 0 5 (f8 (hset 0 7 h (by decide))).1, hmono 0 3 (f8 (hset 0 7 h (by decide))).2⟩, hb⟩ KK
    · obtain rfl := Option.some.inj ho
      have e3 : a.tmps.getD 25 undef = .agg #[.int .i64 sl0, .int .i64 sw0, .int .i64 sh0, .int .i64 si0, .int .i64 sv0, .int .i64 sp0] := f0 (hw 0 (by decide))
      have HW2 := Lib.hid hb
      have N := Lib.hid next
      have HK := Lib.hid hk
      have HF := Lib.hid (And.intro f0 (And.intro f1 (And.intro f2 (And.intro f3 (And.intro f4 (And.intro f5 (And.intro f6 (And.intro f7 f8))))))))
      have HS := Lib.hid (And.intro hset (And.intro hmono hun))
      refine wpOp_run rfl rfl ?_
      unfold Oper.wp
      clear hw next hk f0 f1 f2 f3 f4 f5 f6 f7 f8 hset hmono hun hs ho hb hlt1
      go_simp
      refine (tiny_any _ _ _ _ _ _ W).mono ?_
      rintro e W' ⟨⟨s', hs', rfl⟩, hb2⟩
      have hb := HW2.out
      have next := N.out
      have hk := HK.out
      obtain ⟨f0, f1, f2, f3, f4, f5, f6, f7, f8⟩ := HF.out
      obtain ⟨hset, hmono, hun⟩ := HS.out
      have G : ∀ t, t ≠ 26 → (a.put (some 26) (s'.val)).tmps.getD t undef = a.tmps.getD t undef := fun t ht => (hk.get (show 26 < 124 by decide) t _).trans (if_neg ht)
      have Gd : (a.put (some 26) (s'.val)).tmps.getD 26 undef = s'.val := (hk.get (show 26 < 124 by decide) 26 _).trans (if_pos rfl)
      have KK := hk.put (d := 26) (by decide) (show 26 < 124 by decide) (s'.val)
      exact next _ W' ⟨g7, g8, s', u, cs7, cs8, fun h => (G 25 (by decide)).trans (f0 (hset 1 0 h (by decide))), fun _ => ⟨Gd, hs'⟩, fun h => (G 27 (by decide)).trans (f2 (hset 1 2 h (by decide))), fun h => ⟨(G 28 (by decide)).trans (f3 (hset 1 3 h (by decide))).1, (f3 (hset 1 3 h (by decide))).2⟩, fun h => ⟨(G 7 (by decide)).trans (f4 (hset 1 4 h (by decide))).1, (f4 (hset 1 4 h (by decide))).2.1, (fun x => Box.bel x hb2) (f4 (hset 1 4 h (by decide))).2.2.1, (f4 (hset 1 4 h (by decide))).2.2.2.1, fun h6 => absurd ((f7 (hset 1 6 h6 (by decide))).2) (by rw [hun]; simp)⟩, fun h => ⟨(G 8 (by decide)).trans (f5 (hset 1 5 h (by decide))).1, (f5 (hset 1 5 h (by decide))).2.1, (fun x => Box.bel x hb2) (f5 (hset 1 5 h (by decide))).2.2.1, (f5 (hset 1 5 h (by decide))).2.2.2.1, fun h7 => (f5 (hset 1 5 h (by decide))).2.2.2.2 (hset 1 7 h7 (by decide))⟩, fun h4 h5 => f6 (hset 1 4 h4 (by decide)) (hset 1 5 h5 (by decide)), fun h => ⟨hmono 1 4 (f7 (hset 1 6 h (by decide))).1, hmono 1 1 (f7 (hset 1 6 h (by decide))).2⟩, fun h => ⟨hmono 1 5 (f8 (hset 1 7 h (by decide))).1, hmono 1 3 (f8 (hset 1 7 h (by decide))).2⟩, (below_two hb hb2)⟩ KK
    · obtain rfl := Option.some.inj ho
      have e3 : a.tmps.getD 4 undef = .pointer (some ⟨w.heap.size + 1, 0, none⟩) := (hk.1 4 (by decide)).trans rfl
      have G : ∀ t, t ≠ 27 → (a.put (some 27) (.agg #[.int .i64 sl1, .int .i64 sw1, .int .i64 sh1, .int .i64 si1, .int .i64 sv1, .int .i64 sp1])).tmps.getD t undef = a.tmps.getD t undef := fun t ht => (hk.get (show 27 < 124 by decide) t _).trans (if_neg ht)
      have Gd : (a.put (some 27) (.agg #[.int .i64 sl1, .int .i64 sw1, .int .i64 sh1, .int .i64 si1, .int .i64 sv1, .int .i64 sp1])).tmps.getD 27 undef = .agg #[.int .i64 sl1, .int .i64 sw1, .int .i64 sh1, .int .i64 si1, .int .i64 sv1, .int .i64 sp1] := (hk.get (show 27 < 124 by decide) 27 _).trans (if_pos rfl)
      have KK := hk.put (d := 27) (by decide) (show 27 < 124 by decide) (.agg #[.int .i64 sl1, .int .i64 sw1, .int .i64 sh1, .int .i64 si1, .int .i64 sv1, .int .i64 sp1])
      refine wpOp_run rfl rfl (wp_load_row _ _ rfl (w.heap.size + 1) e3 37 #[.int .i64 sl1, .int .i64 sw1, .int .i64 sh1, .int .i64 si1, .int .i64 sv1, .int .i64 sp1] (0, 0) _ (HY1.out.bel hb) Try.underlying37 rfl (by kernel_rfl) ?_)
      exact next _ W ⟨g7, g8, s, u, cs7, cs8, fun h => (G 25 (by decide)).trans (f0 (hset 2 0 h (by decide))), fun h => ⟨(G 26 (by decide)).trans (f1 (hset 2 1 h (by decide))).1, (f1 (hset 2 1 h (by decide))).2⟩, fun _ => Gd, fun h => ⟨(G 28 (by decide)).trans (f3 (hset 2 3 h (by decide))).1, (f3 (hset 2 3 h (by decide))).2⟩, fun h => ⟨(G 7 (by decide)).trans (f4 (hset 2 4 h (by decide))).1, (f4 (hset 2 4 h (by decide))).2.1, id (f4 (hset 2 4 h (by decide))).2.2.1, (f4 (hset 2 4 h (by decide))).2.2.2.1, fun h6 => (f4 (hset 2 4 h (by decide))).2.2.2.2 (hset 2 6 h6 (by decide))⟩, fun h => ⟨(G 8 (by decide)).trans (f5 (hset 2 5 h (by decide))).1, (f5 (hset 2 5 h (by decide))).2.1, id (f5 (hset 2 5 h (by decide))).2.2.1, (f5 (hset 2 5 h (by decide))).2.2.2.1, fun h7 => (f5 (hset 2 5 h (by decide))).2.2.2.2 (hset 2 7 h7 (by decide))⟩, fun h4 h5 => f6 (hset 2 4 h4 (by decide)) (hset 2 5 h5 (by decide)), fun h => ⟨hmono 2 4 (f7 (hset 2 6 h (by decide))).1, hmono 2 1 (f7 (hset 2 6 h (by decide))).2⟩, fun h => ⟨hmono 2 5 (f8 (hset 2 7 h (by decide))).1, hmono 2 3 (f8 (hset 2 7 h (by decide))).2⟩, hb⟩ KK
    · obtain rfl := Option.some.inj ho
      have e3 : a.tmps.getD 27 undef = .agg #[.int .i64 sl1, .int .i64 sw1, .int .i64 sh1, .int .i64 si1, .int .i64 sv1, .int .i64 sp1] := f2 (hw 2 (by decide))
      have HW2 := Lib.hid hb
      have N := Lib.hid next
      have HK := Lib.hid hk
      have HF := Lib.hid (And.intro f0 (And.intro f1 (And.intro f2 (And.intro f3 (And.intro f4 (And.intro f5 (And.intro f6 (And.intro f7 f8))))))))
      have HS := Lib.hid (And.intro hset (And.intro hmono hun))
      refine wpOp_run rfl rfl ?_
      unfold Oper.wp
      clear hw next hk f0 f1 f2 f3 f4 f5 f6 f7 f8 hset hmono hun hs ho hb hlt1
      go_simp
      refine (tiny_any _ _ _ _ _ _ W).mono ?_
      rintro e W' ⟨⟨s', hs', rfl⟩, hb2⟩
      have hb := HW2.out
      have next := N.out
      have hk := HK.out
      obtain ⟨f0, f1, f2, f3, f4, f5, f6, f7, f8⟩ := HF.out
      obtain ⟨hset, hmono, hun⟩ := HS.out
      have G : ∀ t, t ≠ 28 → (a.put (some 28) (s'.val)).tmps.getD t undef = a.tmps.getD t undef := fun t ht => (hk.get (show 28 < 124 by decide) t _).trans (if_neg ht)
      have Gd : (a.put (some 28) (s'.val)).tmps.getD 28 undef = s'.val := (hk.get (show 28 < 124 by decide) 28 _).trans (if_pos rfl)
      have KK := hk.put (d := 28) (by decide) (show 28 < 124 by decide) (s'.val)
      exact next _ W' ⟨g7, g8, s, s', cs7, cs8, fun h => (G 25 (by decide)).trans (f0 (hset 3 0 h (by decide))), fun h => ⟨(G 26 (by decide)).trans (f1 (hset 3 1 h (by decide))).1, (f1 (hset 3 1 h (by decide))).2⟩, fun h => (G 27 (by decide)).trans (f2 (hset 3 2 h (by decide))), fun _ => ⟨Gd, hs'⟩, fun h => ⟨(G 7 (by decide)).trans (f4 (hset 3 4 h (by decide))).1, (f4 (hset 3 4 h (by decide))).2.1, (fun x => Box.bel x hb2) (f4 (hset 3 4 h (by decide))).2.2.1, (f4 (hset 3 4 h (by decide))).2.2.2.1, fun h6 => (f4 (hset 3 4 h (by decide))).2.2.2.2 (hset 3 6 h6 (by decide))⟩, fun h => ⟨(G 8 (by decide)).trans (f5 (hset 3 5 h (by decide))).1, (f5 (hset 3 5 h (by decide))).2.1, (fun x => Box.bel x hb2) (f5 (hset 3 5 h (by decide))).2.2.1, (f5 (hset 3 5 h (by decide))).2.2.2.1, fun h7 => absurd ((f8 (hset 3 7 h7 (by decide))).2) (by rw [hun]; simp)⟩, fun h4 h5 => f6 (hset 3 4 h4 (by decide)) (hset 3 5 h5 (by decide)), fun h => ⟨hmono 3 4 (f7 (hset 3 6 h (by decide))).1, hmono 3 1 (f7 (hset 3 6 h (by decide))).2⟩, fun h => ⟨hmono 3 5 (f8 (hset 3 7 h (by decide))).1, hmono 3 3 (f8 (hset 3 7 h (by decide))).2⟩, (below_two hb hb2)⟩ KK
    · obtain rfl := Option.some.inj ho
      have HW2 := Lib.hid hb
      have N := Lib.hid next
      have HK := Lib.hid hk
      have HF := Lib.hid (And.intro f0 (And.intro f1 (And.intro f2 (And.intro f3 (And.intro f4 (And.intro f5 (And.intro f6 (And.intro f7 f8))))))))
      have HS := Lib.hid (And.intro hset (And.intro hmono hun))
      refine wpOp_run rfl rfl ?_
      unfold Oper.wp
      clear hw next hk f0 f1 f2 f3 f4 f5 f6 f7 f8 hset hmono hun hs ho hb hlt1
      go_simp
      have hb := HW2.out
      have next := N.out
      have hk := HK.out
      obtain ⟨f0, f1, f2, f3, f4, f5, f6, f7, f8⟩ := HF.out
      obtain ⟨hset, hmono, hun⟩ := HS.out
      have hb2 : Below W.heap.size W (W.alloc (.cells #[.int .i64 0, .int .i64 0, .int .i64 0, .int .i64 0, .int .i64 0, .int .i64 0] 30)) := (Below.refl _ _).alloc (Nat.le_refl _) _
      have G : ∀ t, t ≠ 7 → (a.put (some 7) (.pointer (some ⟨W.heap.size, 0, none⟩))).tmps.getD t undef = a.tmps.getD t undef := fun t ht => (hk.get (show 7 < 124 by decide) t _).trans (if_neg ht)
      have Gd : (a.put (some 7) (.pointer (some ⟨W.heap.size, 0, none⟩))).tmps.getD 7 undef = .pointer (some ⟨W.heap.size, 0, none⟩) := (hk.get (show 7 < 124 by decide) 7 _).trans (if_pos rfl)
      have KK := hk.put (d := 7) (by decide) (show 7 < 124 by decide) (.pointer (some ⟨W.heap.size, 0, none⟩))
      exact next _ _ ⟨W.heap.size, g8, s, u, #[.int .i64 0, .int .i64 0, .int .i64 0, .int .i64 0, .int .i64 0, .int .i64 0], cs8, fun h => (G 25 (by decide)).trans (f0 (hset 4 0 h (by decide))), fun h => ⟨(G 26 (by decide)).trans (f1 (hset 4 1 h (by decide))).1, (f1 (hset 4 1 h (by decide))).2⟩, fun h => (G 27 (by decide)).trans (f2 (hset 4 2 h (by decide))), fun h => ⟨(G 28 (by decide)).trans (f3 (hset 4 3 h (by decide))).1, (f3 (hset 4 3 h (by decide))).2⟩, fun _ => ⟨Gd, hb.size, box_new _ _ _, rfl, fun h6 => absurd ((f7 (hset 4 6 h6 (by decide))).1) (by rw [hun]; simp)⟩, fun h => ⟨(G 8 (by decide)).trans (f5 (hset 4 5 h (by decide))).1, (f5 (hset 4 5 h (by decide))).2.1, (fun x => Box.bel x hb2) (f5 (hset 4 5 h (by decide))).2.2.1, (f5 (hset 4 5 h (by decide))).2.2.2.1, fun h7 => (f5 (hset 4 5 h (by decide))).2.2.2.2 (hset 4 7 h7 (by decide))⟩, fun _ h5 => by have := (f5 (hset 4 5 h5 (by decide))).2.2.1.lt; omega, fun h => ⟨hmono 4 4 (f7 (hset 4 6 h (by decide))).1, hmono 4 1 (f7 (hset 4 6 h (by decide))).2⟩, fun h => ⟨hmono 4 5 (f8 (hset 4 7 h (by decide))).1, hmono 4 3 (f8 (hset 4 7 h (by decide))).2⟩, (below_two hb hb2)⟩ KK
    · obtain rfl := Option.some.inj ho
      have HW2 := Lib.hid hb
      have N := Lib.hid next
      have HK := Lib.hid hk
      have HF := Lib.hid (And.intro f0 (And.intro f1 (And.intro f2 (And.intro f3 (And.intro f4 (And.intro f5 (And.intro f6 (And.intro f7 f8))))))))
      have HS := Lib.hid (And.intro hset (And.intro hmono hun))
      refine wpOp_run rfl rfl ?_
      unfold Oper.wp
      clear hw next hk f0 f1 f2 f3 f4 f5 f6 f7 f8 hset hmono hun hs ho hb hlt1
      go_simp
      have hb := HW2.out
      have next := N.out
      have hk := HK.out
      obtain ⟨f0, f1, f2, f3, f4, f5, f6, f7, f8⟩ := HF.out
      obtain ⟨hset, hmono, hun⟩ := HS.out
      have hb2 : Below W.heap.size W (W.alloc (.cells #[.int .i64 0, .int .i64 0, .int .i64 0, .int .i64 0, .int .i64 0, .int .i64 0] 30)) := (Below.refl _ _).alloc (Nat.le_refl _) _
      have G : ∀ t, t ≠ 8 → (a.put (some 8) (.pointer (some ⟨W.heap.size, 0, none⟩))).tmps.getD t undef = a.tmps.getD t undef := fun t ht => (hk.get (show 8 < 124 by decide) t _).trans (if_neg ht)
      have Gd : (a.put (some 8) (.pointer (some ⟨W.heap.size, 0, none⟩))).tmps.getD 8 undef = .pointer (some ⟨W.heap.size, 0, none⟩) := (hk.get (show 8 < 124 by decide) 8 _).trans (if_pos rfl)
      have KK := hk.put (d := 8) (by decide) (show 8 < 124 by decide) (.pointer (some ⟨W.heap.size, 0, none⟩))
      exact next _ _ ⟨g7, W.heap.size, s, u, cs7, #[.int .i64 0, .int .i64 0, .int .i64 0, .int .i64 0, .int .i64 0, .int .i64 0], fun h => (G 25 (by decide)).trans (f0 (hset 5 0 h (by decide))), fun h => ⟨(G 26 (by decide)).trans (f1 (hset 5 1 h (by decide))).1, (f1 (hset 5 1 h (by decide))).2⟩, fun h => (G 27 (by decide)).trans (f2 (hset 5 2 h (by decide))), fun h => ⟨(G 28 (by decide)).trans (f3 (hset 5 3 h (by decide))).1, (f3 (hset 5 3 h (by decide))).2⟩, fun h => ⟨(G 7 (by decide)).trans (f4 (hset 5 4 h (by decide))).1, (f4 (hset 5 4 h (by decide))).2.1, (fun x => Box.bel x hb2) (f4 (hset 5 4 h (by decide))).2.2.1, (f4 (hset 5 4 h (by decide))).2.2.2.1, fun h6 => (f4 (hset 5 4 h (by decide))).2.2.2.2 (hset 5 6 h6 (by decide))⟩, fun _ => ⟨Gd, hb.size, box_new _ _ _, rfl, fun h7 => absurd ((f8 (hset 5 7 h7 (by decide))).1) (by rw [hun]; simp)⟩, fun h4 _ => by have := (f4 (hset 5 4 h4 (by decide))).2.2.1.lt; omega, fun h => ⟨hmono 5 4 (f7 (hset 5 6 h (by decide))).1, hmono 5 1 (f7 (hset 5 6 h (by decide))).2⟩, fun h => ⟨hmono 5 5 (f8 (hset 5 7 h (by decide))).1, hmono 5 3 (f8 (hset 5 7 h (by decide))).2⟩, (below_two hb hb2)⟩ KK
    · obtain rfl := Option.some.inj ho
      have p := f4 (hw 4 (by decide))
      have q := f1 (hw 1 (by decide))
      refine wpOp_run rfl rfl (wp_store_row _ _ _ rfl g7 #[.int .i64 s.l, .int .i64 s.w, .int .i64 s.h, .int .i64 s.i, .int .i64 s.v, .int .i64 s.p] p.1 q.1 30 cs7 p.2.2.1 (by kernel_rfl) p.2.2.2.1 (by simp [Value.oneCell']) ?_)
      have G : ∀ t (_ : t ≠ 1000), a.tmps.getD t undef = a.tmps.getD t undef := fun _ _ => rfl
      have hb2 := below_setRow (cs := #[.int .i64 s.l, .int .i64 s.w, .int .i64 s.h, .int .i64 s.i, .int .i64 s.v, .int .i64 s.p]) hb p.2.1 hb.size
      exact next _ _ ⟨g7, g8, s, u, #[.int .i64 s.l, .int .i64 s.w, .int .i64 s.h, .int .i64 s.i, .int .i64 s.v, .int .i64 s.p], cs8, fun h => (G 25 (by decide)).trans (f0 (hset 6 0 h (by decide))), fun h => ⟨(G 26 (by decide)).trans (f1 (hset 6 1 h (by decide))).1, (f1 (hset 6 1 h (by decide))).2⟩, fun h => (G 27 (by decide)).trans (f2 (hset 6 2 h (by decide))), fun h => ⟨(G 28 (by decide)).trans (f3 (hset 6 3 h (by decide))).1, (f3 (hset 6 3 h (by decide))).2⟩, fun h => ⟨p.1, p.2.1, p.2.2.1.setRow, rfl, fun _ => rfl⟩, fun h => ⟨(f5 (hset 6 5 h (by decide))).1, (f5 (hset 6 5 h (by decide))).2.1, (f5 (hset 6 5 h (by decide))).2.2.1.setRow_other (Ne.symm (f6 (hw 4 (by decide)) (hset 6 5 h (by decide)))), (f5 (hset 6 5 h (by decide))).2.2.2.1, fun h7 => (f5 (hset 6 5 h (by decide))).2.2.2.2 (hset 6 7 h7 (by decide))⟩, fun h4 h5 => f6 (hset 6 4 h4 (by decide)) (hset 6 5 h5 (by decide)), fun _ => ⟨hmono 6 4 (hw 4 (by decide)), hmono 6 1 (hw 1 (by decide))⟩, fun h => ⟨hmono 6 5 (f8 (hset 6 7 h (by decide))).1, hmono 6 3 (f8 (hset 6 7 h (by decide))).2⟩, hb2⟩ hk
    · obtain rfl := Option.some.inj ho
      have p := f5 (hw 5 (by decide))
      have q := f3 (hw 3 (by decide))
      refine wpOp_run rfl rfl (wp_store_row _ _ _ rfl g8 #[.int .i64 u.l, .int .i64 u.w, .int .i64 u.h, .int .i64 u.i, .int .i64 u.v, .int .i64 u.p] p.1 q.1 30 cs8 p.2.2.1 (by kernel_rfl) p.2.2.2.1 (by simp [Value.oneCell']) ?_)
      have G : ∀ t (_ : t ≠ 1000), a.tmps.getD t undef = a.tmps.getD t undef := fun _ _ => rfl
      have hb2 := below_setRow (cs := #[.int .i64 u.l, .int .i64 u.w, .int .i64 u.h, .int .i64 u.i, .int .i64 u.v, .int .i64 u.p]) hb p.2.1 hb.size
      exact next _ _ ⟨g7, g8, s, u, cs7, #[.int .i64 u.l, .int .i64 u.w, .int .i64 u.h, .int .i64 u.i, .int .i64 u.v, .int .i64 u.p], fun h => (G 25 (by decide)).trans (f0 (hset 7 0 h (by decide))), fun h => ⟨(G 26 (by decide)).trans (f1 (hset 7 1 h (by decide))).1, (f1 (hset 7 1 h (by decide))).2⟩, fun h => (G 27 (by decide)).trans (f2 (hset 7 2 h (by decide))), fun h => ⟨(G 28 (by decide)).trans (f3 (hset 7 3 h (by decide))).1, (f3 (hset 7 3 h (by decide))).2⟩, fun h => ⟨(f4 (hset 7 4 h (by decide))).1, (f4 (hset 7 4 h (by decide))).2.1, (f4 (hset 7 4 h (by decide))).2.2.1.setRow_other (f6 (hset 7 4 h (by decide)) (hw 5 (by decide))), (f4 (hset 7 4 h (by decide))).2.2.2.1, fun h7 => (f4 (hset 7 4 h (by decide))).2.2.2.2 (hset 7 6 h7 (by decide))⟩, fun h => ⟨p.1, p.2.1, p.2.2.1.setRow, rfl, fun _ => rfl⟩, fun h4 h5 => f6 (hset 7 4 h4 (by decide)) (hset 7 5 h5 (by decide)), fun h => ⟨hmono 7 4 (f7 (hset 7 6 h (by decide))).1, hmono 7 1 (f7 (hset 7 6 h (by decide))).2⟩, fun _ => ⟨hmono 7 5 (hw 5 (by decide)), hmono 7 3 (hw 3 (by decide))⟩, hb2⟩ hk
  case fin =>
    intro listed a w2 hs hl h hk
    obtain ⟨g7, g8, s, u, cs7, cs8, f0, f1, f2, f3, f4, f5, f6, f7, f8, hb⟩ := h
    have l0 := hl 0 (show 0 < 8 by decide)
    have l1 := hl 1 (show 1 < 8 by decide)
    have l2 := hl 2 (show 2 < 8 by decide)
    have l3 := hl 3 (show 3 < 8 by decide)
    have l4 := hl 4 (show 4 < 8 by decide)
    have l5 := hl 5 (show 5 < 8 by decide)
    have l6 := hl 6 (show 6 < 8 by decide)
    have l7 := hl 7 (show 7 < 8 by decide)
    have F0 := f0 l0
    obtain ⟨F1, hts⟩ := f1 l1
    have F2 := f2 l2
    obtain ⟨F3, htu⟩ := f3 l3
    obtain ⟨F4, _, X7, _, e7⟩ := f4 l4
    obtain ⟨F5, _, X8, _, e8⟩ := f5 l5
    rw [e7 l6] at X7
    rw [e8 l7] at X8
    have hg78 := f6 l4 l5
    obtain rfl := hk.frame [(25, .agg #[.int .i64 sl0, .int .i64 sw0, .int .i64 sh0, .int .i64 si0, .int .i64 sv0, .int .i64 sp0]), (26, .agg #[.int .i64 s.l, .int .i64 s.w, .int .i64 s.h, .int .i64 s.i, .int .i64 s.v, .int .i64 s.p]), (27, .agg #[.int .i64 sl1, .int .i64 sw1, .int .i64 sh1, .int .i64 si1, .int .i64 sv1, .int .i64 sp1]), (28, .agg #[.int .i64 u.l, .int .i64 u.w, .int .i64 u.h, .int .i64 u.i, .int .i64 u.v, .int .i64 u.p]), (7, .pointer (some ⟨g7, 0, none⟩)), (8, .pointer (some ⟨g8, 0, none⟩))] (by intro p hp; simp only [List.mem_cons, List.not_mem_nil, or_false] at hp; rcases hp with rfl | rfl | rfl | rfl | rfl | rfl <;> assumption) (by intro d hd; simp only [List.mem_cons, List.not_mem_nil, or_false] at hd; rcases hd with rfl | rfl | rfl | rfl | rfl | rfl <;> simp)
    have HB2 := Lib.hid (below_two HB1.out hb)
    have HS2 := Lib.hid X7
    have HU2 := Lib.hid X8
    have hg7l := X7.lt
    have hg8l := X8.lt
    have HTS := Lib.hid hts
    have HTU := Lib.hid htu
    clear hs hl hk f0 f1 f2 f3 f4 f5 f6 f7 f8 hb l0 l1 l2 l3 l4 l5 l6 l7 F0 F1 F2 F3 F4 F5 X8 e7 e8 hts htu HX1 HY1 hlt1
    have ok := HTS.out.1
    have hcn := cnt_le ok
    have HG : ∀ V, Calls Try.prog 23 #[s.val, .int .u64 3] V fun e w' => (∃ v, e = .returned v ∧ w'.ownsRow V.heap.size 55 1 v (cnt s) ((grownL s 3).map (.int .i8))) ∧ Below V.heap.size V w' := fun V => doc_grown s ok 3 (by omega) V
    have HF := fun a cap l V (hl : Elems .i8 V a (cnt s) l) => doc_file s ok a (cnt s) cap l V hl (by omega)
    have HGL := Lib.hid (grownL_wf s 3 (by omega))
    have HLL := Lib.hid (grownL_len s 3)
    have HOK := Lib.hid ok
    unfold Sz.val at HG HF
    obtain ⟨k0, k1, k2, k3, k4, k5⟩ := X7.cells6
    clear ok X7
    simp only [setAll, List.foldl_cons, List.foldl_nil]
    go_wp2_with fail
    refine (HG _).mono ?_
    rintro e w3 ⟨⟨v3, rfl, ho3⟩, hb3⟩
    have HB3 := Lib.hid (below_two HB2.out hb3)
    have HS3 := Lib.hid (HS2.out.bel hb3)
    have HU3 := Lib.hid (HU2.out.bel hb3)
    generalize hgl : grownL s 3 = gl at *
    have HGN := Lib.hid hgl
    have hc24 : 0 < cnt s := by have := HOK.out.bd; unfold cnt; omega
    obtain ⟨ga, gcap, rfl, hE3, hg1, hg2, _, hga⟩ := own_lies ho3 HGL.out (by omega)
    obtain ⟨fg, rfl⟩ := hga hc24
    have hF3 := HF (some ⟨fg, 0, none⟩) gcap gl w3 hE3
    have HO3 := Lib.hid ho3
    clear hgl hb3 HG k0 k1 k2 k3 k4 k5 HS2 HU2 ho3 hE3 hga
    obtain ⟨k0, k1, k2, k3, k4, k5⟩ := HS3.out.cells6
    obtain ⟨C, hC⟩ : ∃ C, cnt s = C := ⟨_, rfl⟩
    have HCC := Lib.hid hC
    rw [hC] at hcn hc24 hF3 HF HLL HO3 hg1
    rw [hC]
    clear hC
    go_wp2_with fail
    refine hF3.mono ?_
    rintro e w4 ⟨⟨v4, rfl, ho4⟩, hb4⟩
    have HB4 := Lib.hid (below_two HB3.out hb4)
    have HS4 := Lib.hid (HS3.out.bel hb4)
    have HU4 := Lib.hid (HU3.out.bel hb4)
    have HO4 := Lib.hid (own_below HO3.out hb4)
    have hwf4 := fileL_wf s HOK.out gl
    obtain ⟨pa, pcap, rfl, hEp, hp1, hp2, _, hpa⟩ := own_lies ho4 hwf4 (by omega)
    obtain ⟨pg, rfl⟩ := hpa (by omega)
    have HP := parse_pool s HOK.out gl (by rw [HLL.out, HCC.out]) HGL.out pg (24 + C) pcap w4 hEp hp1 hp2
    clear hF3 hb4 ho4 hEp hpa hwf4 HS3 HU3 HO3 k0 k1 k2 k3 k4 k5
    go_wp2_with fail
    refine HP.mono ?_
    rintro e w5 ⟨⟨fW, GW, bW, hfw, hfl, he, hR⟩, hb5⟩
    have HFW := Lib.hid hfw
    have HFL := Lib.hid hfl
    obtain ⟨W, hWd⟩ : ∃ W, mkW s GW bW (fillV s fW (cnt s)) = W := ⟨_, rfl⟩
    have HWD := Lib.hid hWd
    rw [hWd] at he
    have HWC : Hid (W.cells = #[.int .i64 s.l, .int .i64 s.w, .int .i64 s.h, .int .i64 s.i, .int .i64 s.v, .int .i64 s.p, .int .i64 W.e.r, .int .i64 W.e.c, .slice W.e.a W.e.n W.e.cap, .slice W.ba W.bn W.bcap, .slice W.t.a W.t.n W.t.cap, .int .i64 W.hd.r, .int .i64 W.hd.c, .slice W.hd.a W.hd.n W.hd.cap]) := Lib.hid (by rw [← hWd]; rfl)
    rw [HWC.out] at he
    subst he
    have HR5 := Lib.hid hR
    have HB5 := Lib.hid (below_two HB4.out hb5)
    have HS5 := Lib.hid (HS4.out.bel hb5)
    have HU5 := Lib.hid (HU4.out.bel hb5)
    have HO5 := Lib.hid (own_below HO4.out hb5)
    have HON1 := Lib.hid (wt_one7 W)
    rw [HWC.out] at HON1
    clear hb5 HP hR HS4 HU4 HO4 hWd hfw hfl
    go_upto_region 6 with (refine wpList_store_row rfl 45 _ _ rfl w5.heap.size #[.int .i64 s.l, .int .i64 s.w, .int .i64 s.h, .int .i64 s.i, .int .i64 s.v, .int .i64 s.p, .int .i64 W.e.r, .int .i64 W.e.c, .slice W.e.a W.e.n W.e.cap, .slice W.ba W.bn W.bcap, .slice W.t.a W.t.n W.t.cap, .int .i64 W.hd.r, .int .i64 W.hd.c, .slice W.hd.a W.hd.n W.hd.cap] rfl rfl 45 _ (box_new _ _ _) (by kernel_rfl) rfl HON1.out ?_)
    generalize hw6 : World.setRow _ w5.heap.size _ = w6
    have hb6 : Below w5.heap.size w5 w6 := by rw [← hw6]; exact below_setRow ((Below.refl _ _).alloc (Nat.le_refl _) _) (Nat.le_refl _) (by simp)
    have HW6 : Hid (Box w6 w5.heap.size 45 #[.int .i64 s.l, .int .i64 s.w, .int .i64 s.h, .int .i64 s.i, .int .i64 s.v, .int .i64 s.p, .int .i64 W.e.r, .int .i64 W.e.c, .slice W.e.a W.e.n W.e.cap, .slice W.ba W.bn W.bcap, .slice W.t.a W.t.n W.t.cap, .int .i64 W.hd.r, .int .i64 W.hd.c, .slice W.hd.a W.hd.n W.hd.cap]) := Lib.hid (by rw [← hw6]; exact (box_new _ _ _).setRow)
    have HB6 := Lib.hid (below_two HB5.out hb6)
    have HS6 := Lib.hid (HS5.out.bel hb6)
    have HU6 := Lib.hid (HU5.out.bel hb6)
    have HR6 := Lib.hid (HR5.out.bel hb6)
    have HO6 := Lib.hid (own_below HO5.out hb6)
    clear hw6 hb6 HS5 HU5 HR5 HO5
    have q1 := Int.emod_nonneg a2 (show (C : Int) ≠ 0 by omega)
    have q2 := Int.emod_lt_of_pos a2 (show (0 : Int) < (C : Int) by omega)
    obtain ⟨AT, hAT⟩ : ∃ A : Nat, a2 % (C : Int) = A := ⟨(a2 % (C : Int)).toNat, by omega⟩
    have hAT2 : AT < C := by omega
    have E1 := rest_math a2 C (by omega)
    rw [hAT] at E1
    have hb1 := rest_by a2 C (by omega)
    obtain ⟨r1, hr1⟩ : ∃ r, a2.tmod (C : Int) = r := ⟨_, rfl⟩
    rw [hr1] at E1 hb1
    have E2 : (r1 + (C : Int)) % (C : Int) = (AT : Int) := by rw [← E1, Int.tmod_eq_emod_of_nonneg (by omega)]
    have hAT3 : (AT : Int) < (C : Int) := by omega
    obtain ⟨x, hx⟩ : ∃ x, gl.getD AT 0 = x := ⟨_, rfl⟩
    have hAL : AT < gl.length := by rw [HLL.out]; exact hAT2
    have wfx := HGL.out _ (getD_mem hAL)
    rw [hx] at wfx
    obtain ⟨y, hxy, hyx, wfy⟩ := xor1_i8 wfx
    have cx : w6.cell? ⟨fg, AT, none⟩ = some (.int .i8 x) := by rw [HO6.out.cellAt AT (by omega), List.getElem?_map, ← hx, List.getD_eq_getElem?_getD, List.getElem?_eq_getElem hAL]; rfl
    have fz : w6.frozen? ⟨fg, AT, none⟩ = false := HO6.out.frozenAt AT
    have hfg : w2.heap.size ≤ fg := (HO6.out.lt fg rfl).1
    have HNE : Hid (gl ≠ gl.set AT y) := Lib.hid (by
      intro he
      have h1 : (gl.set AT y).getD AT 0 = y := by rw [List.getD_eq_getElem?_getD, List.getElem?_set_self hAL]; rfl
      rw [← he, hx] at h1
      exact hyx h1.symm)
    have HW7 := Lib.hid (set_wf HGL.out AT wfy)
    have HL7 : Hid ((gl.set AT y).length = C) := Lib.hid (by rw [List.length_set]; exact HLL.out)
    have HO7 : Hid ((w6.setCell ⟨fg, AT, none⟩ (.int .i8 y)).ownsRow w2.heap.size 55 1 (.slice (some ⟨fg, 0, none⟩) C gcap) C ((gl.set AT y).map (.int .i8))) := Lib.hid (own_store HO6.out AT y)
    have hgS : w6.grownBy (w6.setCell ⟨fg, AT, none⟩ (.int .i8 y)) (some fg) := grownBy_setCell w6 fg AT _
    have HS7 : Hid (Box (w6.setCell ⟨fg, AT, none⟩ (.int .i8 y)) g7 30 #[.int .i64 s.l, .int .i64 s.w, .int .i64 s.h, .int .i64 s.i, .int .i64 s.v, .int .i64 s.p]) := Lib.hid (HS6.out.kept hgS (by simp; omega))
    have HU7 : Hid (Box (w6.setCell ⟨fg, AT, none⟩ (.int .i8 y)) g8 30 #[.int .i64 u.l, .int .i64 u.w, .int .i64 u.h, .int .i64 u.i, .int .i64 u.v, .int .i64 u.p]) := Lib.hid (HU6.out.kept hgS (by simp; omega))
    have HW7b : Hid (Box (w6.setCell ⟨fg, AT, none⟩ (.int .i8 y)) w5.heap.size 45 #[.int .i64 s.l, .int .i64 s.w, .int .i64 s.h, .int .i64 s.i, .int .i64 s.v, .int .i64 s.p, .int .i64 W.e.r, .int .i64 W.e.c, .slice W.e.a W.e.n W.e.cap, .slice W.ba W.bn W.bcap, .slice W.t.a W.t.n W.t.cap, .int .i64 W.hd.r, .int .i64 W.hd.c, .slice W.hd.a W.hd.n W.hd.cap]) := Lib.hid (HW6.out.kept hgS (own_ne HO6.out HW6.out (by decide)))
    have HR7 : Hid (RightW s gl W (w6.setCell ⟨fg, AT, none⟩ (.int .i8 y))) := Lib.hid (by
      have hp := Pool7.stored HOK.out HR6.out (by rw [HCC.out]; exact HO6.out) AT (.int .i8 y)
      have hm := mk_right s HOK.out fW HFW.out GW bW _ hp
      rw [HWD.out, HFL.out] at hm
      exact hm)
    have HB7 : Hid (Below w.heap.size w (w6.setCell ⟨fg, AT, none⟩ (.int .i8 y))) := Lib.hid (HB6.out.setCell (p := ⟨fg, AT, none⟩) (by have := HB2.out.size; show w.heap.size ≤ fg; omega) _)
    have HX7 := Lib.hid hx
    clear hgS HS6 HU6 HW6 HR6 HO6 HB6 hAT q1 q2 hx wfx wfy hyx hfg hAL
    generalize gl.set AT y = gl2 at *
    go_upto_region 8 with fail
    generalize hw7 : World.setCell _ _ _ = w7 at *
    clear hw7 E1 E2 hb1 hr1 cx fz hxy
    obtain ⟨aE, capE, eE, hE7, _⟩ := own_lies HO7.out HW7.out (by omega)
    cases eE
    have hF7 := HF (some ⟨fg, 0, none⟩) gcap gl2 w7 hE7
    clear hE7
    obtain ⟨k0, k1, k2, k3, k4, k5⟩ := HS7.out.cells6
    go_wp2_with fail
    refine hF7.mono ?_
    rintro e w8 ⟨⟨v8, rfl, ho8⟩, hb8⟩
    have HB8 := Lib.hid (below_two HB7.out hb8)
    have HS8 := Lib.hid (HS7.out.bel hb8)
    have HU8 := Lib.hid (HU7.out.bel hb8)
    have HR8 := Lib.hid (HR7.out.bel hb8)
    have HW8 := Lib.hid (HW7b.out.bel hb8)
    have hwf8 := fileL_wf s HOK.out gl2
    obtain ⟨pa, pcap2, rfl, hEp, hp1', hp2', _, hpa⟩ := own_lies ho8 hwf8 (by omega)
    obtain ⟨pg2, rfl⟩ := hpa (by omega)
    have HP := parse_right s HOK.out gl2 (by rw [HL7.out, HCC.out]) HW7.out pg2 (24 + C) pcap2 w8 hEp hp1' hp2'
    clear hF7 hb8 ho8 hEp hpa hwf8 HS7 HU7 HR7 HW7b HO7 HF k0 k1 k2 k3 k4 k5
    go_wp2_with fail
    refine HP.mono ?_
    rintro e w9 ⟨⟨Y, he, hR⟩, hb9⟩
    have HYC : Hid (Y.cells = #[.int .i64 s.l, .int .i64 s.w, .int .i64 s.h, .int .i64 s.i, .int .i64 s.v, .int .i64 s.p, .int .i64 Y.e.r, .int .i64 Y.e.c, .slice Y.e.a Y.e.n Y.e.cap, .slice Y.ba Y.bn Y.bcap, .slice Y.t.a Y.t.n Y.t.cap, .int .i64 Y.hd.r, .int .i64 Y.hd.c, .slice Y.hd.a Y.hd.n Y.hd.cap]) := Lib.hid (by obtain ⟨e1, e2, e3, e4, e5, e6⟩ := hR.2.1; unfold Wt7.cells; rw [e1, e2, e3, e4, e5, e6])
    rw [HYC.out] at he
    subst he
    have HQ9 := Lib.hid hR
    have HB9 := Lib.hid (below_two HB8.out hb9)
    have HS9 := Lib.hid (HS8.out.bel hb9)
    have HU9 := Lib.hid (HU8.out.bel hb9)
    have HR9 := Lib.hid (HR8.out.bel hb9)
    have HW9 := Lib.hid (HW8.out.bel hb9)
    have HON2 := Lib.hid (wt_one7 Y)
    rw [HYC.out] at HON2
    clear hb9 HP hR HS8 HU8 HR8 HW8
    go_upto_region 9 with (refine wpList_store_row rfl 45 _ _ rfl w9.heap.size #[.int .i64 s.l, .int .i64 s.w, .int .i64 s.h, .int .i64 s.i, .int .i64 s.v, .int .i64 s.p, .int .i64 Y.e.r, .int .i64 Y.e.c, .slice Y.e.a Y.e.n Y.e.cap, .slice Y.ba Y.bn Y.bcap, .slice Y.t.a Y.t.n Y.t.cap, .int .i64 Y.hd.r, .int .i64 Y.hd.c, .slice Y.hd.a Y.hd.n Y.hd.cap] rfl rfl 45 _ (box_new _ _ _) (by kernel_rfl) rfl HON2.out ?_)
    generalize hw10 : World.setRow _ w9.heap.size _ = w10
    have hb10 : Below w9.heap.size w9 w10 := by rw [← hw10]; exact below_setRow ((Below.refl _ _).alloc (Nat.le_refl _) _) (Nat.le_refl _) (by simp)
    have HY10 : Hid (Box w10 w9.heap.size 45 #[.int .i64 s.l, .int .i64 s.w, .int .i64 s.h, .int .i64 s.i, .int .i64 s.v, .int .i64 s.p, .int .i64 Y.e.r, .int .i64 Y.e.c, .slice Y.e.a Y.e.n Y.e.cap, .slice Y.ba Y.bn Y.bcap, .slice Y.t.a Y.t.n Y.t.cap, .int .i64 Y.hd.r, .int .i64 Y.hd.c, .slice Y.hd.a Y.hd.n Y.hd.cap]) := Lib.hid (by rw [← hw10]; exact (box_new _ _ _).setRow)
    have HB10 := Lib.hid (below_two HB9.out hb10)
    have HS10 := Lib.hid (HS9.out.bel hb10)
    have HU10 := Lib.hid (HU9.out.bel hb10)
    have HR10 := Lib.hid (HR9.out.bel hb10)
    have HW10 := Lib.hid (HW9.out.bel hb10)
    have HQ10 := Lib.hid (HQ9.out.bel hb10)
    clear hw10 hb10 HS9 HU9 HR9 HW9 HQ9
    have XA := HW10.out
    have DA := file_yes s HOK.out W w10 HR10.out.1 HR10.out.2.2.2.1 (by rw [HR10.out.2.2.2.2.2, HLL.out]; omega) HR10.out.2.1 HR10.out.2.2.1
    rw [HWC.out, HR10.out.2.2.2.2.2, HLL.out] at DA
    go_wp2_with (refine wpList_load_row rfl 45 _ rfl w5.heap.size rfl 45 _ (0, 0) _ XA Try.underlying45 rfl (by kernel_rfl) ?_)
    refine DA.mono ?_
    rintro e w11 ⟨⟨v11, rfl, ho11⟩, hb11⟩
    have HB11 := Lib.hid (below_two HB10.out hb11)
    have HS11 := Lib.hid (HS10.out.bel hb11)
    have HU11 := Lib.hid (HU10.out.bel hb11)
    have HQ11 := Lib.hid (HQ10.out.bel hb11)
    have HY11 := Lib.hid (HY10.out.bel hb11)
    obtain ⟨xa, xcap, rfl, hEx, _, _, _, hxa⟩ := own_lies ho11 (fileL_wf s HOK.out gl) (by omega)
    obtain ⟨xg, rfl⟩ := hxa (by omega)
    have HEX := Lib.hid hEx
    clear XA DA ho11 hb11 hEx hxa HS10 HU10 HQ10 HY10 HW10 HR10
    have XA := HY11.out
    have DA := file_yes s HOK.out Y w11 HQ11.out.1 HQ11.out.2.2.2.1 (by rw [HQ11.out.2.2.2.2.2, HL7.out]; omega) HQ11.out.2.1 HQ11.out.2.2.1
    rw [HYC.out, HQ11.out.2.2.2.2.2, HL7.out] at DA
    go_wp2_with (refine wpList_load_row rfl 45 _ rfl w9.heap.size rfl 45 _ (0, 0) _ XA Try.underlying45 rfl (by kernel_rfl) ?_)
    refine DA.mono ?_
    rintro e w12 ⟨⟨v12, rfl, ho12⟩, hb12⟩
    have HB12 := Lib.hid (below_two HB11.out hb12)
    have HS12 := Lib.hid (HS11.out.bel hb12)
    have HU12 := Lib.hid (HU11.out.bel hb12)
    have HEX2 := Lib.hid (HEX.out.below hb12)
    obtain ⟨ya, ycap, rfl, hEy, _, _, _, hya⟩ := own_lies ho12 (fileL_wf s HOK.out gl2) (by omega)
    obtain ⟨yg, rfl⟩ := hya (by omega)
    have HEY := Lib.hid hEy
    clear XA DA ho12 hb12 hEy hya HS11 HU11 HQ11 HY11 HEX
    have hou := HTU.out.1
    have hcu := cnt_le hou
    have HGR : ∀ V, Calls Try.prog 18 #[u.val, .int .u64 3] V fun e w' => GivesR u (grownL u 3) e w' ∧ Below V.heap.size V w' := fun V => grow_right u hou 3 (by omega) V
    unfold Sz.val at HGR
    have HOU := Lib.hid hou
    have HGU := Lib.hid (grownL_len u 3)
    have HGW := Lib.hid (grownL_wf u 3 (by omega))
    clear hou
    obtain ⟨k0, k1, k2, k3, k4, k5⟩ := HU12.out.cells6
    go_wp2_with fail
    refine (HGR _).mono ?_
    rintro e w13 ⟨⟨Z, he, hR⟩, hb13⟩
    have HZC : Hid (Z.cells = #[.int .i64 u.l, .int .i64 u.w, .int .i64 u.h, .int .i64 u.i, .int .i64 u.v, .int .i64 u.p, .int .i64 Z.e.r, .int .i64 Z.e.c, .slice Z.e.a Z.e.n Z.e.cap, .slice Z.ba Z.bn Z.bcap, .slice Z.t.a Z.t.n Z.t.cap, .int .i64 Z.hd.r, .int .i64 Z.hd.c, .slice Z.hd.a Z.hd.n Z.hd.cap]) := Lib.hid (by obtain ⟨e1, e2, e3, e4, e5, e6⟩ := hR.2.1; unfold Wt7.cells; rw [e1, e2, e3, e4, e5, e6])
    rw [HZC.out] at he
    subst he
    have HQ13 := Lib.hid hR
    have HB13 := Lib.hid (below_two HB12.out hb13)
    have HS13 := Lib.hid (HS12.out.bel hb13)
    have HU13 := Lib.hid (HU12.out.bel hb13)
    have HEX3 := Lib.hid (HEX2.out.below hb13)
    have HEY3 := Lib.hid (HEY.out.below hb13)
    have HON3 := Lib.hid (wt_one7 Z)
    rw [HZC.out] at HON3
    clear hb13 hR HGR HS12 HU12 HEX2 HEY k0 k1 k2 k3 k4 k5
    go_upto_region 14 with (refine wpList_store_row rfl 45 _ _ rfl w13.heap.size #[.int .i64 u.l, .int .i64 u.w, .int .i64 u.h, .int .i64 u.i, .int .i64 u.v, .int .i64 u.p, .int .i64 Z.e.r, .int .i64 Z.e.c, .slice Z.e.a Z.e.n Z.e.cap, .slice Z.ba Z.bn Z.bcap, .slice Z.t.a Z.t.n Z.t.cap, .int .i64 Z.hd.r, .int .i64 Z.hd.c, .slice Z.hd.a Z.hd.n Z.hd.cap] rfl rfl 45 _ (box_new _ _ _) (by kernel_rfl) rfl HON3.out ?_)
    generalize hw14 : World.setRow _ w13.heap.size _ = w14
    have hb14 : Below w13.heap.size w13 w14 := by rw [← hw14]; exact below_setRow ((Below.refl _ _).alloc (Nat.le_refl _) _) (Nat.le_refl _) (by simp)
    have XA : Box w14 w13.heap.size 45 #[.int .i64 u.l, .int .i64 u.w, .int .i64 u.h, .int .i64 u.i, .int .i64 u.v, .int .i64 u.p, .int .i64 Z.e.r, .int .i64 Z.e.c, .slice Z.e.a Z.e.n Z.e.cap, .slice Z.ba Z.bn Z.bcap, .slice Z.t.a Z.t.n Z.t.cap, .int .i64 Z.hd.r, .int .i64 Z.hd.c, .slice Z.hd.a Z.hd.n Z.hd.cap] := by rw [← hw14]; exact (box_new _ _ _).setRow
    have HB14 := Lib.hid (below_two HB13.out hb14)
    have HS14 := Lib.hid (HS13.out.bel hb14)
    have HU14 := Lib.hid (HU13.out.bel hb14)
    have HQ14 := Lib.hid (HQ13.out.bel hb14)
    have HEX4 := Lib.hid (HEX3.out.below hb14)
    have HEY4 := Lib.hid (HEY3.out.below hb14)
    have DA := file_yes u HOU.out Z w14 HQ14.out.1 HQ14.out.2.2.2.1 (by rw [HQ14.out.2.2.2.2.2, HGU.out]; exact hcu) HQ14.out.2.1 HQ14.out.2.2.1
    rw [HZC.out, HQ14.out.2.2.2.2.2, HGU.out] at DA
    clear hw14 hb14 HS13 HU13 HQ13 HEX3 HEY3
    go_wp2_with (refine wpList_load_row rfl 45 _ rfl w13.heap.size rfl 45 _ (0, 0) _ XA Try.underlying45 rfl (by kernel_rfl) ?_)
    refine DA.mono ?_
    rintro e w15 ⟨⟨v15, rfl, ho15⟩, hb15⟩
    have HB15 := Lib.hid (below_two HB14.out hb15)
    have HS15 := Lib.hid (HS14.out.bel hb15)
    have HU15 := Lib.hid (HU14.out.bel hb15)
    have HEX5 := Lib.hid (HEX4.out.below hb15)
    have HEY5 := Lib.hid (HEY4.out.below hb15)
    obtain ⟨za, zcap, rfl, hEz, _, _, _, hza⟩ := own_lies ho15 (fileL_wf u HOU.out (grownL u 3)) (by omega)
    obtain ⟨zg, rfl⟩ := hza (by omega)
    have HEZ := Lib.hid hEz
    have HCT : ∀ V, Calls Try.prog 16 #[s.val] V fun e w' => e = .returned (.int .i64 (C : Nat)) ∧ Below V.heap.size V w' := fun V => by rw [← HCC.out]; exact count_yes s V HOK.out
    unfold Sz.val at HCT
    have HN1 := Lib.hid (str_ne (fileL_wf s HOK.out gl) (fileL_wf s HOK.out gl2) (file_ne HGL.out HW7.out (by rw [HLL.out, HL7.out]) HNE.out))
    clear XA DA ho15 hb15 hEz hza HS14 HU14 HQ14 HEX4 HEY4
    obtain ⟨k0, k1, k2, k3, k4, k5⟩ := HS15.out.cells6
    obtain ⟨j0, j1, j2, j3, j4, j5⟩ := HU15.out.cells6
    go_upto_region 15 with fail
    obtain ⟨M, hM⟩ : ∃ M, 24 + C = M := ⟨_, rfl⟩
    have wr1 : IntKind.i64.wrap ((C : Int) + 24) = (M : Int) := by rw [IntWalk.i64_in _ (by omega)]; omega
    have wr2 : (C : Int) + 24 = (M : Int) := by omega
    have HWR := Lib.hid wr2
    have hM0 : 0 < M := by omega
    rw [hM] at HEX5 HEY5
    rw [hM]
    clear wr2 hM
    have CONV : ∀ V, Below w15.heap.size w15 V → ∀ (gg off n cap : Nat) (ws : List Int), Elems .u8 w15 (some ⟨gg, 0, none⟩) n ws → 0 < n → (convert 24 9 (.slice (some ⟨gg, 0, none⟩) n cap)).run Try.prog V = .ok (.string (strOfNums ws)) V := fun V hV gg off n cap ws hE hn => by
      have hE2 := hE.below hV
      exact run_convert_bytes_arg (P := Try.prog) V 24 5 Try.underlying24 Try.underlying5 gg 0 n cap ws hE2.1 (fun i hi => by
        obtain ⟨b', off', he, hc⟩ := hE2.2.2.2 (by omega)
        cases he
        exact hc i hi) 9 Try.underlying9
    have HCV := Lib.hid CONV
    clear CONV
    by_cases hsu : s = u
    · subst hsu
      have HEZ := HEZ
      have hz := HEZ.out
      rw [HGN.out, HCC.out] at hz
      have eM : 24 + C = M := by have := HWR.out; omega
      rw [eM] at hz
      rw [HCC.out, eM]
      clear eM
      have HEZ := Lib.hid hz
      clear hz
      have CA0 : ∀ V, Below w15.heap.size w15 V → (convert 24 9 (.slice (some ⟨xg, 0, none⟩) M xcap)).run Try.prog V = .ok (.string (strOfNums (fileL s gl))) V := fun V hV => HCV.out V hV xg 0 M xcap _ HEX5.out (by omega)
      have CA1 : ∀ V, Below w15.heap.size w15 V → (convert 24 9 (.slice (some ⟨yg, 0, none⟩) M ycap)).run Try.prog V = .ok (.string (strOfNums (fileL s gl2))) V := fun V hV => HCV.out V hV yg 0 M ycap _ HEY5.out (by omega)
      have CA2 : ∀ V, Below w15.heap.size w15 V → (convert 24 9 (.slice (some ⟨zg, 0, none⟩) M zcap)).run Try.prog V = .ok (.string (strOfNums (fileL s gl))) V := fun V hV => HCV.out V hV zg 0 M zcap _ HEZ.out (by omega)
      generalize strOfNums (fileL s gl) = X1 at *
      generalize strOfNums (fileL s gl2) = X2 at *
      have n1 : (X1.toList == X2.toList) = false := beq_eq_false_iff_ne.2 HN1.out
      have HA0 := Lib.hid CA0
      have a0 := HA0.out w15 (Below.refl _ _)
      have d0 := HA0.out w15.drew ((Below.refl _ _).drew)
      have HA1 := Lib.hid CA1
      have a1 := HA1.out w15 (Below.refl _ _)
      have d1 := HA1.out w15.drew ((Below.refl _ _).drew)
      have HA2 := Lib.hid CA2
      have a2 := HA2.out w15 (Below.refl _ _)
      have d2 := HA2.out w15.drew ((Below.refl _ _).drew)
      clear CA0 CA1 CA2
      go_region_held3 (fun V => V.cell? ⟨g7, 0, none⟩ = some (.int .i64 s.l) ∧ V.cell? ⟨g7, 1, none⟩ = some (.int .i64 s.w) ∧ V.cell? ⟨g7, 2, none⟩ = some (.int .i64 s.h) ∧ V.cell? ⟨g7, 3, none⟩ = some (.int .i64 s.i) ∧ V.cell? ⟨g7, 4, none⟩ = some (.int .i64 s.v) ∧ V.cell? ⟨g7, 5, none⟩ = some (.int .i64 s.p) ∧ V.cell? ⟨g8, 0, none⟩ = some (.int .i64 s.l) ∧ V.cell? ⟨g8, 1, none⟩ = some (.int .i64 s.w) ∧ V.cell? ⟨g8, 2, none⟩ = some (.int .i64 s.h) ∧ V.cell? ⟨g8, 3, none⟩ = some (.int .i64 s.i) ∧ V.cell? ⟨g8, 4, none⟩ = some (.int .i64 s.v) ∧ V.cell? ⟨g8, 5, none⟩ = some (.int .i64 s.p) ∧ (convert 24 9 (.slice (some ⟨xg, 0, none⟩) M xcap)).run Try.prog V = .ok (.string X1) V ∧ (convert 24 9 (.slice (some ⟨yg, 0, none⟩) M ycap)).run Try.prog V = .ok (.string X2) V ∧ (convert 24 9 (.slice (some ⟨zg, 0, none⟩) M zcap)).run Try.prog V = .ok (.string X1) V) (first | go_keep | (go_split_ands; refine ⟨?_, ?_, ?_, ?_, ?_, ?_, ?_, ?_, ?_, ?_, ?_, ?_, ?_, ?_, ?_⟩ <;> assumption))
        (first
        | (go_at_call 16; (with_reducible refine (HCT _).mono ?_); rintro e v1 ⟨rfl, hv1⟩
           have HV1 : Hid (Below w15.heap.size w15 v1) := Lib.hid (below_two ((Below.refl _ _).drew) hv1)
           have XX := HS15.out.bel HV1.out
           have YY := HU15.out.bel HV1.out
           obtain ⟨p0, p1, p2, p3, p4, p5⟩ := XX.cells6
           obtain ⟨q0, q1, q2, q3, q4, q5⟩ := YY.cells6
           have b0 := HA0.out v1 HV1.out
           have b1 := HA1.out v1 HV1.out
           have b2 := HA2.out v1 HV1.out
           clear XX YY hv1))
      have HBF := Lib.hid (HB15.out.trans (HV1.out.mono HB15.out.size))
      go_wp2_with fail
      go_ret
      exact ⟨rfl, HBF.out⟩
    · have HN2 := Lib.hid (str_ne (fileL_wf s HOK.out gl) (fileL_wf u HOU.out (grownL u 3)) (file_ne2 hsu))
      have q30 := fun V => eql_shape s u hsu V
      clear hsu
      have CA0 : ∀ V, Below w15.heap.size w15 V → (convert 24 9 (.slice (some ⟨xg, 0, none⟩) M xcap)).run Try.prog V = .ok (.string (strOfNums (fileL s gl))) V := fun V hV => HCV.out V hV xg 0 M xcap _ HEX5.out (by omega)
      have CA1 : ∀ V, Below w15.heap.size w15 V → (convert 24 9 (.slice (some ⟨yg, 0, none⟩) M ycap)).run Try.prog V = .ok (.string (strOfNums (fileL s gl2))) V := fun V hV => HCV.out V hV yg 0 M ycap _ HEY5.out (by omega)
      have CA2 : ∀ V, Below w15.heap.size w15 V → (convert 24 9 (.slice (some ⟨zg, 0, none⟩) (24 + cnt u) zcap)).run Try.prog V = .ok (.string (strOfNums (fileL u (grownL u 3)))) V := fun V hV => HCV.out V hV zg 0 (24 + cnt u) zcap _ HEZ.out (by omega)
      generalize strOfNums (fileL s gl) = X1 at *
      generalize strOfNums (fileL s gl2) = X2 at *
      generalize strOfNums (fileL u (grownL u 3)) = X3 at *
      have n1 : (X1.toList == X2.toList) = false := beq_eq_false_iff_ne.2 HN1.out
      have n2 : (X1.toList == X3.toList) = false := beq_eq_false_iff_ne.2 HN2.out
      have HA0 := Lib.hid CA0
      have a0 := HA0.out w15 (Below.refl _ _)
      have d0 := HA0.out w15.drew ((Below.refl _ _).drew)
      have HA1 := Lib.hid CA1
      have a1 := HA1.out w15 (Below.refl _ _)
      have d1 := HA1.out w15.drew ((Below.refl _ _).drew)
      have HA2 := Lib.hid CA2
      have a2 := HA2.out w15 (Below.refl _ _)
      have d2 := HA2.out w15.drew ((Below.refl _ _).drew)
      clear CA0 CA1 CA2
      go_region_held3 (fun V => V.cell? ⟨g7, 0, none⟩ = some (.int .i64 s.l) ∧ V.cell? ⟨g7, 1, none⟩ = some (.int .i64 s.w) ∧ V.cell? ⟨g7, 2, none⟩ = some (.int .i64 s.h) ∧ V.cell? ⟨g7, 3, none⟩ = some (.int .i64 s.i) ∧ V.cell? ⟨g7, 4, none⟩ = some (.int .i64 s.v) ∧ V.cell? ⟨g7, 5, none⟩ = some (.int .i64 s.p) ∧ V.cell? ⟨g8, 0, none⟩ = some (.int .i64 u.l) ∧ V.cell? ⟨g8, 1, none⟩ = some (.int .i64 u.w) ∧ V.cell? ⟨g8, 2, none⟩ = some (.int .i64 u.h) ∧ V.cell? ⟨g8, 3, none⟩ = some (.int .i64 u.i) ∧ V.cell? ⟨g8, 4, none⟩ = some (.int .i64 u.v) ∧ V.cell? ⟨g8, 5, none⟩ = some (.int .i64 u.p) ∧ (convert 24 9 (.slice (some ⟨xg, 0, none⟩) M xcap)).run Try.prog V = .ok (.string X1) V ∧ (convert 24 9 (.slice (some ⟨yg, 0, none⟩) M ycap)).run Try.prog V = .ok (.string X2) V ∧ (convert 24 9 (.slice (some ⟨zg, 0, none⟩) (24 + cnt u) zcap)).run Try.prog V = .ok (.string X3) V) (first | go_keep | (go_split_ands; refine ⟨?_, ?_, ?_, ?_, ?_, ?_, ?_, ?_, ?_, ?_, ?_, ?_, ?_, ?_, ?_⟩ <;> assumption))
        (first
        | (go_at_call 16; (with_reducible refine (HCT _).mono ?_); rintro e v1 ⟨rfl, hv1⟩
           have HV1 : Hid (Below w15.heap.size w15 v1) := Lib.hid (below_two ((Below.refl _ _).drew) hv1)
           have XX := HS15.out.bel HV1.out
           have YY := HU15.out.bel HV1.out
           obtain ⟨p0, p1, p2, p3, p4, p5⟩ := XX.cells6
           obtain ⟨q0, q1, q2, q3, q4, q5⟩ := YY.cells6
           have b0 := HA0.out v1 HV1.out
           have b1 := HA1.out v1 HV1.out
           have b2 := HA2.out v1 HV1.out
           clear XX YY hv1))
      have HBF := Lib.hid (HB15.out.trans (HV1.out.mono HB15.out.size))
      go_wp2_with fail
      go_ret
      exact ⟨rfl, HBF.out⟩

set_option maxRecDepth 100000 in
theorem lifted (os : Os) (started : os.Started) (H : Type) (enc : TypeId × Value → H) :
    ReturnsInHanded {} Try.checked os 9 .any (Rows.weightApartSpec.pre6 enc Try.prog Try.f9 Rows.weightApartRow.domain false) (Rows.weightApartSpec.post enc Try.prog Try.f9 false true false false) := by
  refine returnsInHanded_of_change (C := Try.checked) own started (by kernel_rfl) Try.func9
    (ChangeSpec.witness6 (enc := enc) (C := Try.checked) false ⟨#[], #[.agg #[.int .i64 0, .int .i64 0, .int .i64 0, .int .i64 0, .int .i64 0, .int .i64 0], .agg #[.int .i64 0, .int .i64 0, .int .i64 0, .int .i64 0, .int .i64 0, .int .i64 0], .int .i64 0], []⟩ 8 (by kernel_rfl) (by kernel_rfl) (by kernel_rfl) (by kernel_rfl)) ?_
  intro W base args ds gs before hval0 hW hcnd _
  have hval : ∀ (j : Nat) t v, Try.f9.params[j]? = some t → args[j]? = some v → Value.okWide Try.prog W .any base t v := hval0
  have hW' := hW
  obtain ⟨p, q, hA0, hV, rfl, hfz, hnd⟩ := hW
  have hA : DataW.TrodAll enc Try.prog W 0 (fun _ => true) true Try.f9.params.toList args.toList ds p := hA0
  rw [Try.params9] at hA hval
  obtain ⟨v0, vs0, d0, ds0, p0, q0, hargs, rfl, rfl, h0, r0⟩ := trodAll_cons hA
  obtain ⟨v1, vs1, d1, ds1, p1, q1, rfl, rfl, rfl, h1, r1⟩ := trodAll_cons r0
  obtain ⟨v2, vs2, d2, ds2, p2, q2, rfl, rfl, rfl, h2, r2⟩ := trodAll_cons r1
  obtain ⟨rfl, rfl, rfl⟩ := trodAll_nil r2
  obtain rfl : args = #[v0, v1, v2] := by cases args; simp_all
  obtain ⟨rfl, rfl⟩ := trodVars_none hV
  have k0 := h0
  have lt0 : ∀ x ∈ p0, x.block < W.heap.size := by obtain ⟨m, hm⟩ := k0; exact DataW.trod_lt m _ _ _ hm
  obtain ⟨xl0, xw0, xh0, xi0, xv0, xp0, rfl, w0⟩ := open_six (hval 0 37 v0 rfl rfl) h0
  have k1 := h1
  have lt1 : ∀ x ∈ p1, x.block < W.heap.size := by obtain ⟨m, hm⟩ := k1; exact DataW.trod_lt m _ _ _ hm
  obtain ⟨xl1, xw1, xh1, xi1, xv1, xp1, rfl, w1⟩ := open_six (hval 1 37 v1 rfl rfl) h1
  obtain ⟨a2, rfl, rfl, rfl, w2⟩ := open_int Try.underlying3 (hval 2 3 v2 rfl rfl) h2
  clear hA0 hval0
  refine (walk xl0 xw0 xh0 xi0 xv0 xp0 xl1 xw1 xh1 xi1 xv1 xp1 a2 W w0 w1 w2).mono fun e W' ⟨he, bel⟩ => ?_
  subst he
  exact ⟨_, rfl, _, _, _, [], _, [], hW', trodAll_mk1 (shut_bool Try.underlying4 _), (trodAll_cons_mk (Below.trod laidOut (by kernel_rfl) (of_decide_eq_true (by kernel_rfl)) k0 bel lt0) (trodAll_cons_mk (Below.trod laidOut (by kernel_rfl) (of_decide_eq_true (by kernel_rfl)) k1 bel lt1) (trodAll_cons_mk (shut_int Try.underlying3 w2) trodAll_mk0))), rfl, bel.frame _, fun h => by cases h⟩

theorem over : Rows.weightApartRow.holds Try.pinned (OpenSpec.ofChange Rows.weightApartSpec) :=
  OpenClaim.holds_of_wide 9 Try.f9 rfl rfl rfl rfl rfl rfl rfl ⟨rfl, rfl, rfl, rfl, rfl⟩ rfl rfl rfl rfl rfl (by kernel_rfl) Try.func9 (by kernel_rfl)
    (of_decide_eq_true (by kernel_rfl)) (by unfold Func.isWrapper; first | (rw [if_pos (by decide +kernel)]; kernel_rfl) | (rw [if_neg (by decide +kernel)]; exact ⟨rfl, rfl⟩))
    (fun os started H enc _ => lifted os started H enc)

/-- ████ THE STATEMENT ████ -/
theorem proved : Rows.WeightApartSaid := over
#print axioms proved
end Go.Proofs.Ytlgnpicnpnibfaa.weightApart
