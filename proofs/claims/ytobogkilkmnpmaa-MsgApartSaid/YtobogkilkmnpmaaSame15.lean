/-
  Contracts of package msg's Clone and Same.
-/
import Derived.Test.YtobogkilkmnpmaaRight15
import Derived.Test.YtobogkilkmnpmaaRow32
import Derived.Test.YtobogkilkmnpmaaRd15
import Derived.BigQuiet
namespace Go.Proofs.Ytobogkilkmnpmaa
open Go.RowKit Go.Maps
set_option linter.unusedVariables false

/-- are two messages the same? -/
def sameP (x y : Ms15) : Prop := x.kind = y.kind ∧ (∀ i, i < 7 → x.num i = y.num i) ∧ x.li.v = y.li.v
noncomputable instance (x y : Ms15) : Decidable (sameP x y) := Classical.propDecidable _
noncomputable def sameM (x y : Ms15) : Bool := decide (sameP x y)
/-- what Clone answers -/
def CloneE (x : Ms15) (B : Nat) (e : Ending) (w' : World) : Prop := ∃ g : Rw, e = .returned (.agg (withL x g).cells.toArray) ∧ g.In .i32 w' ∧ g.v = x.li.v ∧ g.n = x.li.n ∧ (∀ a, g.a = some a → B ≤ a.block) ∧ ThT 21 w' g.a

set_option maxHeartbeats 3200000 in
set_option maxRecDepth 100000 in
theorem mclone15 (x : Ms15) (w : World) (h : x.In w) (hn : x.li.n ≤ 65536) :
    Calls Try.prog 8 #[.agg #[.int .i64 x.kind, .int .i64 x.n0, .int .i64 x.n1, .int .i64 x.n2, .int .i64 x.n3, .int .i64 x.n4, .int .i64 x.n5, .int .i64 x.n6, .slice x.li.a x.li.n x.li.cap]] w fun e w' => CloneE x w.heap.size e w' ∧ Below w.heap.size w w' := by
  have X0 := (ms_box x w).alloc (.cells #[.int .i64 0, .int .i64 0, .int .i64 0, .int .i64 0, .int .i64 0, .int .i64 0, .int .i64 0, .int .i64 0, .slice none 0 0] 24)
  have Y0 : Box ((w.alloc (.cells #[.int .i64 x.kind, .int .i64 x.n0, .int .i64 x.n1, .int .i64 x.n2, .int .i64 x.n3, .int .i64 x.n4, .int .i64 x.n5, .int .i64 x.n6, .slice x.li.a x.li.n x.li.cap] 24)).alloc (.cells #[.int .i64 0, .int .i64 0, .int .i64 0, .int .i64 0, .int .i64 0, .int .i64 0, .int .i64 0, .int .i64 0, .slice none 0 0] 24)) (w.heap.size + 1) 24 #[.int .i64 0, .int .i64 0, .int .i64 0, .int .i64 0, .int .i64 0, .int .i64 0, .int .i64 0, .int .i64 0, .slice none 0 0] := box_at (World.size_alloc _ _).symm _ _
  have hb0 : Below w.heap.size w ((w.alloc (.cells #[.int .i64 x.kind, .int .i64 x.n0, .int .i64 x.n1, .int .i64 x.n2, .int .i64 x.n3, .int .i64 x.n4, .int .i64 x.n5, .int .i64 x.n6, .slice x.li.a x.li.n x.li.cap] 24)).alloc (.cells #[.int .i64 0, .int .i64 0, .int .i64 0, .int .i64 0, .int .i64 0, .int .i64 0, .int .i64 0, .int .i64 0, .slice none 0 0] 24)) := ((Below.refl _ _).alloc (Nat.le_refl _) _).alloc (by simp) _
  have hs0 : ((w.alloc (.cells #[.int .i64 x.kind, .int .i64 x.n0, .int .i64 x.n1, .int .i64 x.n2, .int .i64 x.n3, .int .i64 x.n4, .int .i64 x.n5, .int .i64 x.n6, .slice x.li.a x.li.n x.li.cap] 24)).alloc (.cells #[.int .i64 0, .int .i64 0, .int .i64 0, .int .i64 0, .int .i64 0, .int .i64 0, .int .i64 0, .int .i64 0, .slice none 0 0] 24)).heap.size = w.heap.size + 2 := by simp
  go_enter Try.func8, Try.ntmps8
  go_upto_region 1 with fail
  generalize ((w.alloc (.cells #[.int .i64 x.kind, .int .i64 x.n0, .int .i64 x.n1, .int .i64 x.n2, .int .i64 x.n3, .int .i64 x.n4, .int .i64 x.n5, .int .i64 x.n6, .slice x.li.a x.li.n x.li.cap] 24)).alloc (.cells #[.int .i64 0, .int .i64 0, .int .i64 0, .int .i64 0, .int .i64 0, .int .i64 0, .int .i64 0, .int .i64 0, .slice none 0 0] 24)) = w1 at X0 Y0 hb0 hs0 ⊢
  have c8 : w1.cell? ⟨w.heap.size, 8, none⟩ = some (.slice x.li.a x.li.n x.li.cap) := X0.cell 8
  have C1 := clone32T x.li w1 (h.below hb0).li hn
  unfold CopyR at C1
  clear h
  go_wp2_with fail
  refine C1.mono ?_
  rintro e w2 ⟨⟨⟨g, rfl, hgi, hgv, hgn, hgb⟩, hb2⟩, hth⟩
  have hth2 := hth g rfl
  have X2 := X0.bel hb2
  have Y2 := Y0.bel hb2
  have HB2 := Lib.hid (hb0.trans (hb2.mono (by omega)))
  have d8 : w2.cell? ⟨w.heap.size, 8, none⟩ = some (.slice x.li.a x.li.n x.li.cap) := X2.cell 8
  have f8 : w2.frozen? ⟨w.heap.size, 8, none⟩ = false := X2.frozen 8
  have HG := Lib.hid (And.intro hgi (And.intro hgv (And.intro hgn (And.intro hgb hth2))))
  have X3 : Hid (Box (w2.setCell ⟨w.heap.size, 8, none⟩ (.slice g.a g.n g.cap)) w.heap.size 24 (withL x g).cells.toArray) := Lib.hid (by
    have := X2.set 8 (.slice g.a g.n g.cap)
    have e : (withL x g).cells.toArray = x.cells.toArray.setIfInBounds 8 (.slice g.a g.n g.cap) := rfl
    rw [e]; exact this)
  have Y3 : Hid (Box (w2.setCell ⟨w.heap.size, 8, none⟩ (.slice g.a g.n g.cap)) (w.heap.size + 1) 24 #[.int .i64 0, .int .i64 0, .int .i64 0, .int .i64 0, .int .i64 0, .int .i64 0, .int .i64 0, .int .i64 0, .slice none 0 0]) := Lib.hid (Y2.kept (grownBy_setCell _ _ _ _) (by simp))
  have HS := Lib.hid hs0
  clear C1 c8 hgi hgv hgn hgb hth hth2 hb2 X0 Y0 X2 Y2 hb0 hs0
  go_wp2_with (first
    | (refine wpList_load_row rfl 24 _ rfl w.heap.size rfl 24 _ (0, 0) _ X3.out Try.underlying24 rfl (by kernel_rfl) ?_)
    | (refine wpList_store_row (o := ⟨none, .store _ _ _, _, _, _, _⟩) rfl 24 _ _ rfl (w.heap.size + 1) (withL x g).cells.toArray rfl rfl 24 _ Y3.out (by kernel_rfl) rfl (by simp [Ms15.cells, Value.oneCell']) ?_))
  have hgc := grownBy_setCell w2 w.heap.size 8 (.slice g.a g.n g.cap)
  have hgs := grownBy_setRow (w2.setCell ⟨w.heap.size, 8, none⟩ (.slice g.a g.n g.cap)) (w.heap.size + 1) (withL x g).cells.toArray
  have Z4 : Box ((w2.setCell ⟨w.heap.size, 8, none⟩ (.slice g.a g.n g.cap)).setRow (w.heap.size + 1) (withL x g).cells.toArray) (w.heap.size + 1) 24 (withL x g).cells.toArray := setRow_heap _ _ _ _ _ (0, 0) Y3.out
  have hsz := HB2.out.size
  have hb5 := (HB2.out.grown hgc hsz (fun b e => by cases e; omega)).grown hgs (by simp; omega) (fun b e => by cases e; omega)
  obtain ⟨h1, h2, h3, h4, h5⟩ := HG.out
  have hne : ∀ a, g.a = some a → a.block ≠ w.heap.size ∧ a.block ≠ w.heap.size + 1 := fun a ha => by have := h4 a ha; have := HS.out; omega
  refine bodyPost_ret (v := .agg (withL x g).cells.toArray) (results_row rfl rfl Z4 Try.underlying24 rfl (by kernel_rfl)) rfl ⟨⟨g, rfl, ?_, h2, h3, fun a ha => by have := h4 a ha; have := HS.out; omega, fun a ha => ?_⟩, hb5⟩
  · exact rw_other15 (rw_other15 h1 (fun a ha _ => (hne a ha).1) hgc) (fun a ha _ => (hne a ha).2) hgs
  · obtain ⟨cs, hc⟩ := h5 a ha
    exact ⟨cs, (hc.kept hgc (by have := (hne a ha).1; simpa using this)).kept hgs (by have := (hne a ha).2; simpa using this)⟩

theorem num_take {x y : Ms15} {k : Nat} (h : ∀ i, i < k → x.num i = y.num i) (h2 : x.num k = y.num k) : ∀ i, i < k + 1 → x.num i = y.num i := fun i hi => by
  by_cases e : i = k
  · rw [e]; exact h2
  · exact h i (by omega)
theorem sameM_no {x y : Ms15} {k : Nat} (hk : k < 7) (h : x.num k ≠ y.num k) : sameM x y = false := decide_eq_false fun h2 : sameP x y => h (h2.2.1 k hk)

set_option maxHeartbeats 3200000 in
set_option maxRecDepth 100000 in
theorem msame15 (x y : Ms15) (w : World) (h : x.In w) (h2 : y.In w) :
    Calls Try.prog 13 #[.agg #[.int .i64 x.kind, .int .i64 x.n0, .int .i64 x.n1, .int .i64 x.n2, .int .i64 x.n3, .int .i64 x.n4, .int .i64 x.n5, .int .i64 x.n6, .slice x.li.a x.li.n x.li.cap], .agg #[.int .i64 y.kind, .int .i64 y.n0, .int .i64 y.n1, .int .i64 y.n2, .int .i64 y.n3, .int .i64 y.n4, .int .i64 y.n5, .int .i64 y.n6, .slice y.li.a y.li.n y.li.cap]] w fun e w' => e = .returned (.bool (sameM x y)) ∧ Below w.heap.size w w' := by
  have X0 := (ms_box x w).alloc (.cells #[.int .i64 y.kind, .int .i64 y.n0, .int .i64 y.n1, .int .i64 y.n2, .int .i64 y.n3, .int .i64 y.n4, .int .i64 y.n5, .int .i64 y.n6, .slice y.li.a y.li.n y.li.cap] 24)
  have Y0 : Box ((w.alloc (.cells #[.int .i64 x.kind, .int .i64 x.n0, .int .i64 x.n1, .int .i64 x.n2, .int .i64 x.n3, .int .i64 x.n4, .int .i64 x.n5, .int .i64 x.n6, .slice x.li.a x.li.n x.li.cap] 24)).alloc (.cells #[.int .i64 y.kind, .int .i64 y.n0, .int .i64 y.n1, .int .i64 y.n2, .int .i64 y.n3, .int .i64 y.n4, .int .i64 y.n5, .int .i64 y.n6, .slice y.li.a y.li.n y.li.cap] 24)) (w.heap.size + 1) 24 y.cells.toArray := box_at (World.size_alloc _ _).symm _ _
  have hb0 : Below w.heap.size w ((w.alloc (.cells #[.int .i64 x.kind, .int .i64 x.n0, .int .i64 x.n1, .int .i64 x.n2, .int .i64 x.n3, .int .i64 x.n4, .int .i64 x.n5, .int .i64 x.n6, .slice x.li.a x.li.n x.li.cap] 24)).alloc (.cells #[.int .i64 y.kind, .int .i64 y.n0, .int .i64 y.n1, .int .i64 y.n2, .int .i64 y.n3, .int .i64 y.n4, .int .i64 y.n5, .int .i64 y.n6, .slice y.li.a y.li.n y.li.cap] 24)) := ((Below.refl _ _).alloc (Nat.le_refl _) _).alloc (by simp) _
  have hs0 : ((w.alloc (.cells #[.int .i64 x.kind, .int .i64 x.n0, .int .i64 x.n1, .int .i64 x.n2, .int .i64 x.n3, .int .i64 x.n4, .int .i64 x.n5, .int .i64 x.n6, .slice x.li.a x.li.n x.li.cap] 24)).alloc (.cells #[.int .i64 y.kind, .int .i64 y.n0, .int .i64 y.n1, .int .i64 y.n2, .int .i64 y.n3, .int .i64 y.n4, .int .i64 y.n5, .int .i64 y.n6, .slice y.li.a y.li.n y.li.cap] 24)).heap.size = w.heap.size + 2 := by simp
  go_enter Try.func13, Try.ntmps13
  go_upto_region 1 with fail
  generalize ((w.alloc (.cells #[.int .i64 x.kind, .int .i64 x.n0, .int .i64 x.n1, .int .i64 x.n2, .int .i64 x.n3, .int .i64 x.n4, .int .i64 x.n5, .int .i64 x.n6, .slice x.li.a x.li.n x.li.cap] 24)).alloc (.cells #[.int .i64 y.kind, .int .i64 y.n0, .int .i64 y.n1, .int .i64 y.n2, .int .i64 y.n3, .int .i64 y.n4, .int .i64 y.n5, .int .i64 y.n6, .slice y.li.a y.li.n y.li.cap] 24)) = w1 at X0 Y0 hb0 hs0 ⊢
  have NB := numbers15 (w.heap.size + 1) w1
  go_wp2_with fail
  refine NB.mono ?_
  rintro e w2 ⟨rfl, hb2⟩
  have X2 := X0.bel hb2
  have Y2 := Y0.bel hb2
  have hB2 := hb0.trans (hb2.mono (by omega))
  have hs2 : w.heap.size + 2 ≤ w2.heap.size := by rw [← hs0]; exact hb2.size
  clear NB X0 Y0 hb0 hb2 hs0
  have O2 : Box (w2.alloc (.cells #[.pointer none, .pointer none, .pointer none, .pointer none, .pointer none, .pointer none, .pointer none] 49)) w2.heap.size 49 #[.pointer none, .pointer none, .pointer none, .pointer none, .pointer none, .pointer none, .pointer none] := box_new _ _ _
  go_upto_region 2 with (refine wpList_store_row (o := ⟨none, .store _ _ _, _, _, _, _⟩) rfl 49 _ _ rfl w2.heap.size #[.pointer (some ⟨w.heap.size + 1, 1, none⟩), .pointer (some ⟨w.heap.size + 1, 2, none⟩), .pointer (some ⟨w.heap.size + 1, 3, none⟩), .pointer (some ⟨w.heap.size + 1, 4, none⟩), .pointer (some ⟨w.heap.size + 1, 5, none⟩), .pointer (some ⟨w.heap.size + 1, 6, none⟩), .pointer (some ⟨w.heap.size + 1, 7, none⟩)] rfl rfl 49 _ O2 (by kernel_rfl) rfl (by simp [Value.oneCell']) ?_)
  have hgs := grownBy_setRow (w2.alloc (.cells #[.pointer none, .pointer none, .pointer none, .pointer none, .pointer none, .pointer none, .pointer none] 49)) w2.heap.size #[.pointer (some ⟨w.heap.size + 1, 1, none⟩), .pointer (some ⟨w.heap.size + 1, 2, none⟩), .pointer (some ⟨w.heap.size + 1, 3, none⟩), .pointer (some ⟨w.heap.size + 1, 4, none⟩), .pointer (some ⟨w.heap.size + 1, 5, none⟩), .pointer (some ⟨w.heap.size + 1, 6, none⟩), .pointer (some ⟨w.heap.size + 1, 7, none⟩)]
  have X3 := (X2.alloc (.cells #[.pointer none, .pointer none, .pointer none, .pointer none, .pointer none, .pointer none, .pointer none] 49)).kept hgs (by simp; omega)
  have Y3 := (Y2.alloc (.cells #[.pointer none, .pointer none, .pointer none, .pointer none, .pointer none, .pointer none, .pointer none] 49)).kept hgs (by simp; omega)
  have O3 : Box ((w2.alloc (.cells #[.pointer none, .pointer none, .pointer none, .pointer none, .pointer none, .pointer none, .pointer none] 49)).setRow w2.heap.size #[.pointer (some ⟨w.heap.size + 1, 1, none⟩), .pointer (some ⟨w.heap.size + 1, 2, none⟩), .pointer (some ⟨w.heap.size + 1, 3, none⟩), .pointer (some ⟨w.heap.size + 1, 4, none⟩), .pointer (some ⟨w.heap.size + 1, 5, none⟩), .pointer (some ⟨w.heap.size + 1, 6, none⟩), .pointer (some ⟨w.heap.size + 1, 7, none⟩)]) w2.heap.size 49 #[.pointer (some ⟨w.heap.size + 1, 1, none⟩), .pointer (some ⟨w.heap.size + 1, 2, none⟩), .pointer (some ⟨w.heap.size + 1, 3, none⟩), .pointer (some ⟨w.heap.size + 1, 4, none⟩), .pointer (some ⟨w.heap.size + 1, 5, none⟩), .pointer (some ⟨w.heap.size + 1, 6, none⟩), .pointer (some ⟨w.heap.size + 1, 7, none⟩)] := setRow_heap _ _ _ _ _ (0, 0) O2
  have hB3 := (hB2.alloc hB2.size (.cells #[.pointer none, .pointer none, .pointer none, .pointer none, .pointer none, .pointer none, .pointer none] 49)).grown hgs (by simp; have := hB2.size; omega) (fun b e => by cases e; have := hB2.size; omega)
  obtain ⟨ob, hob⟩ : ∃ ob, w2.heap.size = ob := ⟨_, rfl⟩
  rw [hob] at X3 Y3 O3 hB3 ⊢
  generalize (w2.alloc (.cells #[.pointer none, .pointer none, .pointer none, .pointer none, .pointer none, .pointer none, .pointer none] 49)).setRow ob #[.pointer (some ⟨w.heap.size + 1, 1, none⟩), .pointer (some ⟨w.heap.size + 1, 2, none⟩), .pointer (some ⟨w.heap.size + 1, 3, none⟩), .pointer (some ⟨w.heap.size + 1, 4, none⟩), .pointer (some ⟨w.heap.size + 1, 5, none⟩), .pointer (some ⟨w.heap.size + 1, 6, none⟩), .pointer (some ⟨w.heap.size + 1, 7, none⟩)] = w3 at X3 Y3 O3 hB3 ⊢
  have NB := numbers15 w.heap.size w3
  clear X2 Y2 O2 hgs hB2
  go_wp2_with fail
  refine NB.mono ?_
  rintro e w4 ⟨rfl, hb4⟩
  have HX4 := Lib.hid (X3.bel hb4)
  have HY4 := Lib.hid (Y3.bel hb4)
  have HO4 := Lib.hid (O3.bel hb4)
  have HB4 := Lib.hid (hB3.trans (hb4.mono hB3.size))
  have HLX := Lib.hid (h.below HB4.out).li
  have HLY := Lib.hid (h2.below HB4.out).li
  have IX := Lib.hid (run_index7 w.heap.size)
  clear NB X3 Y3 O3 hB3 hb4 h h2 hob hs2
  go_wp2_with fail
  go_loopw [10] (fun i' wr => ∃ (k d : Nat), k ≤ 7 ∧ i' = .int .i64 k ∧ Hid (∀ i, i < k → x.num i = y.num i) ∧ wr = w4.drewN d) (fun i' _ => 7 - (intOf i').toNat)
  case atStart => exact ⟨0, 0, by omega, rfl, Lib.hid (fun i hi => by omega), rfl⟩
  case round =>
    obtain ⟨k, d, hk, rfl, hT, rfl⟩ := hrel
    by_cases hlt : k < 7
    · have ix := IX.out k hlt (w4.drewN d)
      have hlt2 : (k : Int) < 7 := by omega
      have cA : w4.cell? ⟨w.heap.size, 1 + k, none⟩ = some (.int .i64 (x.num k)) := ms_num HX4.out hlt
      have cB : w4.cell? ⟨w.heap.size + 1, 1 + k, none⟩ = some (.int .i64 (y.num k)) := ms_num HY4.out hlt
      have cO : w4.cell? ⟨ob, k, none⟩ = some (.pointer (some ⟨w.heap.size + 1, 1 + k, none⟩)) := by
        rw [HO4.out.cell k]
        rcases seven hlt with rfl | rfl | rfl | rfl | rfl | rfl | rfl <;> rfl
      by_cases he : x.num k = y.num k
      · have hst : Hid (∀ i, i < k + 1 → x.num i = y.num i) := Lib.hid (num_take hT.out he)
        rw [← he] at cB
        generalize x.num k = z at cA cB he
        clear he
        go_wp2_with fail
        go_quiet (fail)
        go_wp2
        go_roundw
        case rel => exact ⟨k + 1, _, by omega, by go_num, hst, rfl⟩
        case measure => simp [intOf]; omega
      · have hz := Lib.hid (sameM_no hlt he)
        have hbne : (x.num k == y.num k) = false := by simpa using he
        have hbne2 : (x.num k != y.num k) = true := by simpa using he
        generalize x.num k = z at cA hbne hbne2 he
        generalize y.num k = z2 at cB hbne hbne2 he
        go_wp2_with fail
        go_quiet (fail)
        go_wp2
        go_ret
        exact ⟨ret_bool hz.out.symm, below_drewN (below_drewN HB4.out _) _⟩
    · obtain rfl : k = 7 := by omega
      have a0 : (w4.drewN d).cell? ⟨w.heap.size, 0, none⟩ = some (.int .i64 x.kind) := (HX4.out.drewN d).cell 0
      have b0 : (w4.drewN d).cell? ⟨w.heap.size + 1, 0, none⟩ = some (.int .i64 y.kind) := (HY4.out.drewN d).cell 0
      have a8 : (w4.drewN d).cell? ⟨w.heap.size, 8, none⟩ = some (.slice x.li.a x.li.n x.li.cap) := (HX4.out.drewN d).cell 8
      have b8 : (w4.drewN d).cell? ⟨w.heap.size + 1, 8, none⟩ = some (.slice y.li.a y.li.n y.li.cap) := (HY4.out.drewN d).cell 8
      by_cases hkk : x.kind = y.kind
      · have E1 := equal32 x.li.a y.li.a x.li.n y.li.n x.li.cap y.li.cap x.li.v y.li.v (w4.drewN d) HLX.out.1 HLY.out.1
        have hz : Hid (decide (x.li.v = y.li.v) = sameM x y) := Lib.hid (by
          unfold sameM
          by_cases hv : x.li.v = y.li.v
          · have hP : sameP x y := ⟨hkk, hT.out, hv⟩
            rw [decide_eq_true hv, decide_eq_true hP]
          · have hP : ¬ sameP x y := fun h => hv h.2.2
            rw [decide_eq_false hv, decide_eq_false hP])
        rw [← hkk] at b0
        generalize decide (x.li.v = y.li.v) = r at E1 hz
        have hkb : (x.kind == x.kind) = true := by simp
        clear hkk
        go_wp2_with fail
        refine E1.mono ?_
        rintro e w5 ⟨rfl, hb5⟩
        have HB5 := Lib.hid (below_two (below_drewN HB4.out d) hb5)
        clear E1 hb5
        go_wp2_with fail
        go_ret
        exact ⟨ret_bool hz.out, HB5.out⟩
      · have hz : Hid (sameM x y = false) := Lib.hid (decide_eq_false (fun h : sameP x y => hkk h.1))
        have hkb : (x.kind == y.kind) = false := by simpa using hkk
        go_wp2_with fail
        go_ret
        exact ⟨ret_bool hz.out.symm, below_drewN HB4.out _⟩

end Go.Proofs.Ytobogkilkmnpmaa
