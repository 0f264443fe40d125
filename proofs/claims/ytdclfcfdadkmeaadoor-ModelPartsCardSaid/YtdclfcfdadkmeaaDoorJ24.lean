import Derived.Test.YtdclfcfdadkmeaaDoorJ23
import Derived.Test.YtdclfcfdadkmeaaDoorJ21
import Derived.Test.YtdclfcfdadkmeaaDoorJ02
import Derived.Deep.RegionHeld3
/-
  A head of noughts: every weight is 0, and the first is the greatest.
-/
namespace Go.Proofs.YtdclfcfdadkmeaaDoor
open Go.RowKit
set_option linter.unusedVariables false

theorem prods_zero {xs : List Int} (h : ∀ x ∈ xs, x = 0) : ∀ ys : List Int, ∀ z ∈ prods xs ys, z = 0 := by
  unfold prods
  induction xs with
  | nil => intro ys z hz; simp at hz
  | cons x xs ih =>
    intro ys z hz
    cases ys with
    | nil => simp at hz
    | cons y ys =>
      rw [List.zipWith_cons_cons, List.mem_cons] at hz
      rcases hz with rfl | hz
      · rw [h x (by simp), Int.zero_mul]
      · exact ih (fun x' hx' => h x' (by simp [hx'])) ys z hz
theorem sum_zero {zs : List Int} (h : ∀ z ∈ zs, z = 0) : zs.sum = 0 := by
  induction zs with
  | nil => rfl
  | cons z zs ih => rw [List.sum_cons, h z (by simp), ih (fun x hx => h x (by simp [hx]))]; rfl
theorem mv_zero {v : List Int} (h : ∀ x ∈ v, x = 0) (xs : List Int) (R C : Nat) : mv v xs R C = List.replicate R 0 := by
  unfold mv
  apply List.ext_getElem (by simp)
  intro i h1 h2
  have : ∀ x ∈ rowOf v C i, x = 0 := fun x hx => h x (List.mem_of_mem_drop (List.mem_of_mem_take hx))
  have e : wsum (prods (rowOf v C i) xs) = 0 := by
    unfold wsum
    rw [sum_zero (prods_zero this xs)]
    unfold wrap32
    omega
  simp only [List.getElem_map, List.getElem_replicate, List.getElem_range]
  exact e
theorem best_zero {n : Nat} {B : Nat} (h : Best (List.replicate n 0) n (B : Int)) : B = 0 := by
  rcases h with ⟨_, h⟩ | ⟨j, hb, hj, h1, h2⟩
  · omega
  · obtain rfl : B = j := by omega
    rcases Nat.eq_zero_or_pos B with h | h
    · exact h
    · have := h2 0 h
      simp [List.getD, hj, show 0 < n by omega] at this
/-- what a head of noughts says: noughts -/
theorem genL_zero {s : Sz} {W : Wn8} {ts said : List Int} (hz : ∀ x ∈ W.hd, x = 0) (hv : W.s.v = s.v) (h : GenL s W ts said) : said = List.replicate said.length 0 := by
  apply List.ext_getElem (by simp)
  intro i h1 h2
  obtain ⟨B, e, _, hb⟩ := h i h1
  unfold outO at hb
  rw [mv_zero hz, hv] at hb
  have := best_zero hb
  rw [List.getD_eq_getElem?_getD, List.getElem?_eq_getElem h1] at e
  simp only [Option.getD_some] at e
  rw [e, this, List.getElem_replicate]
  rfl

end Go.Proofs.YtdclfcfdadkmeaaDoor

/-
  The document's examples of stage 9: awake returns true.
-/
namespace Go.Proofs.YtdclfcfdadkmeaaDoor
open Go.RowKit Go.Shelf
set_option linter.unusedVariables false
attribute [local go_sem] Oper.semAt_some

theorem Tabs9.bel {w w' : World} (h : Tabs9 w) (hb : Below w.heap.size w w') : Tabs9 w' := ⟨h.1.below hb, h.2.1.below hb, Nat.lt_of_lt_of_le h.2.2.1 hb.size, Nat.lt_of_lt_of_le h.2.2.2 hb.size⟩
/-- the example's shape -/
def ex9 : Sz := ⟨1, 4, 2, 3, 5, 8⟩
theorem ex9_ok : ex9.Ok := ⟨by decide, by decide, by decide, by decide, by decide, by decide, by decide, by decide, by decide, by decide, by decide, by decide, by decide⟩
/-- 140 noughts -/
theorem zeros140 (w : World) (T : TypeId) : Elems .i8 (w.alloc (.cells (madeCells #[.int .i8 0] 140) T)) (some ⟨w.heap.size, 0, none⟩) 140 (List.replicate 140 0) :=
  (mine_made .i8 w T 140 rfl).elems (by simp) (by simp) (fun x hx => by rw [List.eq_of_mem_replicate hx]; rfl)

set_option maxHeartbeats 4000000 in
set_option maxRecDepth 100000 in
theorem awake9 (w : World) (hT : Tabs9 w) : Calls Tryd.prog 18 #[] w fun e w' => e = .returned (.bool true) ∧ Below w.heap.size w w' := by
  have cO : ∀ (W : World) (b : Nat), Elems .i8 W (some ⟨b, 0, none⟩) 140 (List.replicate 140 0) → Calls Tryd.prog 26 #[.agg #[.int .i64 1, .int .i64 4, .int .i64 2, .int .i64 3, .int .i64 5, .int .i64 8], .slice (some ⟨b, 0, none⟩) 140 140] W fun e w' => OfW ex9 (List.replicate 140 0) w' e ∧ Below W.heap.size W w' :=
    fun W b hx => of8 ex9 ex9_ok b 0 140 140 (List.replicate 140 0) W hx (by decide) (by omega) (by omega) (by omega)
  go_enter Tryd.func18, Tryd.ntmps18
  go_upto_region 2 with (fail)
  generalize hwa : World.alloc w _ = wa
  have X : Box wa w.heap.size 35 #[.int .i64 1, .int .i64 4, .int .i64 2, .int .i64 3, .int .i64 5, .int .i64 8] := by rw [← hwa]; exact box_new _ _ _
  have HB : Hid (Below w.heap.size w wa) := Lib.hid (by rw [← hwa]; exact (Below.refl _ _).alloc (Nat.le_refl _) _)
  have HX := Lib.hid X
  obtain ⟨z0, z1, z2, z3, z4, z5⟩ := X.cells6
  clear hwa X
  have hz : ∀ (V : World) (T : TypeId), Elems .i8 (V.alloc (.cells (madeCells #[.int .i8 0] 140) T)).drew (some ⟨V.heap.size, 0, none⟩) 140 (List.replicate 140 0) := fun V T => (zeros140 V T).below (Below.refl _ _).drew
  have hmk : ∀ W, (Instr.makeSlice 24 (.int .i64 140) (.int .i64 140)).run Tryd.prog W = .ok (.slice (some ⟨W.heap.size, 0, none⟩) 140 140) (W.alloc (.cells (madeCells #[.int .i8 0] 140) 89)) := fun W => run_make_row' (P := Tryd.prog) 24 89 (.int .i8 0) 1 Tryd.underlying24 info8 rfl .i64 .i64 140 (by omega) (by omega) W
  go_region_held3 (fun w' => w'.cell? ⟨w.heap.size, 0, none⟩ = some (.int .i64 1) ∧ w'.cell? ⟨w.heap.size, 1, none⟩ = some (.int .i64 4) ∧ w'.cell? ⟨w.heap.size, 2, none⟩ = some (.int .i64 2) ∧ w'.cell? ⟨w.heap.size, 3, none⟩ = some (.int .i64 3) ∧ w'.cell? ⟨w.heap.size, 4, none⟩ = some (.int .i64 5) ∧ w'.cell? ⟨w.heap.size, 5, none⟩ = some (.int .i64 8))
    (first | go_keep | (go_split_ands; refine ⟨?_, ?_, ?_, ?_, ?_, ?_⟩ <;> assumption))
    (first
      | (go_at_call 26; (with_reducible refine (cO _ _ (hz _ _)).mono ?_); rintro e w1 ⟨hW, hb1⟩; obtain ⟨W, rfl, hin, h6, hwt, hnu⟩ := hW
         have hB1 : Hid (Below wa.heap.size wa w1) := Lib.hid (below_two (((Below.refl _ _).alloc (Nat.le_refl _) _).drew) hb1)
         obtain ⟨y0, y1, y2, y3, y4, y5⟩ := (Box.bel HX.out hB1.out).cells6
         have cN := new8 ex9 ex9_ok W w1 hin h6 hwt
         have HNU := Lib.hid hnu
         clear hin h6 hwt hnu hb1)
      | (go_at_call 25; (with_reducible refine cN.mono ?_); rintro e w2 ⟨⟨m, V, rfl, m1, hmod, hnums⟩, hb2⟩
         have HB2 := Lib.hid (below_two hB1.out hb2)
         obtain ⟨x0, x1, x2, x3, x4, x5⟩ := (Box.bel HX.out HB2.out).cells6
         have HMOD := Lib.hid hmod
         have HNUM := Lib.hid hnums
         clear cN hmod hnums hb2))
  have HBW := Lib.hid (below_two HB.out HB2.out)
  have HT2 := Lib.hid (hT.bel HBW.out)
  have HZ : Hid (∀ x ∈ (V.nums ex9).hd, x = 0) := Lib.hid (by
    rw [HNUM.out, HNU.out]
    intro x hx
    unfold wnOf cutL at hx
    exact List.eq_of_mem_replicate (List.mem_of_mem_drop (List.mem_of_mem_take hx)))
  have B1 : ∀ (U : World) (o : Obj), Below U.heap.size U (U.alloc o) := fun U o => (Below.refl _ _).alloc (Nat.le_refl _) o
  have cG : ∀ T : TypeId, Calls Tryd.prog 22 #[.pointer (some ⟨m, 0, none⟩), .slice (some ⟨w2.heap.size, 0, none⟩) 1 1, .int .i64 3] (w2.alloc (.cells #[.int .i64 2] T)) fun e w' => (∃ g : Rw, e = .returned (.tuple #[.slice g.a g.n g.cap, .int .i64 0]) ∧ g.In .i64 w' ∧ GenL ex9 (V.nums ex9) [2] g.v ∧ g.n = 3 ∧ ∀ x, g.a = some x → (w2.alloc (.cells #[.int .i64 2] T)).heap.size ≤ x.block) ∧ Below (w2.alloc (.cells #[.int .i64 2] T)).heap.size (w2.alloc (.cells #[.int .i64 2] T)) w' :=
    fun T => generate9 m ex9 ex9_ok V _ (HMOD.out.bel (B1 _ _)) (by decide) ⟨some ⟨w2.heap.size, 0, none⟩, 1, 1, [2]⟩ (rw_in (elems_litK [2] rfl rfl (by decide) (by decide) rfl) (by decide)) (by show (1 : Nat) ≤ 1000; omega) 3 (by simp [check9, odd9, ex9]) (HT2.out.bel (B1 _ _)).1 (HT2.out.bel (B1 _ _)).2.1 (HT2.out.bel (B1 _ _)).2.2.1 (HT2.out.bel (B1 _ _)).2.2.2
  have HCC := Lib.hid (fun (most : Int) (a : Option Addr) (n cap : Nat) (ts : List Int) (U : World) (hm : -9223372036854775808 ≤ most ∧ most ≤ 9223372036854775807) (hE : Elems .i64 U a n ts) (hn : n ≤ 1000) => check_code 1 4 2 3 5 8 most a n cap ts U (by omega) (by omega) hm hE hn)
  clear cO hz hmk z0 z1 z2 z3 z4 z5 y0 y1 y2 y3 y4 y5 x0 x1 x2 x3 x4 x5 hT
  go_wp2_with fail
  refine (cG _).mono ?_
  rintro e w3 ⟨⟨g, rfl, hgi, hgl, hgn, -⟩, hb3⟩
  have HB3 := Lib.hid (below_two (B1 _ _) hb3)
  have hgv : g.v = [0, 0, 0] := by
    have h1 := genL_zero HZ.out rfl hgl
    rw [h1, hgi.1.1, hgn]
    rfl
  have HGI := Lib.hid hgi
  have HGV := Lib.hid hgv
  have HX3 := Lib.hid (Box.bel HX.out (below_two HB2.out HB3.out))
  have cI : ∀ T : TypeId, Calls Tryd.prog 24 #[.slice g.a g.n g.cap, .slice (some ⟨w3.heap.size, 0, none⟩) 3 3] (w3.alloc (.cells #[.int .i64 0, .int .i64 0, .int .i64 0] T)) fun e w' => e = .returned (.bool true) ∧ Below (w3.alloc (.cells #[.int .i64 0, .int .i64 0, .int .i64 0] T)).heap.size (w3.alloc (.cells #[.int .i64 0, .int .i64 0, .int .i64 0] T)) w' := fun T => by
    have h := ints9 g.a (some ⟨w3.heap.size, 0, none⟩) g.n 3 g.cap 3 g.v [0, 0, 0] (w3.alloc (.cells #[.int .i64 0, .int .i64 0, .int .i64 0] T)) (HGI.out.1.below (B1 _ _)) (elems_litK [0, 0, 0] rfl rfl (by decide) (by decide) rfl)
    rw [HGV.out] at h
    simpa using h
  clear hgi hgl hgn hb3 hgv cG
  go_wp2_with fail
  refine (cI _).mono ?_
  rintro e w4 ⟨rfl, hb4⟩
  have HB4 := Lib.hid (below_two (B1 _ _) hb4)
  have HX4 := Lib.hid (Box.bel HX3.out HB4.out)
  obtain ⟨z0, z1, z2, z3, z4, z5⟩ := HX4.out.cells6
  have c1 : Calls Tryd.prog 19 #[.agg #[.int .i64 1, .int .i64 4, .int .i64 2, .int .i64 3, .int .i64 5, .int .i64 8], .slice none 0 0, .int .i64 1] w4 fun e w' => e = .returned (.int .i64 90) ∧ Below w4.heap.size w4 w' := HCC.out 1 none 0 0 [] w4 (by omega) (Elems.nil_ _ _ _) (by omega)
  clear hb4 cI
  go_wp2_with fail
  refine c1.mono ?_
  rintro e w5 ⟨rfl, hb5⟩
  have HX5 := Lib.hid (Box.bel HX4.out hb5)
  have HB5 := Lib.hid hb5
  clear z0 z1 z2 z3 z4 z5 c1 hb5
  obtain ⟨z0, z1, z2, z3, z4, z5⟩ := HX5.out.cells6
  have c2 : ∀ T : TypeId, Calls Tryd.prog 19 #[.agg #[.int .i64 1, .int .i64 4, .int .i64 2, .int .i64 3, .int .i64 5, .int .i64 8], .slice (some ⟨w5.heap.size, 0, none⟩) 2 2, .int .i64 7] (w5.alloc (.cells #[.int .i64 1, .int .i64 1] T)) fun e w' => e = .returned (.int .i64 0) ∧ Below (w5.alloc (.cells #[.int .i64 1, .int .i64 1] T)).heap.size (w5.alloc (.cells #[.int .i64 1, .int .i64 1] T)) w' :=
    fun T => HCC.out 7 _ 2 2 [1, 1] _ (by omega) (elems_litK [1, 1] rfl rfl (by decide) (by decide) rfl) (by omega)
  go_wp2_with fail
  refine (c2 _).mono ?_
  rintro e w6 ⟨rfl, hb6⟩
  have HB6 := Lib.hid (below_two (B1 _ _) hb6)
  have HX6 := Lib.hid (Box.bel HX5.out HB6.out)
  clear z0 z1 z2 z3 z4 z5 c2 hb6
  obtain ⟨z0, z1, z2, z3, z4, z5⟩ := HX6.out.cells6
  have c3 : ∀ T : TypeId, Calls Tryd.prog 19 #[.agg #[.int .i64 1, .int .i64 4, .int .i64 2, .int .i64 3, .int .i64 5, .int .i64 8], .slice (some ⟨w6.heap.size, 0, none⟩) 2 2, .int .i64 8] (w6.alloc (.cells #[.int .i64 1, .int .i64 1] T)) fun e w' => e = .returned (.int .i64 80) ∧ Below (w6.alloc (.cells #[.int .i64 1, .int .i64 1] T)).heap.size (w6.alloc (.cells #[.int .i64 1, .int .i64 1] T)) w' :=
    fun T => HCC.out 8 _ 2 2 [1, 1] _ (by omega) (elems_litK [1, 1] rfl rfl (by decide) (by decide) rfl) (by omega)
  go_wp2_with fail
  refine (c3 _).mono ?_
  rintro e w7 ⟨rfl, hb7⟩
  have HB7 := Lib.hid (below_two HBW.out (below_two HB3.out (below_two HB4.out (below_two HB5.out (below_two HB6.out (below_two (B1 _ _) hb7))))))
  clear z0 z1 z2 z3 z4 z5 c3 hb7
  go_wp2
  go_ret
  exact ⟨rfl, HB7.out⟩

end Go.Proofs.YtdclfcfdadkmeaaDoor
