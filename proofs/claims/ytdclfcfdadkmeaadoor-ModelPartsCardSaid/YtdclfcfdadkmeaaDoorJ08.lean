import Derived.Test.YtdclfcfdadkmeaaDoorJ07
import Derived.Test.YtdclfcfdadkmeaaDoorJ01
import Derived.Test.YtdclfcfdadkmeaaDoorJ04
/-
  Contracts of layer 4's fits, blank, product and Apply: the product of a matrix with a row, in new memory, or a refusal.
-/
namespace Go.Proofs.YtdclfcfdadkmeaaDoor
open Go.RowKit
set_option linter.unusedVariables false

/-- the matrix g lies in block b, and its numbers where it says -/
structure MBox (wr : World) (b : Nat) (g : Gr) : Prop where
  box : Box3 wr b (.int .i64 g.r) (.int .i64 g.c) (.slice g.a g.n g.cap)
  inn : g.In8 wr
theorem MBox.below {wr wc : World} {b : Nat} {g : Gr} (h : MBox wr b g) (hb : Below wr.heap.size wr wc) : MBox wc b g := ⟨h.box.below hb, h.inn.below hb⟩
theorem MBox.alloc {wr : World} {b : Nat} {g : Gr} (h : MBox wr b g) (o : Obj) : MBox (wr.alloc o) b g := h.below ((Below.refl _ _).alloc (Nat.le_refl _) o)
theorem mbox_new {wr : World} {T : TypeId} {b : Nat} {g : Gr} (hi : g.In8 wr) (hb : b = wr.heap.size) : MBox (wr.alloc (.cells #[.int .i64 g.r, .int .i64 g.c, .slice g.a g.n g.cap] T)) b g :=
  ⟨box3_at hb _ _ _ _, hi.below ((Below.refl _ _).alloc (Nat.le_refl _) _)⟩

/-! ### products -/

/-- the product of R rows of C numbers with xs -/
def mv (v xs : List Int) (R C : Nat) : List Int := (List.range R).map fun i => wsum (prods (rowOf v C i) xs)
theorem mv_length (v xs : List Int) (R C : Nat) : (mv v xs R C).length = R := by simp [mv]
theorem mv_at (v xs : List Int) (R C i : Nat) (hi : i < R) : (mv v xs R C).getD i 0 = wsum (prods (rowOf v C i) xs) := by simp [mv, List.getD, hi]
theorem mv_wf (v xs : List Int) (R C : Nat) : ∀ x ∈ mv v xs R C, (Lit.int .i32 x).wf = true := by
  intro x hx
  obtain ⟨i, _, rfl⟩ := List.mem_map.1 hx
  exact wsum_wf _

/-- is there a product with a row of n numbers? -/
def appB (g : Gr) (n : Nat) : Bool := fitB g.r g.c g.n && decide ((n : Int) = g.c)
theorem appB_yes {g : Gr} {n : Nat} (h : appB g n = true) : ∃ R C : Nat, g.r = R ∧ g.c = C ∧ R ≤ 4096 ∧ C ≤ 4096 ∧ g.n = R * C ∧ R * C ≤ 1048576 ∧ n = C := by
  unfold appB at h
  simp only [Bool.and_eq_true, decide_eq_true_eq] at h
  obtain ⟨R, C, h1, h2, h3, h4, h5, h6⟩ := fitB_yes h.1
  exact ⟨R, C, h1, h2, h3, h4, h5, h6, by omega⟩
/-- with each of the rows? -/
def appAll (g : Gr) (qs : List Rw) : Bool := qs.all fun q => appB g q.n

theorem rowOf_empty (xs : List Int) (i : Nat) : rowOf xs 0 i = [] := by simp [rowOf]
theorem rowOf_length {xs : List Int} {R C i : Nat} (h : xs.length = R * C) (hi : i < R) : (rowOf xs C i).length = C := by
  have := row_le (C := C) hi
  unfold rowOf; simp; omega
/-- row i of a matrix, wherever 'line' says that it lies -/
theorem line_elems {kd : IntKind} {w : World} {a a' : Option Addr} {R C i : Nat} {xs : List Int} (h : Elems kd w a (R * C) xs) (hi : i < R) (ha : 0 < C → ∃ b off, a = some ⟨b, off, none⟩ ∧ a' = some ⟨b, off + i * C, none⟩) : Elems kd w a' C (rowOf xs C i) := by
  by_cases hC : 0 < C
  · obtain ⟨b, off, rfl, rfl⟩ := ha hC
    exact rowOf_elemsK h hi
  · obtain rfl : C = 0 := by omega
    exact Elems.empty a' (by simp [rowOf_empty]) rfl

set_option maxHeartbeats 800000 in
theorem fits_any (g : Gr) (a : Option Addr) (n cap : Nat) (qs : List Rw) (w : World) (hg : g.In8 w) (h : Rws .i8 w a n qs) :
    Calls Tryd.prog 68 #[.agg #[.int .i64 g.r, .int .i64 g.c, .slice g.a g.n g.cap], .slice a n cap] w fun e w' => e = .returned (.bool (appAll g qs)) ∧ Below w.heap.size w w' := by
  have hn := h.2.1
  have hl := Lib.hid h.1
  have B0 := fun o => (Below.refl w.heap.size w).alloc (Nat.le_refl _) o
  have X0 := fun T => mbox_new (T := T) hg rfl
  clear hg
  go_enter Tryd.func68, Tryd.ntmps68
  go_wp2
  go_loopw [9] (fun i wr => ∃ k : Nat, k ≤ n ∧ i = .int .i64 k ∧ Hid ((qs.take k).all (fun q => appB g q.n) = true) ∧ Below w.heap.size w wr ∧ MBox wr w.heap.size g) (fun i _ => n - (intOf i).toNat)
  case atStart => exact ⟨0, by omega, rfl, Lib.hid (by simp), B0 _, X0 _⟩
  case round =>
    clear B0 X0
    obtain ⟨k, hk, rfl, ht, hbel, hbox⟩ := hrel
    by_cases hlt : k < n
    · obtain ⟨b, off, q, rfl, hbl, cq, hq, hin⟩ := (h.below hbel).at_ hlt
      obtain ⟨hst, hend⟩ := all_step (fun q : Rw => appB g q.n) qs k (by rw [hl.out]; exact hlt) q hq.out ht.out
      have HST := Lib.hid hst
      have HEND := Lib.hid hend
      have hnq := hin.1.2.1
      have hnq2 := hbox.inn.1.2.1
      have hG := fun T => mats_one (T := T) (b := wr.heap.size) g hbox.inn rfl
      have B1 := fun o => hbel.alloc hbel.size o
      have X1 := fun o => hbox.alloc o
      obtain ⟨x1, c0, c1, c2, _, _, _⟩ := hbox.box
      obtain ⟨qa, qn, qcap, qv⟩ := q
      simp only at cq hst hend hnq
      clear h ht hq hst hend hin hbel hbox
      cases hf : fitB g.r g.c g.n with
      | false =>
        have R : Hid (appAll g qs = false) := Lib.hid (HEND.out (by show appB g qn = false; unfold appB; rw [hf]; rfl))
        clear HST HEND
        go_wp2_with fail
        refine (mright_one g false hf _ _ _ (hG _)).mono ?_
        rintro e wb ⟨rfl, hb⟩
        have B2 := below_two (B1 _) hb
        clear hf hG c0 c1 c2
        go_wp2
        go_ret
        exact ⟨ret_bool R.out.symm, B2⟩
      | true =>
        by_cases he : (qn : Int) = g.c
        · have R2 : Hid ((qs.take (k + 1)).all (fun q => appB g q.n) = true) := Lib.hid (by rw [HST.out]; show appB g qn = true; unfold appB; rw [hf, decide_eq_true he]; rfl)
          have HE := Lib.hid he.symm
          clear HST HEND he
          go_wp2_with fail
          refine (mright_one g true hf _ _ _ (hG _)).mono ?_
          rintro e wb ⟨rfl, hb⟩
          have B2 := below_two (B1 _) hb
          have X2 := (X1 _).below hb
          obtain ⟨_, d0, d1, d2, _, _, _⟩ := X2.box
          rw [HE.out] at d1
          clear hf hG c0 c1 c2
          go_wp2
          go_roundw
          case rel => exact ⟨k + 1, by omega, by go_num, R2, B2, X2⟩
          case measure => simp [intOf]; omega
        · have R : Hid (appAll g qs = false) := Lib.hid (HEND.out (by show appB g qn = false; unfold appB; rw [hf, decide_eq_false he]; rfl))
          have HE : ((qn : Int) == g.c) = false := beq_eq_false_iff_ne.2 he
          clear HST HEND
          go_wp2_with fail
          refine (mright_one g true hf _ _ _ (hG _)).mono ?_
          rintro e wb ⟨rfl, hb⟩
          have B2 := below_two (B1 _) hb
          have X2 := (X1 _).below hb
          obtain ⟨_, d0, d1, d2, _, _, _⟩ := X2.box
          clear hf hG c0 c1 c2
          go_wp2
          go_ret
          exact ⟨ret_bool R.out.symm, B2⟩
    · clear h
      obtain rfl : k = n := by omega
      have R : Hid (appAll g qs = true) := Lib.hid (by unfold appAll; rw [← ht.out, List.take_of_length_le (by rw [hl.out]; omega)])
      go_wp2
      go_ret
      exact ⟨ret_bool R.out.symm, hbel⟩

theorem fits_one (g : Gr) (q : Rw) (x : Bool) (hx : appB g q.n = x) (b cap : Nat) (w : World) (hg : g.In8 w) (h : Rws .i8 w (some ⟨b, 0, none⟩) 1 [q]) :
    Calls Tryd.prog 68 #[.agg #[.int .i64 g.r, .int .i64 g.c, .slice g.a g.n g.cap], .slice (some ⟨b, 0, none⟩) 1 cap] w fun e w' => e = .returned (.bool x) ∧ Below w.heap.size w w' := by
  rw [← hx, show appB g q.n = appAll g [q] by simp [appAll]]; exact fits_any _ _ _ _ _ _ hg h
theorem fits_c (g : Gr) (a : Option Addr) (n cap : Nat) (qs : List Rw) (x : Bool) (hx : appAll g qs = x) (w : World) (hg : g.In8 w) (h : Rws .i8 w a n qs) :
    Calls Tryd.prog 68 #[.agg #[.int .i64 g.r, .int .i64 g.c, .slice g.a g.n g.cap], .slice a n cap] w fun e w' => e = .returned (.bool x) ∧ Below w.heap.size w w' := by
  rw [← hx]; exact fits_any _ _ _ _ _ _ hg h


set_option maxHeartbeats 1000000 in
theorem mproduct (R C : Nat) (a : Option Addr) (cap : Nat) (v : List Int) (b : Option Addr) (bcap : Nat) (xs : List Int) (w : World) (hg : (⟨R, C, a, R * C, cap, v⟩ : Gr).In8 w) (hX : Elems .i8 w b C xs) (hR : R ≤ 4096) (hC : C ≤ 4096) :
    Calls Tryd.prog 69 #[.agg #[.int .i64 R, .int .i64 C, .slice a (R * C : Nat) cap], .slice b C bcap] w fun e w' => (∃ g, e = .returned (.slice (some ⟨g, 0, none⟩) R R) ∧ w.heap.size ≤ g ∧ Elems .i32 w' (some ⟨g, 0, none⟩) R (mv v xs R C)) ∧ Below w.heap.size w w' := by
  obtain ⟨hE, hcap, hcap2, hsl, _, _, _, _⟩ := hg
  simp only at hE hcap hcap2 hsl
  have hmk := run_make_row' (P := Tryd.prog) 39 21 (.int .i32 0) 4 Tryd.underlying39 info_int32 rfl .i64 .i64 R (by omega) (by omega)
  have B0 := fun o o2 => ((Below.refl w.heap.size w).alloc (Nat.le_refl _) o).alloc (by simp) o2
  have X0 := fun o => (box3_at (w := w) rfl (.int .i64 R) (.int .i64 C) (.slice a (R * C : Nat) cap) 55).alloc o
  have hown := fun o => World.ownsRow_lit (e := 21) (size := 1) (w.alloc o) (madeCells #[Value.int .i32 0] R) R (Nat.le_refl _) (by unfold maxLen; omega) (by rw [size_madeCells, Nat.mul_one])
  have hz := made_zeros .i32 R
  rw [Nat.mul_one] at hz
  have hown2 : ∀ o, ((w.alloc o).alloc (.cells (madeCells #[Value.int .i32 0] R) 21)).ownsRow w.heap.size 21 1 (.slice (some ⟨w.heap.size + 1, 0, none⟩) R R) R ((List.replicate R 0).map (.int .i32)) := fun o => by
    have := hown o
    rw [show (madeCells #[Value.int .i32 0] R).toList = (List.replicate R 0).map (Value.int .i32) from hz] at this
    simp only [World.size_alloc] at this
    exact ⟨this.1, by
      rcases this.2 with h | ⟨g, cp, cur, hv, hb, h2⟩
      · exact .inl h
      · exact .inr ⟨g, cp, cur, hv, by omega, h2⟩⟩
  have HE := Lib.hid hE
  have HX := Lib.hid hX
  have HS := Lib.hid hsl
  clear hE hX hsl hown hz
  go_enter Tryd.func69, Tryd.ntmps69
  go_wp2
  go_loopw [12] (fun i wr => ∃ (k : Nat) (cs : List Int), k ≤ R ∧ i = .int .i64 k ∧ wr.ownsRow w.heap.size 21 1 (.slice (some ⟨w.heap.size + 1, 0, none⟩) R R) R (cs.map (.int .i32)) ∧ Below w.heap.size w wr ∧ Box3 wr w.heap.size (.int .i64 R) (.int .i64 C) (.slice a (R * C : Nat) cap) ∧ w.heap.size + 1 < wr.heap.size ∧ Hid (FilledBy (fun i => wsum (prods (rowOf v C i) xs)) R k cs)) (fun i _ => R - (intOf i).toNat)
  case atStart => exact ⟨0, _, by omega, rfl, hown2 _, B0 _ _, X0 _, by simp, Lib.hid (filledBy_start _ R)⟩
  case round =>
    clear B0 X0 hown2
    obtain ⟨k, cs, hk, rfl, hown, hbel, hbox, hsz, hfil⟩ := hrel
    by_cases hlt : k < R
    · obtain ⟨x1, c0, c1, c2, f0, f1, f2⟩ := hbox
      go_wp2_with fail
      refine (mline_at R C k a cap _ hcap hcap2 HS.out.1 (fun x hx h0 => HS.out.2 x hx (by omega)) hR hC hlt).mono ?_
      rintro e wb ⟨⟨a', cap', rfl, hc1, hc2, ha'⟩, hb⟩
      have hbox2 := (show Box3 wr w.heap.size _ _ _ from ⟨x1, c0, c1, c2, f0, f1, f2⟩).below hb
      have hbel2 := below_two hbel hb
      have hsz2 : w.heap.size + 1 < wb.heap.size := by have := hb.size; omega
      have hrow := line_elems (HE.out.below hbel2) hlt ha'
      have hX2 := HX.out.below hbel2
      have hown2 := own_below hown hb
      have hlen := hfil.out.1
      have hold : ∀ d, ((wb.drewN d).cell? ⟨w.heap.size + 1, k, none⟩ = some (.int .i32 (cs.getD k 0))) := fun d => by
        show wb.cell? _ = _
        rw [hown2.cellAt k (by omega), List.getElem?_map, List.getD_eq_getElem?_getD, List.getElem?_eq_getElem (by omega)]; rfl
      have hfrz : ∀ d, ((wb.drewN d).frozen? ⟨w.heap.size + 1, k, none⟩ = false) := fun d => hown2.frozenAt k
      obtain ⟨c, hcc⟩ : ∃ c, cs.getD k 0 = c := ⟨_, rfl⟩
      rw [hcc] at hold
      obtain ⟨z, hzz⟩ : ∃ z, wsum (prods (rowOf v C k) xs) = z := ⟨_, rfl⟩
      have hdot := dot a' C cap' _ b C bcap xs wb hrow hX2
      rw [hzz] at hdot
      have hnew := fun d => (World.ownsRow.stored (w := wb.drewN d) hown2 k (.int .i32 z)).1
      have hbel3 := fun d => (below_drewN hbel2 d).setCell (p := ⟨w.heap.size + 1, k, none⟩) (by simp) (.int .i32 z)
      have hfil3 : Hid (FilledBy (fun i => wsum (prods (rowOf v C i) xs)) R (k + 1) (cs.set k z)) := Lib.hid (by rw [← hzz]; exact filledBy_step hfil.out hlt)
      have hbox3 : ∀ d, Box3 ((wb.drewN d).setCell ⟨w.heap.size + 1, k, none⟩ (.int .i32 z)) w.heap.size (.int .i64 R) (.int .i64 C) (.slice a (R * C : Nat) cap) := fun d => hbox2.kept ((grownBy_drewN wb d _).trans (grownBy_setCell _ _ _ _)) (by simp)
      have hsz3 : ∀ d, w.heap.size + 1 < ((wb.drewN d).setCell ⟨w.heap.size + 1, k, none⟩ (.int .i32 z)).heap.size := fun d => by simpa using hsz2
      simp only [← List.map_set] at hnew
      clear hcc hzz hrow hX2 hown2 hlen ha' hb hown hbel hfil c0 c1 c2 f0 f1 f2 hbox2 hbel2
      go_wp2_with fail
      refine hdot.mono ?_
      rintro e wc ⟨rfl, d, rfl⟩
      have h1 := hold d
      have h2 := hfrz d
      have h3 := hnew d
      have h4 := hbel3 d
      have h5 := hbox3 d
      have h6 := hsz3 d
      clear hold hfrz hnew hbel3 hbox3 hsz3 hdot
      go_wp2
      go_roundw
      case rel => exact ⟨k + 1, _, by omega, by go_num, h3, h4, h5, h6, hfil3⟩
      case measure => simp [intOf]; omega
    · obtain rfl : k = R := by omega
      have hcs : cs = mv v xs k C := by
        refine List.ext_getElem? fun i => ?_
        by_cases hi : i < k
        · have h3 := hfil.out.2 i hi
          rw [if_pos hi] at h3
          have h4 := mv_at v xs k C i hi
          rw [List.getD_eq_getElem?_getD, List.getElem?_eq_getElem (by rw [hfil.out.1]; exact hi)] at h3
          rw [List.getD_eq_getElem?_getD, List.getElem?_eq_getElem (by rw [mv_length]; exact hi)] at h4
          rw [List.getElem?_eq_getElem (by rw [hfil.out.1]; exact hi), List.getElem?_eq_getElem (by rw [mv_length]; exact hi)]
          simp only [Option.getD_some] at h3 h4
          rw [h3, h4]
        · rw [List.getElem?_eq_none (by rw [hfil.out.1]; omega), List.getElem?_eq_none (by rw [mv_length]; omega)]
      rw [hcs] at hown
      have hE2 := own_elems hown (by omega) (mv_wf _ _ _ _)
      clear hcs hown hfil hbox
      go_wp2
      go_ret
      exact ⟨⟨_, rfl, by omega, hE2⟩, hbel⟩

end Go.Proofs.YtdclfcfdadkmeaaDoor

/-
  Contracts of layer 4's Apply and Many: the products in new memory, or a refusal.
-/
namespace Go.Proofs.YtdclfcfdadkmeaaDoor
open Go.RowKit
set_option linter.unusedVariables false

/-- the row that came without an error lies in a new block -/
def NewRow (w0 w : World) (n : Nat) (xs : List Int) (e : Ending) : Prop :=
  ∃ g, e = .returned (.tuple #[.slice (some ⟨g, 0, none⟩) n n, .int .i64 0]) ∧ w0.heap.size ≤ g ∧ Elems .i32 w (some ⟨g, 0, none⟩) n xs
/-- no row, and an error -/
def NoRow (c : Int) (e : Ending) : Prop := e = .returned (.tuple #[.slice none 0 0, .int .i64 c])

theorem apply_no (g : Gr) (q : Rw) (h : appB g q.n = false) (w : World) (hg : g.In8 w) (hq : q.In .i8 w) :
    Calls Tryd.prog 51 #[.agg #[.int .i64 g.r, .int .i64 g.c, .slice g.a g.n g.cap], .slice q.a q.n q.cap] w fun e w' => NoRow 30 e ∧ Below w.heap.size w w' := by
  have a1 := fun o => (Below.refl w.heap.size w).alloc (Nat.le_refl _) o
  have B0 := fun o o2 => ((Below.refl w.heap.size w).alloc (Nat.le_refl _) o).alloc (by simp) o2
  have hG := fun o o2 => hg.below (((Below.refl w.heap.size w).alloc (Nat.le_refl _) o).alloc (by simp) o2)
  have hR := fun o T => rws_one (T := T) (b := w.heap.size + 1) q (hq.below (a1 o)) (by simp)
  go_enter Tryd.func51, Tryd.ntmps51
  go_wp2_with fail
  refine (fits_one g q false h _ _ _ (hG _ _) (hR _ _)).mono ?_
  rintro e wb ⟨rfl, hb⟩
  have B1 := below_two (B0 _ _) hb
  clear h hg hq a1 B0 hG hR hb
  go_wp2
  go_ret2
  exact ⟨rfl, B1⟩

theorem apply_yes (g : Gr) (q : Rw) (R C : Nat) (e1 : g.r = R) (e2 : g.c = C) (e3 : g.n = R * C) (e4 : q.n = C) (hR : R ≤ 4096) (hC : C ≤ 4096) (hle : R * C ≤ 1048576) (w : World) (hg : g.In8 w) (hq : q.In .i8 w) :
    Calls Tryd.prog 51 #[.agg #[.int .i64 g.r, .int .i64 g.c, .slice g.a g.n g.cap], .slice q.a q.n q.cap] w fun e w' => NewRow w w' R (mv g.v q.v R C) e ∧ Below w.heap.size w w' := by
  have hap : appB g q.n = true := by
    unfold appB
    rw [e1, e2, e3, e4, fitB_nat R C hR hC hle, decide_eq_true rfl]; rfl
  obtain ⟨gr, gc, ga, gn, gcap, gv⟩ := g
  obtain ⟨qa, qn, qcap, qv⟩ := q
  simp only at e1 e2 e3 e4 hap
  subst e1 e2 e3 e4
  have a1 := fun o => (Below.refl w.heap.size w).alloc (Nat.le_refl _) o
  have a2 := fun o o2 => ((Below.refl w.heap.size w).alloc (Nat.le_refl _) o).alloc (by simp) o2
  have hG := fun o o2 => hg.below (a2 o o2)
  have hR2 := fun o T => rws_one (T := T) (b := w.heap.size + 1) ⟨qa, qn, qcap, qv⟩ (hq.below (a1 o)) (by simp)
  have X0 := fun o => (box3_at (w := w) rfl (.int .i64 R) (.int .i64 qn) (.slice ga (R * qn : Nat) gcap) 55).alloc o
  go_enter Tryd.func51, Tryd.ntmps51
  go_wp2_with fail
  refine (fits_one _ _ true hap _ _ _ (hG _ _) (hR2 _ _)).mono ?_
  rintro e wb ⟨rfl, hb⟩
  have B1 := below_two (a2 _ _) hb
  obtain ⟨_, c0, c1, c2, _, _, _⟩ := (X0 _).below hb
  have hg2 := hg.below B1
  have hq2 := hq.below B1
  have hsz := B1.size
  clear hap a1 a2 hG hR2 X0 hg hq hb
  go_wp2_with fail
  refine (mproduct R qn ga gcap gv qa qcap qv _ hg2 hq2.1 hR hC).mono ?_
  rintro e wc ⟨⟨g, rfl, hlt, hE⟩, hc⟩
  have B2 := below_two B1 hc
  clear hg2 hq2 B1 hc c0 c1 c2
  go_wp2
  go_ret2
  exact ⟨⟨g, rfl, by omega, hE⟩, B2⟩


end Go.Proofs.YtdclfcfdadkmeaaDoor
