import Derived.Test.YtoeihigdndkjeaaGreatDoorJ08
import Derived.Test.YtoeihigdndkjeaaGreatDoorJ02
import Derived.Test.YtoeihigdndkjeaaGreatDoorJ03
import Derived.Test.YtoeihigdndkjeaaGreatDoorJ04
import Derived.Deep.RegionLaw
import Derived.Deep.RegionHeld3
/-
  Contracts of layer 4's fits, blank, product and Apply: the product of a matrix with a row, in new memory, or a refusal.
-/
namespace Go.Proofs.YtoeihigdndkjeaaGreatDoor
open Go.RowKit
set_option linter.unusedVariables false

/-- the matrix g lies in block b, and its numbers where it says -/
structure MBox (wr : World) (b : Nat) (g : Gr) : Prop where
  box : Box3 wr b (.int .i64 g.r) (.int .i64 g.c) (.slice g.a g.n g.cap)
  inn : g.In8 wr
theorem MBox.below {wr wc : World} {b : Nat} {g : Gr} (h : MBox wr b g) (hb : Below wr.heap.size wr wc) : MBox wc b g := ⟨h.box.below hb, h.inn.below hb⟩
theorem MBox.alloc {wr : World} {b : Nat} {g : Gr} (h : MBox wr b g) (o : Obj) : MBox (wr.alloc o) b g := h.below ((Below.refl _ _).alloc (Nat.le_refl _) o)
theorem mbox_new {wr : World} {T : TypeId} {b : Nat} {g : Gr} (hi : g.In8 wr) (hb : b = wr.heap.size) : MBox (wr.alloc (.cells #[.int .i64 g.r, .int .i64 g.c, .slice g.a g.n g.cap] T)) b g :=
  ⟨box3_at hb _ _ _ _, hi.below ((Below.refl _ _).alloc (Nat.le_refl _) _)⟩

/-! ### products -/

/-- the product of R rows of C numbers with xs -/
def mv (v xs : List Int) (R C : Nat) : List Int := (List.range R).map fun i => wsum (prods (rowOf v C i) xs)
theorem mv_length (v xs : List Int) (R C : Nat) : (mv v xs R C).length = R := by simp [mv]
theorem mv_at (v xs : List Int) (R C i : Nat) (hi : i < R) : (mv v xs R C).getD i 0 = wsum (prods (rowOf v C i) xs) := by simp [mv, List.getD, hi]
theorem mv_wf (v xs : List Int) (R C : Nat) : ∀ x ∈ mv v xs R C, (Lit.int .i32 x).wf = true := by
  intro x hx
  obtain ⟨i, _, rfl⟩ := List.mem_map.1 hx
  exact wsum_wf _

/-- is there a product with a row of n numbers? -/
def appB (g : Gr) (n : Nat) : Bool := fitB g.r g.c g.n && decide ((n : Int) = g.c)
theorem appB_yes {g : Gr} {n : Nat} (h : appB g n = true) : ∃ R C : Nat, g.r = R ∧ g.c = C ∧ R ≤ 4096 ∧ C ≤ 4096 ∧ g.n = R * C ∧ R * C ≤ 1048576 ∧ n = C := by
  unfold appB at h
  simp only [Bool.and_eq_true, decide_eq_true_eq] at h
  obtain ⟨R, C, h1, h2, h3, h4, h5, h6⟩ := fitB_yes h.1
  exact ⟨R, C, h1, h2, h3, h4, h5, h6, by omega⟩
/-- with each of the rows? -/
def appAll (g : Gr) (qs : List Rw) : Bool := qs.all fun q => appB g q.n

theorem rowOf_empty (xs : List Int) (i : Nat) : rowOf xs 0 i = [] := by simp [rowOf]
theorem rowOf_length {xs : List Int} {R C i : Nat} (h : xs.length = R * C) (hi : i < R) : (rowOf xs C i).length = C := by
  have := row_le (C := C) hi
  unfold rowOf; simp; omega
/-- row i of a matrix, wherever 'line' says that it lies -/
theorem line_elems {kd : IntKind} {w : World} {a a' : Option Addr} {R C i : Nat} {xs : List Int} (h : Elems kd w a (R * C) xs) (hi : i < R) (ha : 0 < C → ∃ b off, a = some ⟨b, off, none⟩ ∧ a' = some ⟨b, off + i * C, none⟩) : Elems kd w a' C (rowOf xs C i) := by
  by_cases hC : 0 < C
  · obtain ⟨b, off, rfl, rfl⟩ := ha hC
    exact rowOf_elemsK h hi
  · obtain rfl : C = 0 := by omega
    exact Elems.empty a' (by simp [rowOf_empty]) rfl

set_option maxHeartbeats 800000 in
theorem fits_any (g : Gr) (a : Option Addr) (n cap : Nat) (qs : List Rw) (w : World) (hg : g.In8 w) (h : Rws .i8 w a n qs) :
    Calls Tryz.prog 89 #[.agg #[.int .i64 g.r, .int .i64 g.c, .slice g.a g.n g.cap], .slice a n cap] w fun e w' => e = .returned (.bool (appAll g qs)) ∧ Below w.heap.size w w' := by
  have hn := h.2.1
  have hl := Lib.hid h.1
  have B0 := fun o => (Below.refl w.heap.size w).alloc (Nat.le_refl _) o
  have X0 := fun T => mbox_new (T := T) hg rfl
  clear hg
  go_enter Tryz.func89, Tryz.ntmps89
  go_wp2
  go_loopw [9] (fun i wr => ∃ k : Nat, k ≤ n ∧ i = .int .i64 k ∧ Hid ((qs.take k).all (fun q => appB g q.n) = true) ∧ Below w.heap.size w wr ∧ MBox wr w.heap.size g) (fun i _ => n - (intOf i).toNat)
  case atStart => exact ⟨0, by omega, rfl, Lib.hid (by simp), B0 _, X0 _⟩
  case round =>
    clear B0 X0
    obtain ⟨k, hk, rfl, ht, hbel, hbox⟩ := hrel
    by_cases hlt : k < n
    · obtain ⟨b, off, q, rfl, hbl, cq, hq, hin⟩ := (h.below hbel).at_ hlt
      obtain ⟨hst, hend⟩ := all_step (fun q : Rw => appB g q.n) qs k (by rw [hl.out]; exact hlt) q hq.out ht.out
      have HST := Lib.hid hst
      have HEND := Lib.hid hend
      have hnq := hin.1.2.1
      have hnq2 := hbox.inn.1.2.1
      have hG := fun T => mats_one (T := T) (b := wr.heap.size) g hbox.inn rfl
      have B1 := fun o => hbel.alloc hbel.size o
      have X1 := fun o => hbox.alloc o
      obtain ⟨x1, c0, c1, c2, _, _, _⟩ := hbox.box
      obtain ⟨qa, qn, qcap, qv⟩ := q
      simp only at cq hst hend hnq
      clear h ht hq hst hend hin hbel hbox
      cases hf : fitB g.r g.c g.n with
      | false =>
        have R : Hid (appAll g qs = false) := Lib.hid (HEND.out (by show appB g qn = false; unfold appB; rw [hf]; rfl))
        clear HST HEND
        go_wp2_with fail
        refine (mright_one g false hf _ _ _ (hG _)).mono ?_
        rintro e wb ⟨rfl, hb⟩
        have B2 := below_two (B1 _) hb
        clear hf hG c0 c1 c2
        go_wp2
        go_ret
        exact ⟨ret_bool R.out.symm, B2⟩
      | true =>
        by_cases he : (qn : Int) = g.c
        · have R2 : Hid ((qs.take (k + 1)).all (fun q => appB g q.n) = true) := Lib.hid (by rw [HST.out]; show appB g qn = true; unfold appB; rw [hf, decide_eq_true he]; rfl)
          have HE := Lib.hid he.symm
          clear HST HEND he
          go_wp2_with fail
          refine (mright_one g true hf _ _ _ (hG _)).mono ?_
          rintro e wb ⟨rfl, hb⟩
          have B2 := below_two (B1 _) hb
          have X2 := (X1 _).below hb
          obtain ⟨_, d0, d1, d2, _, _, _⟩ := X2.box
          rw [HE.out] at d1
          clear hf hG c0 c1 c2
          go_wp2
          go_roundw
          case rel => exact ⟨k + 1, by omega, by go_num, R2, B2, X2⟩
          case measure => simp [intOf]; omega
        · have R : Hid (appAll g qs = false) := Lib.hid (HEND.out (by show appB g qn = false; unfold appB; rw [hf, decide_eq_false he]; rfl))
          have HE : ((qn : Int) == g.c) = false := beq_eq_false_iff_ne.2 he
          clear HST HEND
          go_wp2_with fail
          refine (mright_one g true hf _ _ _ (hG _)).mono ?_
          rintro e wb ⟨rfl, hb⟩
          have B2 := below_two (B1 _) hb
          have X2 := (X1 _).below hb
          obtain ⟨_, d0, d1, d2, _, _, _⟩ := X2.box
          clear hf hG c0 c1 c2
          go_wp2
          go_ret
          exact ⟨ret_bool R.out.symm, B2⟩
    · clear h
      obtain rfl : k = n := by omega
      have R : Hid (appAll g qs = true) := Lib.hid (by unfold appAll; rw [← ht.out, List.take_of_length_le (by rw [hl.out]; omega)])
      go_wp2
      go_ret
      exact ⟨ret_bool R.out.symm, hbel⟩

theorem fits_one (g : Gr) (q : Rw) (x : Bool) (hx : appB g q.n = x) (b cap : Nat) (w : World) (hg : g.In8 w) (h : Rws .i8 w (some ⟨b, 0, none⟩) 1 [q]) :
    Calls Tryz.prog 89 #[.agg #[.int .i64 g.r, .int .i64 g.c, .slice g.a g.n g.cap], .slice (some ⟨b, 0, none⟩) 1 cap] w fun e w' => e = .returned (.bool x) ∧ Below w.heap.size w w' := by
  rw [← hx, show appB g q.n = appAll g [q] by simp [appAll]]; exact fits_any _ _ _ _ _ _ hg h
theorem fits_c (g : Gr) (a : Option Addr) (n cap : Nat) (qs : List Rw) (x : Bool) (hx : appAll g qs = x) (w : World) (hg : g.In8 w) (h : Rws .i8 w a n qs) :
    Calls Tryz.prog 89 #[.agg #[.int .i64 g.r, .int .i64 g.c, .slice g.a g.n g.cap], .slice a n cap] w fun e w' => e = .returned (.bool x) ∧ Below w.heap.size w w' := by
  rw [← hx]; exact fits_any _ _ _ _ _ _ hg h


set_option maxHeartbeats 1000000 in
theorem mproduct (R C : Nat) (a : Option Addr) (cap : Nat) (v : List Int) (b : Option Addr) (bcap : Nat) (xs : List Int) (w : World) (hg : (⟨R, C, a, R * C, cap, v⟩ : Gr).In8 w) (hX : Elems .i8 w b C xs) (hR : R ≤ 4096) (hC : C ≤ 4096) :
    Calls Tryz.prog 90 #[.agg #[.int .i64 R, .int .i64 C, .slice a (R * C : Nat) cap], .slice b C bcap] w fun e w' => (∃ g, e = .returned (.slice (some ⟨g, 0, none⟩) R R) ∧ w.heap.size ≤ g ∧ Elems .i32 w' (some ⟨g, 0, none⟩) R (mv v xs R C)) ∧ Below w.heap.size w w' := by
  obtain ⟨hE, hcap, hcap2, hsl, _, _, _, _⟩ := hg
  simp only at hE hcap hcap2 hsl
  have hmk := run_make_row' (P := Tryz.prog) 36 21 (.int .i32 0) 4 Tryz.underlying36 info_int32 rfl .i64 .i64 R (by omega) (by omega)
  have B0 := fun o o2 => ((Below.refl w.heap.size w).alloc (Nat.le_refl _) o).alloc (by simp) o2
  have X0 := fun o => (box3_at (w := w) rfl (.int .i64 R) (.int .i64 C) (.slice a (R * C : Nat) cap) 47).alloc o
  have hown := fun o => World.ownsRow_lit (e := 21) (size := 1) (w.alloc o) (madeCells #[Value.int .i32 0] R) R (Nat.le_refl _) (by unfold maxLen; omega) (by rw [size_madeCells, Nat.mul_one])
  have hz := made_zeros .i32 R
  rw [Nat.mul_one] at hz
  have hown2 : ∀ o, ((w.alloc o).alloc (.cells (madeCells #[Value.int .i32 0] R) 21)).ownsRow w.heap.size 21 1 (.slice (some ⟨w.heap.size + 1, 0, none⟩) R R) R ((List.replicate R 0).map (.int .i32)) := fun o => by
    have := hown o
    rw [show (madeCells #[Value.int .i32 0] R).toList = (List.replicate R 0).map (Value.int .i32) from hz] at this
    simp only [World.size_alloc] at this
    exact ⟨this.1, by
      rcases this.2 with h | ⟨g, cp, cur, hv, hb, h2⟩
      · exact .inl h
      · exact .inr ⟨g, cp, cur, hv, by omega, h2⟩⟩
  have HE := Lib.hid hE
  have HX := Lib.hid hX
  have HS := Lib.hid hsl
  clear hE hX hsl hown hz
  go_enter Tryz.func90, Tryz.ntmps90
  go_wp2
  go_loopw [12] (fun i wr => ∃ (k : Nat) (cs : List Int), k ≤ R ∧ i = .int .i64 k ∧ wr.ownsRow w.heap.size 21 1 (.slice (some ⟨w.heap.size + 1, 0, none⟩) R R) R (cs.map (.int .i32)) ∧ Below w.heap.size w wr ∧ Box3 wr w.heap.size (.int .i64 R) (.int .i64 C) (.slice a (R * C : Nat) cap) ∧ w.heap.size + 1 < wr.heap.size ∧ Hid (FilledBy (fun i => wsum (prods (rowOf v C i) xs)) R k cs)) (fun i _ => R - (intOf i).toNat)
  case atStart => exact ⟨0, _, by omega, rfl, hown2 _, B0 _ _, X0 _, by simp, Lib.hid (filledBy_start _ R)⟩
  case round =>
    clear B0 X0 hown2
    obtain ⟨k, cs, hk, rfl, hown, hbel, hbox, hsz, hfil⟩ := hrel
    by_cases hlt : k < R
    · obtain ⟨x1, c0, c1, c2, f0, f1, f2⟩ := hbox
      go_wp2_with fail
      refine (mline_at R C k a cap _ hcap hcap2 HS.out.1 (fun x hx h0 => HS.out.2 x hx (by omega)) hR hC hlt).mono ?_
      rintro e wb ⟨⟨a', cap', rfl, hc1, hc2, ha'⟩, hb⟩
      have hbox2 := (show Box3 wr w.heap.size _ _ _ from ⟨x1, c0, c1, c2, f0, f1, f2⟩).below hb
      have hbel2 := below_two hbel hb
      have hsz2 : w.heap.size + 1 < wb.heap.size := by have := hb.size; omega
      have hrow := line_elems (HE.out.below hbel2) hlt ha'
      have hX2 := HX.out.below hbel2
      have hown2 := own_below hown hb
      have hlen := hfil.out.1
      have hold : ∀ d, ((wb.drewN d).cell? ⟨w.heap.size + 1, k, none⟩ = some (.int .i32 (cs.getD k 0))) := fun d => by
        show wb.cell? _ = _
        rw [hown2.cellAt k (by omega), List.getElem?_map, List.getD_eq_getElem?_getD, List.getElem?_eq_getElem (by omega)]; rfl
      have hfrz : ∀ d, ((wb.drewN d).frozen? ⟨w.heap.size + 1, k, none⟩ = false) := fun d => hown2.frozenAt k
      obtain ⟨c, hcc⟩ : ∃ c, cs.getD k 0 = c := ⟨_, rfl⟩
      rw [hcc] at hold
      obtain ⟨z, hzz⟩ : ∃ z, wsum (prods (rowOf v C k) xs) = z := ⟨_, rfl⟩
      have hdot := dot a' C cap' _ b C bcap xs wb hrow hX2
      rw [hzz] at hdot
      have hnew := fun d => (World.ownsRow.stored (w := wb.drewN d) hown2 k (.int .i32 z)).1
      have hbel3 := fun d => (below_drewN hbel2 d).setCell (p := ⟨w.heap.size + 1, k, none⟩) (by simp) (.int .i32 z)
      have hfil3 : Hid (FilledBy (fun i => wsum (prods (rowOf v C i) xs)) R (k + 1) (cs.set k z)) := Lib.hid (by rw [← hzz]; exact filledBy_step hfil.out hlt)
      have hbox3 : ∀ d, Box3 ((wb.drewN d).setCell ⟨w.heap.size + 1, k, none⟩ (.int .i32 z)) w.heap.size (.int .i64 R) (.int .i64 C) (.slice a (R * C : Nat) cap) := fun d => hbox2.kept ((grownBy_drewN wb d _).trans (grownBy_setCell _ _ _ _)) (by simp)
      have hsz3 : ∀ d, w.heap.size + 1 < ((wb.drewN d).setCell ⟨w.heap.size + 1, k, none⟩ (.int .i32 z)).heap.size := fun d => by simpa using hsz2
      simp only [← List.map_set] at hnew
      clear hcc hzz hrow hX2 hown2 hlen ha' hb hown hbel hfil c0 c1 c2 f0 f1 f2 hbox2 hbel2
      go_wp2_with fail
      refine hdot.mono ?_
      rintro e wc ⟨rfl, d, rfl⟩
      have h1 := hold d
      have h2 := hfrz d
      have h3 := hnew d
      have h4 := hbel3 d
      have h5 := hbox3 d
      have h6 := hsz3 d
      clear hold hfrz hnew hbel3 hbox3 hsz3 hdot
      go_wp2
      go_roundw
      case rel => exact ⟨k + 1, _, by omega, by go_num, h3, h4, h5, h6, hfil3⟩
      case measure => simp [intOf]; omega
    · obtain rfl : k = R := by omega
      have hcs : cs = mv v xs k C := by
        refine List.ext_getElem? fun i => ?_
        by_cases hi : i < k
        · have h3 := hfil.out.2 i hi
          rw [if_pos hi] at h3
          have h4 := mv_at v xs k C i hi
          rw [List.getD_eq_getElem?_getD, List.getElem?_eq_getElem (by rw [hfil.out.1]; exact hi)] at h3
          rw [List.getD_eq_getElem?_getD, List.getElem?_eq_getElem (by rw [mv_length]; exact hi)] at h4
          rw [List.getElem?_eq_getElem (by rw [hfil.out.1]; exact hi), List.getElem?_eq_getElem (by rw [mv_length]; exact hi)]
          simp only [Option.getD_some] at h3 h4
          rw [h3, h4]
        · rw [List.getElem?_eq_none (by rw [hfil.out.1]; omega), List.getElem?_eq_none (by rw [mv_length]; omega)]
      rw [hcs] at hown
      have hE2 := own_elems hown (by omega) (mv_wf _ _ _ _)
      clear hcs hown hfil hbox
      go_wp2
      go_ret
      exact ⟨⟨_, rfl, by omega, hE2⟩, hbel⟩

end Go.Proofs.YtoeihigdndkjeaaGreatDoor

/-
  Contracts of layer 4's Apply and Many: the products in new memory, or a refusal.
-/
namespace Go.Proofs.YtoeihigdndkjeaaGreatDoor
open Go.RowKit
set_option linter.unusedVariables false

/-- the row that came without an error lies in a new block -/
def NewRow (w0 w : World) (n : Nat) (xs : List Int) (e : Ending) : Prop :=
  ∃ g, e = .returned (.tuple #[.slice (some ⟨g, 0, none⟩) n n, .int .i64 0]) ∧ w0.heap.size ≤ g ∧ Elems .i32 w (some ⟨g, 0, none⟩) n xs
/-- no row, and an error -/
def NoRow (c : Int) (e : Ending) : Prop := e = .returned (.tuple #[.slice none 0 0, .int .i64 c])

theorem apply_no (g : Gr) (q : Rw) (h : appB g q.n = false) (w : World) (hg : g.In8 w) (hq : q.In .i8 w) :
    Calls Tryz.prog 64 #[.agg #[.int .i64 g.r, .int .i64 g.c, .slice g.a g.n g.cap], .slice q.a q.n q.cap] w fun e w' => NoRow 30 e ∧ Below w.heap.size w w' := by
  have a1 := fun o => (Below.refl w.heap.size w).alloc (Nat.le_refl _) o
  have B0 := fun o o2 => ((Below.refl w.heap.size w).alloc (Nat.le_refl _) o).alloc (by simp) o2
  have hG := fun o o2 => hg.below (((Below.refl w.heap.size w).alloc (Nat.le_refl _) o).alloc (by simp) o2)
  have hR := fun o T => rws_one (T := T) (b := w.heap.size + 1) q (hq.below (a1 o)) (by simp)
  go_enter Tryz.func64, Tryz.ntmps64
  go_wp2_with fail
  refine (fits_one g q false h _ _ _ (hG _ _) (hR _ _)).mono ?_
  rintro e wb ⟨rfl, hb⟩
  have B1 := below_two (B0 _ _) hb
  clear h hg hq a1 B0 hG hR hb
  go_wp2
  go_ret2
  exact ⟨rfl, B1⟩

theorem apply_yes (g : Gr) (q : Rw) (R C : Nat) (e1 : g.r = R) (e2 : g.c = C) (e3 : g.n = R * C) (e4 : q.n = C) (hR : R ≤ 4096) (hC : C ≤ 4096) (hle : R * C ≤ 1048576) (w : World) (hg : g.In8 w) (hq : q.In .i8 w) :
    Calls Tryz.prog 64 #[.agg #[.int .i64 g.r, .int .i64 g.c, .slice g.a g.n g.cap], .slice q.a q.n q.cap] w fun e w' => NewRow w w' R (mv g.v q.v R C) e ∧ Below w.heap.size w w' := by
  have hap : appB g q.n = true := by
    unfold appB
    rw [e1, e2, e3, e4, fitB_nat R C hR hC hle, decide_eq_true rfl]; rfl
  obtain ⟨gr, gc, ga, gn, gcap, gv⟩ := g
  obtain ⟨qa, qn, qcap, qv⟩ := q
  simp only at e1 e2 e3 e4 hap
  subst e1 e2 e3 e4
  have a1 := fun o => (Below.refl w.heap.size w).alloc (Nat.le_refl _) o
  have a2 := fun o o2 => ((Below.refl w.heap.size w).alloc (Nat.le_refl _) o).alloc (by simp) o2
  have hG := fun o o2 => hg.below (a2 o o2)
  have hR2 := fun o T => rws_one (T := T) (b := w.heap.size + 1) ⟨qa, qn, qcap, qv⟩ (hq.below (a1 o)) (by simp)
  have X0 := fun o => (box3_at (w := w) rfl (.int .i64 R) (.int .i64 qn) (.slice ga (R * qn : Nat) gcap) 47).alloc o
  go_enter Tryz.func64, Tryz.ntmps64
  go_wp2_with fail
  refine (fits_one _ _ true hap _ _ _ (hG _ _) (hR2 _ _)).mono ?_
  rintro e wb ⟨rfl, hb⟩
  have B1 := below_two (a2 _ _) hb
  obtain ⟨_, c0, c1, c2, _, _, _⟩ := (X0 _).below hb
  have hg2 := hg.below B1
  have hq2 := hq.below B1
  have hsz := B1.size
  clear hap a1 a2 hG hR2 X0 hg hq hb
  go_wp2_with fail
  refine (mproduct R qn ga gcap gv qa qcap qv _ hg2 hq2.1 hR hC).mono ?_
  rintro e wc ⟨⟨g, rfl, hlt, hE⟩, hc⟩
  have B2 := below_two B1 hc
  clear hg2 hq2 B1 hc c0 c1 c2
  go_wp2
  go_ret2
  exact ⟨⟨g, rfl, by omega, hE⟩, B2⟩


end Go.Proofs.YtoeihigdndkjeaaGreatDoor

/-
  Contracts of the document's answers of layer 4: Ints, Same, Part, Apply.
-/
namespace Go.Proofs.YtoeihigdndkjeaaGreatDoor
open Go.RowKit
set_option linter.unusedVariables false

theorem tab_wfK {kd : IntKind} {r c : Nat} {f : Nat → Nat → Int} (h : ∀ i j, i < r → j < c → (Lit.int kd (f i j)).wf = true) : ∀ x ∈ tab r c f, (Lit.int kd x).wf = true := by
  intro x hx
  unfold tab at hx
  rw [List.mem_flatMap] at hx
  obtain ⟨i, hi, hx⟩ := hx
  obtain ⟨j, hj, rfl⟩ := List.mem_map.1 hx
  exact h i j (List.mem_range.1 hi) (List.mem_range.1 hj)



/-- a matrix by value of r rows and c columns with the numbers xs -/
def MatV (w : World) (r c : Nat) (xs : List Int) (v : Value) : Prop := ∃ a cap, v = .agg #[.int .i64 r, .int .i64 c, .slice a xs.length cap] ∧ Elems .i8 w a xs.length xs ∧ xs.length ≤ cap ∧ cap ≤ 9223372036854775807

/-- what a loop that builds a matrix cell by cell keeps: the matrix that came in, the result's cells, the matrix that is built, its numbers so far -/
structure OutInv8 (w : World) (R C : Int) (sl : Value) (m n : Int) (u : Value) (cs : List Int) (wr : World) : Prop where
  b1 : Box3 wr w.heap.size (.int .i64 R) (.int .i64 C) sl
  b2 : Box3 wr (w.heap.size + 1) (.int .i64 0) (.int .i64 0) (.slice none 0 0)
  b3 : Box3 wr (w.heap.size + 1 + 1) (.int .i64 m) (.int .i64 n) u
  own : wr.ownsRow (w.heap.size + 1 + 1 + 1) 64 1 u cs.length (cs.map (.int .i8))
  bel : Below w.heap.size w wr
  sz : w.heap.size + 1 + 1 + 1 ≤ wr.heap.size

theorem outInv8_start (w : World) (R C : Int) (sl : Value) (m n : Int) (T T2 T3 : TypeId) :
    OutInv8 w R C sl m n (.slice none 0 0) [] (((w.alloc (.cells #[.int .i64 R, .int .i64 C, sl] T)).alloc (.cells #[.int .i64 0, .int .i64 0, .slice none 0 0] T2)).alloc (.cells #[.int .i64 m, .int .i64 n, .slice none 0 0] T3)) :=
  ⟨((box3_at rfl _ _ _ _).alloc _).alloc _, (box3_at (by simp) _ _ _ _).alloc _, box3_at (by simp) _ _ _ _, own_nil _ _ _, (((Below.refl _ _).alloc (Nat.le_refl _) _).alloc (by simp) _).alloc (by simp; omega) _, by simp⟩

/-- one number more -/
theorem OutInv8.next {w : World} {R C : Int} {sl : Value} {m n : Int} {u : Value} {cs : List Int} {wr wc : World} (h : OutInv8 w R C sl m n u cs wr) (hb : Below wr.heap.size wr wc) (x : Int) (hl : cs.length ≤ 16777216) :
    ∃ g cap w', Sem.run Tryz.prog (Builtin.append_ #[24, 24] 24 #[u, .slice (some ⟨wc.heap.size, 0, none⟩) 1 1]) (wc.alloc (.cells #[.int .i8 x] 64)) = .ok (.slice (some ⟨g, 0, none⟩) (cs.length + 1) cap) w' ∧
      Box3 wc w.heap.size (.int .i64 R) (.int .i64 C) sl ∧ Box3 wc (w.heap.size + 1 + 1) (.int .i64 m) (.int .i64 n) u ∧ Box3 w' w.heap.size (.int .i64 R) (.int .i64 C) sl ∧ Box3 w' (w.heap.size + 1 + 1) (.int .i64 m) (.int .i64 n) u ∧
      OutInv8 w R C sl m n (.slice (some ⟨g, 0, none⟩) (cs.length + 1) cap) (cs ++ [x]) (w'.setCell ⟨w.heap.size + 1 + 1, 2, none⟩ (.slice (some ⟨g, 0, none⟩) (cs.length + 1) cap)) := by
  have own2 := own_below h.own hb
  have hsz := hb.size
  have hs := h.sz
  obtain ⟨g, cap, w', hr, hown, hg, hlt⟩ := run_append_one8 wc _ u cs.length cs x own2 hl (by omega)
  have hne : ∀ b, b < w.heap.size + 1 + 1 + 1 → some b ≠ u.ownBlock := fun b hb' e => by
    have := (own2.lt b e.symm).1
    omega
  have c1 := h.b1.below hb
  have c2 := h.b2.below hb
  have c3 := h.b3.below hb
  have d1 := c1.kept hg (hne _ (by omega))
  have d2 := c2.kept hg (hne _ (by omega))
  have d3 := c3.kept hg (hne _ (by omega))
  have hset := grownBy_setCell w' (w.heap.size + 1 + 1) 2 (.slice (some ⟨g, 0, none⟩) (cs.length + 1) cap)
  refine ⟨g, cap, w', hr, c1, c3, d1, d3, d1.kept hset (by simp; omega), d2.kept hset (by simp), ?_, ?_, ?_, ?_⟩
  · exact d3.set2 _
  · rw [List.length_append, List.length_singleton]
    exact own_grown hown hset (by omega)
  · have hB : Below w.heap.size w w' := (below_two h.bel hb).grown hg (by omega) (fun k hk => by have := (own2.lt k hk).1; omega)
    exact hB.setCell (p := ⟨w.heap.size + 1 + 1, 2, none⟩) (by simp; omega) _
  · simp; omega

theorem matV_own {w : World} {base m n : Nat} {u : Value} {cs : List Int} (h : w.ownsRow base 64 1 u cs.length (cs.map (.int .i8))) (hl : cs.length ≤ 16777216) (hw : ∀ x ∈ cs, (Lit.int .i8 x).wf = true) :
    MatV w m n cs (.agg #[.int .i64 m, .int .i64 n, u]) := by
  obtain ⟨a, cap, rfl, hE⟩ := own_form h (by omega) hw
  refine ⟨a, cap, rfl, hE, ?_, ?_⟩
  · rcases h.2 with ⟨he, h0⟩ | ⟨g, cap', cur, he, _, _, hnc, hcm, _⟩
    · simp only [Value.slice.injEq] at he; omega
    · simp only [Value.slice.injEq] at he; omega
  · rcases h.2 with ⟨he, h0⟩ | ⟨g, cap', cur, he, _, _, hnc, hcm, _⟩
    · simp only [Value.slice.injEq] at he; omega
    · simp only [Value.slice.injEq] at he; unfold maxLen at hcm; omega

/-- the same behind a result that is stored in a block ahead of it -/
theorem own_elems_set8 {w : World} {base : Nat} {a : Option Addr} {cap : Nat} {cs : List Int} (h : w.ownsRow base 64 1 (.slice a cs.length cap) cs.length (cs.map (.int .i8))) (hl : cs.length ≤ 16777216) (hw : ∀ x ∈ cs, (Lit.int .i8 x).wf = true) {b : Nat} (hb : b < base) (p q r : Value) :
    Elems .i8 (((w.setCell ⟨b, 0, none⟩ p).setCell ⟨b, 1, none⟩ q).setCell ⟨b, 2, none⟩ r) a cs.length cs := by
  obtain ⟨a', cap', he, hE⟩ := own_form (own_grown h (grownBy_res w b p q r) hb) (by omega) hw
  simp only [Value.slice.injEq] at he
  rw [he.1]; exact hE


/-- what a loop that lays numbers of 64 bits one behind the other keeps -/
def Row64 (w0 wr : World) (v : Value) (k : Nat) (xs : List Int) : Prop :=
  w0.heap.size ≤ wr.heap.size ∧ Below w0.heap.size w0 wr ∧ wr.ownsRow w0.heap.size 2 1 v k (xs.map (.int .i64))
/-- the same of 32 bits -/
def Row32 (w0 wr : World) (v : Value) (k : Nat) (xs : List Int) : Prop :=
  w0.heap.size ≤ wr.heap.size ∧ Below w0.heap.size w0 wr ∧ wr.ownsRow w0.heap.size 21 1 v k (xs.map (.int .i32))

theorem mv_take_snoc (v xs : List Int) (R C k : Nat) (hk : k < R) : (mv v xs R C).take k ++ [wsum (prods (rowOf v C k) xs)] = (mv v xs R C).take (k + 1) := by
  rw [List.take_add_one]
  simp [mv, hk]
theorem prods_take_snoc (xs ys : List Int) (k : Nat) (hx : k < xs.length) (hy : k < ys.length) : (prods xs ys).take k ++ [xs.getD k 0 * ys.getD k 0] = (prods xs ys).take (k + 1) := by
  rw [List.take_add_one]
  simp [prods, List.getElem?_zipWith, List.getElem?_eq_getElem hx, List.getElem?_eq_getElem hy, List.getD]

set_option maxHeartbeats 800000 in
theorem doc_apply_no (g : Gr) (q : Rw) (h : appB g q.n = false) (w : World) (hg : g.In8 w) (hq : q.In .i8 w) :
    Calls Tryz.prog 50 #[.agg #[.int .i64 g.r, .int .i64 g.c, .slice g.a g.n g.cap], .slice q.a q.n q.cap] w fun e w' => e = .returned (.tuple #[.slice none 0 0, .bool false]) ∧ Below w.heap.size w w' := by
  have a1 := fun o => (Below.refl w.heap.size w).alloc (Nat.le_refl _) o
  have X0 := box3_at (w := w) rfl (.int .i64 g.r) (.int .i64 g.c) (.slice g.a g.n g.cap) 47
  have hn := hg.1.2.1
  have hqn := hq.1.2.1
  cases hf : fitB g.r g.c g.n with
  | false =>
    clear h
    go_enter Tryz.func50, Tryz.ntmps50
    go_wp2_with fail
    refine (doc_right _ _ _ _ _ _ hn false hf).mono ?_
    rintro e wb ⟨rfl, hb⟩
    have B1 := below_two (a1 _) hb
    clear hg hq a1 hb hf
    go_wp2
    go_ret2
    exact ⟨rfl, B1⟩
  | true =>
    have he : ¬ (q.n : Int) = g.c := by
      intro e
      unfold appB at h
      rw [hf, decide_eq_true e] at h
      cases h
    have HE : ((q.n : Int) == g.c) = false := beq_eq_false_iff_ne.2 he
    clear h
    go_enter Tryz.func50, Tryz.ntmps50
    go_wp2_with fail
    refine (doc_right _ _ _ _ _ _ hn true hf).mono ?_
    rintro e wb ⟨rfl, hb⟩
    have B1 := below_two (a1 _) hb
    obtain ⟨_, c0, c1, c2, _, _, _⟩ := X0.below hb
    clear hg hq a1 hb hf X0
    go_wp2
    go_ret2
    exact ⟨rfl, B1⟩

set_option maxHeartbeats 1600000 in
theorem doc_apply_walk (R C : Nat) (a : Option Addr) (cap : Nat) (v : List Int) (qa : Option Addr) (qcap : Nat) (xs : List Int) (w : World) (hE : Elems .i8 w a (R * C) v) (hX : Elems .i8 w qa C xs) (hR : R ≤ 4096) (hC : C ≤ 4096) (hle : R * C ≤ 1048576) :
    Calls Tryz.prog 50 #[.agg #[.int .i64 R, .int .i64 C, .slice a (R * C : Nat) cap], .slice qa C qcap] w fun e w' => (∃ ua ucap, e = .returned (.tuple #[.slice ua R ucap, .bool true]) ∧ Elems .i32 w' ua R (mv v xs R C)) ∧ Below w.heap.size w w' := by
  have hf := fitB_nat R C hR hC hle
  have a1 := fun o => (Below.refl w.heap.size w).alloc (Nat.le_refl _) o
  have X0 := box3_at (w := w) rfl (.int .i64 R) (.int .i64 C) (.slice a (R * C : Nat) cap) 47
  have HE := Lib.hid hE
  have HX := Lib.hid hX
  clear hE hX
  go_enter Tryz.func50, Tryz.ntmps50
  go_wp2_with fail
  refine (doc_right _ _ _ _ _ _ (by omega) true hf).mono ?_
  rintro e wb ⟨rfl, hb⟩
  have B1 := below_two (a1 _) hb
  have X1 := X0.below hb
  have X1' := X1
  obtain ⟨_, c0, c1, c2, _, _, _⟩ := X1
  clear a1 hb hf X0
  go_wp2_with fail
  clear c0 c1 c2
  go_loopw [6, 7] (fun u i wr => ∃ k : Nat, k ≤ R ∧ i = .int .i64 k ∧ Hid (Row32 wb wr u k ((mv v xs R C).take k))) (fun _ i _ => R - (intOf i).toNat)
  case atStart => exact ⟨0, by omega, rfl, Lib.hid ⟨Nat.le_refl _, Below.refl _ _, own_nil _ _ _⟩⟩
  case round =>
    obtain ⟨k, hk, rfl, hrow⟩ := hrel
    obtain ⟨_, c0, c1, c2, _, _, _⟩ := X1'.below hrow.out.2.1
    by_cases hlt : k < R
    · obtain ⟨w0, hw0⟩ : ∃ w0, w0 = wr := ⟨_, rfl⟩
      subst hw0
      go_wp2_with fail
      clear c0 c1 c2
      go_loopw [8, 9] (fun l j wr => ∃ k' : Nat, k' ≤ C ∧ j = .int .i64 k' ∧ Hid (Row64 w0 wr l k' ((prods (rowOf v C k) xs).take k'))) (fun _ j _ => C - (intOf j).toNat)
      case atStart => exact ⟨0, by omega, rfl, Lib.hid ⟨Nat.le_refl _, Below.refl _ _, own_nil _ _ _⟩⟩
      case round =>
        obtain ⟨k', hk', rfl, hin⟩ := hrel
        have B2 := below_two hrow.out.2.1 hin.out.2.1
        have B3 := below_two B1 B2
        have X2 := X1'.below B2
        have X2' := X2
        have hln : (rowOf v C k).length = C := rowOf_length HE.out.1 hlt
        by_cases hlt2 : k' < C
        · have hrc := row_lt hlt hlt2
          obtain ⟨b, off, x, rfl, hcx, hx, wx⟩ := (HE.out.below B3).at_ hrc
          obtain ⟨b', off', y, rfl, hcy, hy, wy⟩ := (HX.out.below B3).at_ hlt2
          have bx := wf8 wx
          have by_ := wf8 wy
          obtain ⟨p1, p2⟩ := prod8 x y bx by_
          have e1 : IntKind.i64.wrap x = x := IntWalk.i64_in _ (by omega)
          have e2 : IntKind.i64.wrap y = y := IntWalk.i64_in _ (by omega)
          have e3 : IntKind.i64.wrap (x * y) = x * y := IntWalk.i64_in _ (by omega)
          have hsn := prods_take_snoc (rowOf v C k) xs k' (by omega) (by rw [HX.out.1]; exact hlt2)
          rw [rowOf_at _ _ _ _ hlt2, hx.out, hy.out] at hsn
          have HSN := Lib.hid hsn
          obtain ⟨q, hq⟩ : ∃ q, q = k * C := ⟨_, rfl⟩
          have eq1 : (k : Int) * (C : Int) = (q : Int) := by rw [hq]; push_cast; rfl
          obtain ⟨q2, hq2⟩ : ∃ q2, q2 = q + k' := ⟨_, rfl⟩
          have eq2 : (q : Int) + (k' : Int) = (q2 : Int) := by rw [hq2]; push_cast; rfl
          obtain ⟨len, hlen⟩ : ∃ len, len = R * C := ⟨_, rfl⟩
          have z0 : (0 : Int) ≤ (q2 : Int) := by omega
          have z1 : (q2 : Int) < (len : Int) := by rw [← hq] at hrc; omega
          have z2 : (len : Int) ≤ 16777216 := by omega
          have z3 : (0 : Int) ≤ (k' : Int) := by omega
          have z4 : (k' : Int) < (C : Int) := by omega
          have w1 : IntKind.i64.wrap (q : Int) = (q : Int) := IntWalk.i64_in _ (by omega)
          have w2 : IntKind.i64.wrap (q2 : Int) = (q2 : Int) := IntWalk.i64_in _ (by omega)
          rw [← hq, ← hq2] at hcx
          rw [← hlen] at X2 X2'
          have lb : b < w.heap.size := by
            obtain ⟨b3, off3, x3, he, hc3, _, _⟩ := HE.out.at_ hrc
            cases he; exact World.block_lt_of_cell? _ _ hc3
          have lb' : b' < w.heap.size := by
            obtain ⟨b3, off3, x3, he, hc3, _, _⟩ := HX.out.at_ hlt2
            cases he; exact World.block_lt_of_cell? _ _ hc3
          have hsw := B1.size
          have hsw2 := hrow.out.1
          have hsw3 := hin.out.1
          have hown0 : wr.drew.ownsRow w0.heap.size 2 1 u8 k' (((prods (rowOf v C k) xs).take k').map (.int .i64)) := hin.out.2.2
          obtain ⟨g, cap3, w3, hrun0, hown3, hgr3, hlt3'⟩ := run_append_one64 wr.drew w0.heap.size u8 k' ((prods (rowOf v C k) xs).take k') (x * y) hown0 (by omega) (by show w0.heap.size ≤ wr.heap.size; omega)
          have hrun : Sem.run Tryz.prog (Builtin.append_ #[149, 149] 149 #[u8, .slice (some ⟨wr.heap.size, 0, none⟩) 1 1]) ((wr.alloc (.cells #[.int .i64 (x * y)] 2)).drew) = .ok (.slice (some ⟨g, 0, none⟩) (k' + 1) cap3) w3 := hrun0
          have hne : ∀ b, b < w0.heap.size → some b ≠ u8.ownBlock := fun b hb' e => by
            have := (hin.out.2.2.lt b e.symm).1
            omega
          have hbel3 : Below w0.heap.size w0 w3 := (hin.out.2.1.drew).grown hgr3 (by show w0.heap.size ≤ wr.heap.size; omega) (fun k hk => (hin.out.2.2.lt k hk).1)
          have hgr4 : wr.grownBy w3 u8.ownBlock := (grownBy_drew wr _).trans hgr3
          have hxw := X1'.1
          obtain ⟨_, m0, m1, m2, _, _, _⟩ := X2.kept hgr4 (hne _ (by omega))
          have mx : w3.cell? ⟨b, off + q2, none⟩ = some (.int .i8 x) := by rw [hgr4.cell_far _ (by show b < wr.heap.size; omega) (hne b (by omega))]; exact hcx
          have my : w3.cell? ⟨b', off' + k', none⟩ = some (.int .i8 y) := by rw [hgr4.cell_far _ (by show b' < wr.heap.size; omega) (hne b' (by omega))]; exact hcy
          obtain ⟨_, c0, c1, c2, _, _, _⟩ := X2
          have hown4 := hown3
          rw [HSN.out] at hown4
          have hsz3 := hbel3.size
          have HR := Lib.hid (show Row64 w0 w3 _ _ _ from And.intro hsz3 (And.intro hbel3 hown4))
          have B2s := B2.size
          clear hx hy wx wy hsn hq hq2 hlen hown0 hrun0 hown3 hgr3 hbel3 hown4 hsz3 X2' hin bx by_ p1 p2 HSN hgr4
          go_wp2_with fail
          go_region_held3 (fun w' => w'.cell? ⟨w.heap.size, 0, none⟩ = some (.int .i64 R) ∧ w'.cell? ⟨w.heap.size, 1, none⟩ = some (.int .i64 C) ∧ w'.cell? ⟨w.heap.size, 2, none⟩ = some (.slice (some ⟨b, off, none⟩) len cap) ∧ w'.cell? ⟨b, off + q2, none⟩ = some (.int .i8 x) ∧ w'.cell? ⟨b', off' + k', none⟩ = some (.int .i8 y))
            (first | go_keep | (go_split_ands; refine ⟨?_, ?_, ?_, ?_, ?_⟩ <;> assumption))
            ((refine step_append_run (by rfl) _ _ _ (by rfl) _ _ (by rfl) (by rfl) hrun ?_))
          clear e1 e2 e3 hrun
          go_wp2
          go_roundw
          case rel => exact ⟨k' + 1, by omega, by go_num, HR⟩
          case measure => simp [intOf]; omega
        · obtain rfl : k' = C := by omega
          have hpl : (prods (rowOf v k' k) xs).take k' = prods (rowOf v k' k) xs := List.take_of_length_le (by rw [prods_len]; omega)
          have hpw : ∀ c ∈ prods (rowOf v k' k) xs, (Lit.int .i64 c).wf = true := by
            intro c hc
            obtain ⟨i, hi, rfl⟩ := List.mem_iff_getElem.1 hc
            have hl := prods_len (rowOf v k' k) xs
            have hi1 : i < (rowOf v k' k).length := by omega
            have hi2 : i < xs.length := by omega
            have h1 := wf8 (HE.out.2.2.1 _ (List.mem_of_mem_drop (List.mem_of_mem_take (getD_mem (xs := rowOf v k' k) hi1))))
            have h2 := wf8 (HX.out.2.2.1 _ (getD_mem hi2))
            have h3 := prods_at (rowOf v k' k) xs i hi1 hi2
            rw [List.getD_eq_getElem?_getD, List.getElem?_eq_getElem hi] at h3
            simp only [Option.getD_some] at h3
            rw [h3]
            have := prod8 _ _ h1 h2
            exact WalkArith.wf_i64 (by omega)
          have hown := hin.out.2.2
          rw [hpl] at hown
          obtain ⟨la, lcap, hv, hV⟩ := own_form hown (by omega) hpw
          subst hv
          have hwr := ref_wrap la k' lcap _ _ hV
          have hr2 : Row32 wb wr u6 k ((mv v xs R k').take k) := ⟨by have := hrow.out.1; have := hin.out.1; omega, B2, own_below hrow.out.2.2 hin.out.2.1⟩
          obtain ⟨z, hz⟩ : ∃ z, wsum (prods (rowOf v k' k) xs) = z := ⟨_, rfl⟩
          rw [hz] at hwr
          obtain ⟨g, cap3, w3, hrun, hown3, hgr3, hlt3'⟩ := run_append_one wr wb.heap.size u6 k _ z hr2.2.2 (by omega) hr2.1
          have hbel3 : Below wb.heap.size wb w3 := B2.grown hgr3 hr2.1 (fun k hk => (hr2.2.2.lt k hk).1)
          rw [← hz, mv_take_snoc v xs R k' k hlt] at hown3
          have HR := Lib.hid (show Row32 wb w3 _ _ _ from And.intro hbel3.size (And.intro hbel3 hown3))
          obtain ⟨_, c0, c1, c2, _, _, _⟩ := X2
          clear hpl hpw hown hV hz hown3 hgr3 hbel3 hr2 hin hrow X2'
          go_wp2_with fail
          refine hwr.mono ?_
          rintro e w' ⟨rfl, rfl⟩
          go_wp2_with (at_builtin; refine wpList_append_at (by rfl) _ _ _ (by rfl) _ _ (by rfl) (by rfl) hrun ?_)
          go_roundw
          case rel => exact ⟨k + 1, by omega, by go_num, HR⟩
          case measure => simp [intOf]; omega
    · obtain rfl : k = R := by omega
      have hown := hrow.out.2.2
      rw [List.take_of_length_le (by rw [mv_length]; omega)] at hown
      obtain ⟨ua, ucap, hv, hV⟩ := own_form hown (by omega) (mv_wf _ _ _ _)
      subst hv
      have B2 := below_two B1 hrow.out.2.1
      clear hown hrow
      go_wp2
      go_ret2
      exact ⟨⟨_, _, rfl, hV⟩, B2⟩

theorem doc_apply_yes (g : Gr) (q : Rw) (R C : Nat) (e1 : g.r = R) (e2 : g.c = C) (e3 : g.n = R * C) (e4 : q.n = C) (hR : R ≤ 4096) (hC : C ≤ 4096) (hle : R * C ≤ 1048576) (w : World) (hg : g.In8 w) (hq : q.In .i8 w) :
    Calls Tryz.prog 50 #[.agg #[.int .i64 g.r, .int .i64 g.c, .slice g.a g.n g.cap], .slice q.a q.n q.cap] w fun e w' => (∃ ua ucap, e = .returned (.tuple #[.slice ua R ucap, .bool true]) ∧ Elems .i32 w' ua R (mv g.v q.v R C)) ∧ Below w.heap.size w w' := by
  obtain ⟨gr, gc, ga, gn, gcap, gv⟩ := g
  obtain ⟨qa, qn, qcap, qv⟩ := q
  simp only at e1 e2 e3 e4 ⊢
  subst e1 e2 e3 e4
  exact doc_apply_walk R qn ga gcap gv qa qcap qv w hg.1 hq.1 hR hC hle

end Go.Proofs.YtoeihigdndkjeaaGreatDoor
