/-
  Contracts of layer 4's Apply and Many: the products in new memory, or a refusal.
-/
import Derived.Test.YtkiedganojaniaaMatOps
namespace Go.Proofs.Ytkiedganojaniaa
open Go.RowKit
set_option linter.unusedVariables false

/-- the row that came without an error lies in a new block -/
def NewRow (w0 w : World) (n : Nat) (xs : List Int) (e : Ending) : Prop :=
  ∃ g, e = .returned (.tuple #[.slice (some ⟨g, 0, none⟩) n n, .int .i64 0]) ∧ w0.heap.size ≤ g ∧ Elems .i32 w (some ⟨g, 0, none⟩) n xs
/-- no row, and an error -/
def NoRow (c : Int) (e : Ending) : Prop := e = .returned (.tuple #[.slice none 0 0, .int .i64 c])

theorem apply_no (g : Gr) (q : Rw) (h : appB g q.n = false) (w : World) (hg : g.In8 w) (hq : q.In .i8 w) :
    Calls Try.prog 12 #[.agg #[.int .i64 g.r, .int .i64 g.c, .slice g.a g.n g.cap], .slice q.a q.n q.cap] w fun e w' => NoRow 30 e ∧ Below w.heap.size w w' := by
  have a1 := fun o => (Below.refl w.heap.size w).alloc (Nat.le_refl _) o
  have B0 := fun o o2 => ((Below.refl w.heap.size w).alloc (Nat.le_refl _) o).alloc (by simp) o2
  have hG := fun o o2 => hg.below (((Below.refl w.heap.size w).alloc (Nat.le_refl _) o).alloc (by simp) o2)
  have hR := fun o T => rws_one (T := T) (b := w.heap.size + 1) q (hq.below (a1 o)) (by simp)
  go_enter Try.func12, Try.ntmps12
  go_wp2_with fail
  refine (fits_one g q false h _ _ _ (hG _ _) (hR _ _)).mono ?_
  rintro e wb ⟨rfl, hb⟩
  have B1 := below_two (B0 _ _) hb
  clear h hg hq a1 B0 hG hR hb
  go_wp2
  go_ret2
  exact ⟨rfl, B1⟩

theorem apply_yes (g : Gr) (q : Rw) (R C : Nat) (e1 : g.r = R) (e2 : g.c = C) (e3 : g.n = R * C) (e4 : q.n = C) (hR : R ≤ 4096) (hC : C ≤ 4096) (hle : R * C ≤ 1048576) (w : World) (hg : g.In8 w) (hq : q.In .i8 w) :
    Calls Try.prog 12 #[.agg #[.int .i64 g.r, .int .i64 g.c, .slice g.a g.n g.cap], .slice q.a q.n q.cap] w fun e w' => NewRow w w' R (mv g.v q.v R C) e ∧ Below w.heap.size w w' := by
  have hap : appB g q.n = true := by
    unfold appB
    rw [e1, e2, e3, e4, fitB_nat R C hR hC hle, decide_eq_true rfl]; rfl
  obtain ⟨gr, gc, ga, gn, gcap, gv⟩ := g
  obtain ⟨qa, qn, qcap, qv⟩ := q
  simp only at e1 e2 e3 e4 hap
  subst e1 e2 e3 e4
  have a1 := fun o => (Below.refl w.heap.size w).alloc (Nat.le_refl _) o
  have a2 := fun o o2 => ((Below.refl w.heap.size w).alloc (Nat.le_refl _) o).alloc (by simp) o2
  have hG := fun o o2 => hg.below (a2 o o2)
  have hR2 := fun o T => rws_one (T := T) (b := w.heap.size + 1) ⟨qa, qn, qcap, qv⟩ (hq.below (a1 o)) (by simp)
  have X0 := fun o => (box3_at (w := w) rfl (.int .i64 R) (.int .i64 qn) (.slice ga (R * qn : Nat) gcap) 24).alloc o
  go_enter Try.func12, Try.ntmps12
  go_wp2_with fail
  refine (fits_one _ _ true hap _ _ _ (hG _ _) (hR2 _ _)).mono ?_
  rintro e wb ⟨rfl, hb⟩
  have B1 := below_two (a2 _ _) hb
  obtain ⟨_, c0, c1, c2, _, _, _⟩ := (X0 _).below hb
  have hg2 := hg.below B1
  have hq2 := hq.below B1
  have hsz := B1.size
  clear hap a1 a2 hG hR2 X0 hg hq hb
  go_wp2_with fail
  refine (mproduct R qn ga gcap gv qa qcap qv _ hg2 hq2.1 hR hC).mono ?_
  rintro e wc ⟨⟨g, rfl, hlt, hE⟩, hc⟩
  have B2 := below_two B1 hc
  clear hg2 hq2 B1 hc c0 c1 c2
  go_wp2
  go_ret2
  exact ⟨⟨g, rfl, by omega, hE⟩, B2⟩

theorem info_slice32 : (Try.prog.info? 27).map (fun i => (i.zero, i.size, i.bytes)) = some (some (.slice none 0 0), 1, 24) := by kernel_rfl

/-- what a loop that lays rows in block G keeps: k of the n rows are laid -/
def Laid (G k n : Nat) (w : World) (f : Nat → List Int) (m : Nat) (vs : List Value) : Prop :=
  vs.length = n ∧ ∀ i, i < k → ∃ g, vs[i]? = some (.slice (some ⟨g, 0, none⟩) m m) ∧ G < g ∧ Elems .i32 w (some ⟨g, 0, none⟩) m (f i)

theorem many_no (g : Gr) (a : Option Addr) (n cap : Nat) (qs : List Rw) (h : appAll g qs = false) (w : World) (hg : g.In8 w) (hq : Rws .i8 w a n qs) :
    Calls Try.prog 13 #[.agg #[.int .i64 g.r, .int .i64 g.c, .slice g.a g.n g.cap], .slice a n cap] w fun e w' => NoRow 30 e ∧ Below w.heap.size w w' := by
  have a1 := fun o => (Below.refl w.heap.size w).alloc (Nat.le_refl _) o
  have hG := fun o => hg.below (a1 o)
  have hR := fun o => hq.below (a1 o)
  clear hg hq
  go_enter Try.func13, Try.ntmps13
  go_wp2_with fail
  refine (fits_c g a n cap qs false h _ (hG _) (hR _)).mono ?_
  rintro e wb ⟨rfl, hb⟩
  have B1 := below_two (a1 _) hb
  clear h a1 hG hR hb
  go_wp2
  go_ret2
  exact ⟨rfl, B1⟩

theorem Laid.below {G k n m : Nat} {w w' : World} {f : Nat → List Int} {vs : List Value} (h : Laid G k n w f m vs) (hb : Below w.heap.size w w') : Laid G k n w' f m vs :=
  ⟨h.1, fun i hi => by obtain ⟨g, h1, h2, h3⟩ := h.2 i hi; exact ⟨g, h1, h2, h3.below hb⟩⟩
theorem Laid.step {G k n m : Nat} {w : World} {f : Nat → List Int} {vs : List Value} (h : Laid G k n w f m vs) (hk : k < n) {g : Nat} (hg : G < g) (hE : Elems .i32 w (some ⟨g, 0, none⟩) m (f k)) :
    Laid G (k + 1) n (w.setCell ⟨G, k, none⟩ (.slice (some ⟨g, 0, none⟩) m m)) f m (vs.set k (.slice (some ⟨g, 0, none⟩) m m)) := by
  refine ⟨by simpa using h.1, fun i hi => ?_⟩
  by_cases e : i = k
  · subst e
    exact ⟨g, by rw [List.getElem?_set]; simp [h.1, hk], hg, hE.other (grownBy_setCell _ _ _ _) (by omega)⟩
  · obtain ⟨g', h1, h2, h3⟩ := h.2 i (by omega)
    exact ⟨g', by rw [List.getElem?_set_ne (by omega)]; exact h1, h2, h3.other (grownBy_setCell _ _ _ _) (by omega)⟩

/-- the rows that came without an error -/
def NewRows (w : World) (n m : Nat) (f : Nat → List Int) (e : Ending) : Prop :=
  ∃ G, e = .returned (.tuple #[.slice (some ⟨G, 0, none⟩) n n, .int .i64 0]) ∧ ∀ i, i < n → ∃ g, w.cell? ⟨G, i, none⟩ = some (.slice (some ⟨g, 0, none⟩) m m) ∧ Elems .i32 w (some ⟨g, 0, none⟩) m (f i)

set_option maxHeartbeats 1000000 in
theorem many_yes (g : Gr) (a : Option Addr) (n cap : Nat) (qs : List Rw) (R C : Nat) (e1 : g.r = R) (e2 : g.c = C) (e3 : g.n = R * C) (hR : R ≤ 4096) (hC : C ≤ 4096) (hle : R * C ≤ 1048576) (h : appAll g qs = true) (hn : n ≤ 16777216) (w : World) (hg : g.In8 w) (hq : Rws .i8 w a n qs) :
    Calls Try.prog 13 #[.agg #[.int .i64 g.r, .int .i64 g.c, .slice g.a g.n g.cap], .slice a n cap] w fun e w' => NewRows w' n R (fun i => mv g.v (qs.getD i default).v R C) e ∧ Below w.heap.size w w' := by
  have hmk := run_make_row' (P := Try.prog) 31 27 (.slice none 0 0) 24 Try.underlying31 info_slice32 rfl .i64 .i64 n (by omega) (by omega)
  have hall : ∀ q ∈ qs, q.n = C := fun q hm => by
    obtain ⟨R', C', x1, x2, _, _, _, _, x3⟩ := appB_yes (List.all_eq_true.1 h q hm)
    omega
  obtain ⟨gr, gc, ga, gn, gcap, gv⟩ := g
  simp only at e1 e2 e3 h
  subst e1 e2 e3
  have a1 := fun o => (Below.refl w.heap.size w).alloc (Nat.le_refl _) o
  have hG := fun o => hg.below (a1 o)
  have hR2 := fun o => hq.below (a1 o)
  have X0 := box3_at (w := w) rfl (.int .i64 R) (.int .i64 C) (.slice ga (R * C : Nat) gcap) 24
  have HALL := Lib.hid hall
  have HG := Lib.hid hg
  have HQ := Lib.hid hq
  clear hall hg hq
  go_enter Try.func13, Try.ntmps13
  go_wp2_with fail
  refine (fits_c _ a n cap qs true h _ (hG _) (hR2 _)).mono ?_
  rintro e wb ⟨rfl, hb⟩
  have B1 := below_two (a1 _) hb
  have X1 := X0.below hb
  have hlow := X1.1
  have hown := World.ownsRow_lit (e := 27) (size := 1) wb (madeCells #[Value.slice none 0 0] n) n (Nat.le_refl _) (by unfold maxLen; omega) (by rw [size_madeCells, Nat.mul_one])
  have hown2 : (wb.alloc (.cells (madeCells #[Value.slice none 0 0] n) 27)).ownsRow wb.heap.size 27 1 (.slice (some ⟨wb.heap.size, 0, none⟩) n n) n (madeCells #[Value.slice none 0 0] n).toList := hown
  have X2 := fun o => X1.alloc o
  have B2 := fun o => B1.alloc B1.size o
  clear h a1 hG hR2 X0 hb hown X1 B1
  go_wp2
  go_loopw [18] (fun i wr => ∃ (k : Nat) (vs : List Value), k ≤ n ∧ i = .int .i64 k ∧ wr.ownsRow wb.heap.size 27 1 (.slice (some ⟨wb.heap.size, 0, none⟩) n n) n vs ∧ Below w.heap.size w wr ∧ Box3 wr w.heap.size (.int .i64 R) (.int .i64 C) (.slice ga (R * C : Nat) gcap) ∧ wb.heap.size < wr.heap.size ∧ Hid (Laid wb.heap.size k n wr (fun i => mv gv (qs.getD i default).v R C) R vs)) (fun i _ => n - (intOf i).toNat)
  case atStart => exact ⟨0, _, by omega, rfl, hown2, B2 _, X2 _, by simp, Lib.hid ⟨by simp [size_madeCells], fun i hi => by omega⟩⟩
  case round =>
    clear X2 B2 hown2
    obtain ⟨k, vs, hk, rfl, hown, hbel, hbox, hsz, hlaid⟩ := hrel
    by_cases hlt : k < n
    · obtain ⟨b, off, q, rfl, hbl, cq, hqq, hin⟩ := (HQ.out.below hbel).at_ hlt
      have hqn := HALL.out q (by
        rw [← hqq.out, List.getD_eq_getElem?_getD, List.getElem?_eq_getElem (by rw [HQ.out.1]; exact hlt)]
        exact List.getElem_mem _)
      obtain ⟨qa, qn, qcap, qv⟩ := q
      simp only at hqn cq
      subst hqn
      have hbx := hbox
      obtain ⟨_, c0, c1, c2, _, _, _⟩ := hbox
      have hP := mproduct R qn ga gcap gv qa qcap qv _ (HG.out.below hbel) hin.1 hR hC
      clear hin
      go_wp2_with fail
      refine hP.mono ?_
      rintro e wc ⟨⟨g, rfl, hg1, hE⟩, hc⟩
      have B3 := below_two hbel hc
      have X3 := hbx.below hc
      have O3 := own_below hown hc
      have hl3 := hlaid.out.below hc
      have hlen := hl3.1
      have hsz3 : wb.heap.size < wc.heap.size := by have := hc.size; omega
      have hfr := O3.frozenAt k
      have hold := O3.cellAt k (by omega)
      rw [List.getElem?_eq_getElem (show k < vs.length by omega)] at hold
      generalize vs[k]'(by omega) = old at hold
      have hnew := (World.ownsRow.stored O3 k (.slice (some ⟨g, 0, none⟩) R R)).1
      have B4 := B3.setCell (p := ⟨wb.heap.size, k, none⟩) (by show w.heap.size ≤ wb.heap.size; omega) (.slice (some ⟨g, 0, none⟩) R R)
      have X4 := X3.kept (grownBy_setCell wc wb.heap.size k (.slice (some ⟨g, 0, none⟩) R R)) (by simp; omega)
      have hl4 := hl3.step hlt (g := g) (by omega) (by rw [hqq.out]; exact hE)
      have HL4 := Lib.hid hl4
      clear hP hc hbx hown hbel hlaid hl3 hlen hE O3 c0 c1 c2 hl4 hqq
      go_wp2
      go_roundw
      case rel => exact ⟨k + 1, _, by omega, by go_num, hnew, B4, X4, by simpa using hsz3, HL4⟩
      case measure => simp [intOf]; omega
    · obtain rfl : k = n := by omega
      have hlen := hlaid.out.1
      have hres : ∀ i, i < k → ∃ g, wr.cell? ⟨wb.heap.size, i, none⟩ = some (.slice (some ⟨g, 0, none⟩) R R) ∧ Elems .i32 wr (some ⟨g, 0, none⟩) R (mv gv (qs.getD i default).v R C) := fun i hi => by
        obtain ⟨g, h1, _, h3⟩ := hlaid.out.2 i hi
        exact ⟨g, by rw [hown.cellAt i (by omega)]; exact h1, h3⟩
      have HR := Lib.hid hres
      clear hown hlaid hbox hres hlen
      go_wp2
      go_ret2
      exact ⟨⟨_, rfl, HR.out⟩, hbel⟩

end Go.Proofs.Ytkiedganojaniaa
