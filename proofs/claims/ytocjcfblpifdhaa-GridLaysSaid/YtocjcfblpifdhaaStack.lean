/-
  Contract of Stack.
-/
import Derived.Test.YtocjcfblpifdhaaTotal
import Derived.Test.YtocjcfblpifdhaaOps
namespace Go.Proofs.Ytocjcfblpifdhaa
open Go.RowKit
set_option linter.unusedVariables false

theorem handy_c (a : Option Addr) (n cap : Nat) (gs : List Gr) (w : World) (h : Grids w a n gs) (x : Bool) (hx : fitAll gs = x) :
    Calls Try.prog 39 #[.slice a n cap] w fun e w' => e = .returned (.bool x) ∧ Below w.heap.size w w' := by
  rw [← hx]; exact handy_any a n cap gs w h

/-- the numbers of cells, together -/
def cells (gs : List Gr) : Nat := (gs.map Gr.n).sum
theorem cells_step (gs : List Gr) (k : Nat) (hk : k < gs.length) (g : Gr) (hg : gs.getD k default = g) : cells (gs.take (k + 1)) = cells (gs.take k) + g.n := by
  unfold cells
  rw [List.take_add_one, List.map_append, List.sum_append, ← hg]
  simp [List.getD, List.getElem?_eq_getElem hk]
theorem cells_le (gs : List Gr) (k : Nat) : cells (gs.take k) ≤ cells gs := by
  have h : cells gs = cells (gs.take k) + cells (gs.drop k) := by
    unfold cells; rw [← List.sum_append, ← List.map_append, List.take_append_drop]
  omega
theorem flat_step (gs : List Gr) (k : Nat) (hk : k < gs.length) (g : Gr) (hg : gs.getD k default = g) : (gs.take (k + 1)).flatMap Gr.v = (gs.take k).flatMap Gr.v ++ g.v := by
  rw [List.take_add_one, List.flatMap_append, ← hg]
  simp [List.getD, List.getElem?_eq_getElem hk]
theorem getD_mem_gr {gs : List Gr} {k : Nat} (hk : k < gs.length) {g : Gr} (hg : gs.getD k default = g) : g ∈ gs := by
  rw [← hg, List.getD_eq_getElem?_getD, List.getElem?_eq_getElem hk]
  exact List.getElem_mem _
theorem fit_mem {gs : List Gr} (h : fitAll gs = true) : ∀ g ∈ gs, fitB g.r g.c g.n = true := by
  unfold fitAll at h
  rw [List.all_eq_true] at h
  exact h
theorem common_mem {p : Gr → Int} {gs : List Gr} (h : commonB p gs = true) : ∀ g ∈ gs, p g = side0 p gs := by
  unfold commonB at h
  rw [List.all_eq_true] at h
  intro g hg
  have := of_decide_eq_true (h g hg)
  rw [this]
  cases gs with
  | nil => cases hg
  | cons g2 gs2 => rfl
/-- right grids of one side have as many cells as their other sides, together, times it -/
theorem cells_rows {gs : List Gr} (h : fitAll gs = true) (hc : commonB (fun g => g.c) gs = true) : (cells gs : Int) = sumOf (fun g => g.r) gs * side0 (fun g => g.c) gs := by
  have h1 := fit_mem h
  have h2 := common_mem hc
  generalize side0 (fun g => g.c) gs = s at h2
  clear h hc
  induction gs with
  | nil => simp [cells, sumOf]
  | cons g gs ih =>
    have ih' := ih (fun x hx => h1 x (List.mem_cons_of_mem _ hx)) (fun x hx => h2 x (List.mem_cons_of_mem _ hx))
    obtain ⟨R, C, e1, e2, _, _, e3, _⟩ := fitB_yes (h1 g List.mem_cons_self)
    have e4 := h2 g List.mem_cons_self
    have a1 : (cells (g :: gs) : Int) = (g.n : Int) + (cells gs : Int) := by simp [cells]
    have a2 : sumOf (fun g => g.r) (g :: gs) = g.r + sumOf (fun g => g.r) gs := by simp [sumOf]
    rw [a1, a2, Int.add_mul, ih', ← e4, e3, e1, e2]
    push_cast; rfl
theorem sumOf_nonneg {p : Gr → Int} {gs : List Gr} (h : ∀ g ∈ gs, 0 ≤ p g ∧ p g ≤ 4096) : 0 ≤ sumOf p gs ∧ sumOf p gs ≤ gs.length * 4096 := by
  induction gs with
  | nil => simp [sumOf]
  | cons g gs ih =>
    have ih' := ih (fun x hx => h x (List.mem_cons_of_mem _ hx))
    have := h g List.mem_cons_self
    have e : sumOf p (g :: gs) = p g + sumOf p gs := by simp [sumOf]
    rw [e, List.length_cons]; push_cast; omega
theorem fit_sides {gs : List Gr} (h : fitAll gs = true) : (∀ g ∈ gs, 0 ≤ g.r ∧ g.r ≤ 4096) ∧ ∀ g ∈ gs, 0 ≤ g.c ∧ g.c ≤ 4096 := by
  constructor
  all_goals
    intro g hg
    obtain ⟨R, C, e1, e2, _, _, _, _⟩ := fitB_yes (fit_mem h g hg)
    omega
theorem side0_bd {p : Gr → Int} {gs : List Gr} (h : ∀ g ∈ gs, 0 ≤ p g ∧ p g ≤ 4096) : 0 ≤ side0 p gs ∧ side0 p gs ≤ 4096 := by
  cases gs with
  | nil => simp [side0]
  | cons g gs => exact h g List.mem_cons_self

section
variable (a : Option Addr) (n cap : Nat) (gs : List Gr) (w : World) (h : Grids w a n gs) (h12 : n ≤ 12)
include h h12

set_option maxHeartbeats 800000 in
theorem stack_no (hf : (commonB (fun g => g.c) gs && (fitAll gs && newB (sumOf (fun g => g.r) gs) (side0 (fun g => g.c) gs))) = false) :
    Calls Try.prog 28 #[.slice a n cap] w fun e w' => NoGrid 30 e ∧ Below w.heap.size w w' := by
  have hc := fun W (hb : Below w.heap.size w W) => common_any 46 (fun g => g.c) sides_cols (enters_of Try.func46 (by kernel_rfl) rfl) a n cap gs W (h.below hb)
  have hal : ∀ o, Below w.heap.size w (w.alloc o) := fun o => (Below.refl _ _).alloc (Nat.le_refl _) o
  cases h1 : commonB (fun g => g.c) gs with
  | false =>
    clear hf
    go_enter Try.func28, Try.ntmps28
    go_wp2_with fail
    refine (hc _ (hal _)).mono ?_
    rintro e wb ⟨he, hb⟩
    unfold CommonRes at he
    rw [if_neg (by rw [h1]; simp)] at he
    subst he
    obtain ⟨k1, d0, d1, d2, e0, e1, e2⟩ := (box3_new w (.int .i64 0) (.int .i64 0) (.slice none 0 0) 24).below hb
    have hB := below_two (hal _) hb
    clear hc hal hb h1
    go_wp2
    exact bodyPost_ret (v := .tuple #[.agg #[.int .i64 0, .int .i64 0, .slice none 0 0], .int .i64 30]) (by simp [results, Try.results28, go_sem, d0, d1, d2]) rfl
      ⟨rfl, below_res hB (by omega) _ _ _⟩
  | true =>
    rw [h1, Bool.true_and] at hf
    cases h2 : fitAll gs with
    | false =>
      have hh := fun W (hb : Below w.heap.size w W) => handy_c a n cap gs W (h.below hb) false h2
      clear hf
      go_enter Try.func28, Try.ntmps28
      go_wp2_with fail
      refine (hc _ (hal _)).mono ?_
      rintro e wb ⟨he, hb⟩
      unfold CommonRes at he
      rw [if_pos h1] at he
      subst he
      have b1 := (box3_new w (.int .i64 0) (.int .i64 0) (.slice none 0 0) 24).below hb
      have hB := below_two (hal _) hb
      clear hc hal hb h1 h2
      go_wp2_with fail
      refine (hh _ hB).mono ?_
      rintro e wc ⟨rfl, hbc⟩
      obtain ⟨k1, d0, d1, d2, e0, e1, e2⟩ := b1.below hbc
      have hB2 := below_two hB hbc
      clear hh hbc b1 hB
      go_wp2
      exact bodyPost_ret (v := .tuple #[.agg #[.int .i64 0, .int .i64 0, .slice none 0 0], .int .i64 30]) (by simp [results, Try.results28, go_sem, d0, d1, d2]) rfl
        ⟨rfl, below_res hB2 (by omega) _ _ _⟩
    | true =>
      rw [h2, Bool.true_and] at hf
      have hs := fit_sides h2
      have hh := fun W (hb : Below w.heap.size w W) => handy_c a n cap gs W (h.below hb) true h2
      have ht := fun W (hb : Below w.heap.size w W) => total_any 48 (fun g => g.r) sides_rows (enters_of Try.func48 (by kernel_rfl) rfl) a n cap gs W (h.below hb) h12 hs.1
      have r1 := sumOf_nonneg hs.1
      rw [h.1] at r1
      have r2 := side0_bd hs.2
      obtain ⟨R, hR⟩ : ∃ R, sumOf (fun g => g.r) gs = R := ⟨_, rfl⟩
      obtain ⟨C, hC⟩ : ∃ C, side0 (fun g => g.c) gs = C := ⟨_, rfl⟩
      rw [hR, hC] at hf
      rw [hR] at r1 ht
      rw [hC] at r2
      have HC := Lib.hid hC
      clear hR hC hs
      go_enter Try.func28, Try.ntmps28
      go_wp2_with fail
      refine (hc _ (hal _)).mono ?_
      rintro e wb ⟨he, hb⟩
      unfold CommonRes at he
      rw [if_pos h1, HC.out] at he
      subst he
      have b1 := (box3_new w (.int .i64 0) (.int .i64 0) (.slice none 0 0) 24).below hb
      have hB := below_two (hal _) hb
      clear hc hal hb h1 h2
      go_wp2_with fail
      refine (hh _ hB).mono ?_
      rintro e wc ⟨rfl, hbc⟩
      have b2 := b1.below hbc
      have hB2 := below_two hB hbc
      clear hh hbc b1 hB
      go_wp2_with fail
      refine (ht _ hB2).mono ?_
      rintro e wd ⟨rfl, hbd⟩
      have b3 := b2.below hbd
      have hB3 := below_two hB2 hbd
      clear ht hbd b2 hB2
      go_wp2_with fail
      refine (new_no R C hf ⟨by omega, by omega⟩ ⟨by omega, by omega⟩ _).mono ?_
      rintro e we ⟨rfl, hbe⟩
      obtain ⟨k1, d0, d1, d2, e0, e1, e2⟩ := b3.below hbe
      have hB4 := below_two hB3 hbe
      clear hf hbe b3 hB3
      go_wp2
      exact bodyPost_ret (v := .tuple #[.agg #[.int .i64 0, .int .i64 0, .slice none 0 0], .int .i64 30]) (by simp [results, Try.results28, go_sem, d0, d1, d2, k1]) rfl
        ⟨rfl, (below_res hB4 (Nat.le_refl _) _ _ _).alloc (by simp; omega) _⟩

set_option maxHeartbeats 2000000 in
theorem stack_yes (R C : Nat) (h1 : commonB (fun g => g.c) gs = true) (h2 : fitAll gs = true) (hR : sumOf (fun g => g.r) gs = R) (hC : side0 (fun g => g.c) gs = C) (hR4 : R ≤ 4096) (hC4 : C ≤ 4096) (hle : R * C ≤ 1048576) :
    Calls Try.prog 28 #[.slice a n cap] w fun e w' => NewGrid w' R C (gs.flatMap Gr.v) e ∧ Below w.heap.size w w' := by
  have hc := fun W (hb : Below w.heap.size w W) => common_any 46 (fun g => g.c) sides_cols (enters_of Try.func46 (by kernel_rfl) rfl) a n cap gs W (h.below hb)
  have hal : ∀ o, Below w.heap.size w (w.alloc o) := fun o => (Below.refl _ _).alloc (Nat.le_refl _) o
  have hs := fit_sides h2
  have hh := fun W (hb : Below w.heap.size w W) => handy_c a n cap gs W (h.below hb) true h2
  have ht := fun W (hb : Below w.heap.size w W) => total_any 48 (fun g => g.r) sides_rows (enters_of Try.func48 (by kernel_rfl) rfl) a n cap gs W (h.below hb) h12 hs.1
  have hcells : cells gs = R * C := by
    have := cells_rows h2 h1
    rw [hR, hC] at this
    have e : ((R * C : Nat) : Int) = (R : Int) * C := by push_cast; rfl
    omega
  rw [hR] at ht
  have HC := Lib.hid hC
  have HCELLS := Lib.hid hcells
  have HH := Lib.hid h
  have hlen := h.1
  have HLEN := Lib.hid hlen
  have hnmax := h.2.1
  clear hR hC hs hcells h hlen
  go_enter Try.func28, Try.ntmps28
  go_wp2_with fail
  refine (hc _ (hal _)).mono ?_
  rintro e wb ⟨he, hb⟩
  unfold CommonRes at he
  rw [if_pos h1, HC.out] at he
  subst he
  have b1 := (box3_new w (.int .i64 0) (.int .i64 0) (.slice none 0 0) 24).below hb
  have hB := below_two (hal _) hb
  clear hc hal hb h1 h2
  go_wp2_with fail
  refine (hh _ hB).mono ?_
  rintro e wc ⟨rfl, hbc⟩
  have b2 := b1.below hbc
  have hB2 := below_two hB hbc
  clear hh hbc b1 hB
  go_wp2_with fail
  refine (ht _ hB2).mono ?_
  rintro e wd ⟨rfl, hbd⟩
  have b3 := b2.below hbd
  have hB3 := below_two hB2 hbd
  clear ht hbd b2 hB2
  go_wp2_with fail
  refine (new_yes R C hR4 hC4 hle _).mono ?_
  rintro e we ⟨g, rfl, hg, hM, hbe⟩
  have b4 := b3.below hbe
  have hB4 := below_two hB3 hbe
  have hgs : w.heap.size < g := Nat.lt_of_lt_of_le b3.1 hg
  have hgl := hM.lt
  clear hbe b3 hB3 hg
  have b4' := fun o => b4.alloc o
  have hM' := fun o => hM.alloc o
  have hB' := fun o => hB4.alloc (by have := hB4.size; omega) o
  have b5' := box3_new we (.int .i64 R) (.int .i64 C) (.slice (some ⟨g, 0, none⟩) (R * C : Nat) (R * C : Nat)) 24
  obtain ⟨v5, c0, c1, c2, f0, f1, f2⟩ := b5'
  clear b4 hM hB4
  go_wp2_with fail
  go_loopw [8, 39] (fun t i wr => ∃ (k o L : Nat) (ra : Addr) (cs : List Int), k ≤ n ∧ i = .int .i64 k ∧ t = .slice (some ra) L L ∧ Hid (L + o = R * C ∧ o = cells (gs.take k) ∧ (o < R * C → ra = ⟨g, o, none⟩) ∧ cs.length = R * C ∧ cs.take o = (gs.take k).flatMap Gr.v) ∧
      Mine wr g 21 cs ∧ Below w.heap.size w wr ∧ Box3 wr w.heap.size (.int .i64 0) (.int .i64 0) (.slice none 0 0) ∧ Box3 wr we.heap.size (.int .i64 R) (.int .i64 C) (.slice (some ⟨g, 0, none⟩) (R * C : Nat) (R * C : Nat))) (fun _ i _ => n - (intOf i).toNat)
  case atStart =>
    exact ⟨0, 0, R * C, ⟨g, 0, none⟩, List.replicate (R * C) 0, by omega, rfl, rfl, Lib.hid ⟨by omega, by simp [cells], fun _ => rfl, by simp, by simp⟩, hM' _, hB' _, b4' _, ⟨v5, c0, c1, c2, f0, f1, f2⟩⟩
  case round =>
    clear hM' hB' b4' v5 c0 c1 c2 f0 f1 f2
    obtain ⟨k, o, L, ra, cs, hk, rfl, rfl, hrel, hM, hB, b1, b2⟩ := hrel
    by_cases hlt : k < n
    · obtain ⟨b, off, gk, rfl, hbl, c0, c1, c2, hgk, hin⟩ := (HH.out.below hB).at_ hlt
      obtain ⟨hLo, hoc, hra, hcl, htk⟩ := hrel.out
      have hstc := cells_step gs k (by rw [HLEN.out]; exact hlt) gk hgk.out
      have hstf := flat_step gs k (by rw [HLEN.out]; exact hlt) gk hgk.out
      have hall := cells_le gs (k + 1)
      rw [hstc, ← hoc, HCELLS.out] at hall
      obtain ⟨r, c, ga, m, gcap, v⟩ := gk
      simp only at c0 c1 c2 hall hstc hstf
      obtain ⟨hE, hgc, hgc2, hSl, _, _, _, _⟩ := hin
      simp only at hE hgc hgc2 hSl
      have hvl := hE.1
      have hmL : m ≤ L := by omega
      have hsz := hB.size
      have hM2 := fun o => hM.alloc o
      have hB2 := fun o => hB.alloc hsz o
      have b12 := fun o => b1.alloc o
      have b22 := fun o => b2.alloc o
      have hE2 := fun o => hE.below ((Below.refl wr.heap.size wr).alloc (Nat.le_refl _) o)
      have hgl2 := hM.lt
      have h82 := b2.1
      have HRA := Lib.hid hra
      have hfit : o + v.length ≤ cs.length := by omega
      have hnew : Hid (cells (gs.take (k + 1)) = o + m ∧ (splice cs o v).length = R * C ∧ (splice cs o v).take (o + m) = (gs.take (k + 1)).flatMap Gr.v) := Lib.hid ⟨by rw [hstc, ← hoc], by rw [length_splice _ _ _ hfit, hcl], by
        rw [hstf, ← htk]
        unfold splice
        rw [← List.append_assoc, List.take_append_of_le_length (by simp <;> omega), List.take_of_length_le (by simp <;> omega)]⟩
      have HLO := Lib.hid hLo
      have HVL := Lib.hid hvl
      have HFIT := Lib.hid hfit
      obtain ⟨cs', hcs'⟩ : ∃ cs', splice cs o v = cs' := ⟨_, rfl⟩
      rw [hcs'] at hnew
      have HCS := Lib.hid hcs'
      have i0 : (0 : Int) ≤ (m : Int) := by omega
      have i1 : (m : Int) ≤ (L : Int) := by omega
      clear hrel hLo hoc hra hcl htk hstc hstf hall hE hvl hfit hcs' hM hB b1 b2
      by_cases hcut : m = L
      · subst hcut
        go_wp2_with (with_reducible refine wpList_copy_mine rfl (.tmp 44) (.tmp 46) 22 22 rfl 21 Try.underlying22 (by kernel_rfl) (some ra) ga m m m gcap rfl rfl g o cs 21 (hM2 _) v ?c1 ?c2 HFIT.out ?c3)
        case c1 => first | exact HVL.out | (rw [HVL.out]; exact (Nat.min_self _).symm)
        case c2 =>
          intro hpos
          have h3 := HLO.out
          have h4 := HVL.out
          refine ⟨by rw [HRA.out (by omega)], ?_⟩
          rw [h4]; exact hE2 _
        case c3 =>
          intro wf hMf hgf
          rw [HCS.out] at hMf
          have hBf := below_grown (hB2 _) hgf (by omega)
          have b1f := (b12 _).kept hgf (by simp <;> omega)
          have b2f := (b22 _).kept hgf (by simp <;> omega)
          have HVL2 := HVL.out
          clear hM2 hB2 b12 b22 hE2 hgf
          go_wp2
          go_roundw
          case rel =>
            have h3 := HLO.out
            exact ⟨k + 1, o + m, 0, ra, cs', by omega, by go_num, rfl, Lib.hid ⟨by omega, hnew.out.1.symm, fun h => absurd h (by omega), hnew.out.2.1, hnew.out.2.2⟩, hMf, hBf, b1f, b2f⟩
          case measure => simp [intOf]; omega
      · have hra := HRA.out (by have := HLO.out; omega)
        subst hra
        have i2 : (m : Int) < (L : Int) := by omega
        go_wp2_with (with_reducible refine wpList_copy_mine rfl (.tmp 44) (.tmp 46) 22 22 rfl 21 Try.underlying22 (by kernel_rfl) (some ⟨g, o, none⟩) ga L L m gcap rfl rfl g o cs 21 (hM2 _) v ?d1 ?d2 HFIT.out ?d3)
        case d1 => first | exact HVL.out | (rw [HVL.out]; exact (Nat.min_eq_left hmL).symm)
        case d2 =>
          intro hpos
          have h4 := HVL.out
          first
            | exact ⟨rfl, by rw [h4]; exact hE2 _⟩
            | (rw [h4]; exact hE2 _)
        case d3 =>
          intro wf hMf hgf
          rw [HCS.out] at hMf
          have hBf := below_grown (hB2 _) hgf (by omega)
          have b1f := (b12 _).kept hgf (by simp <;> omega)
          have b2f := (b22 _).kept hgf (by simp <;> omega)
          have HVL2 := HVL.out
          clear hM2 hB2 b12 b22 hE2 hgf HRA
          go_wp2
          go_roundw
          case rel =>
            have h3 := HLO.out
            exact ⟨k + 1, o + m, L - m, ⟨g, o + m, none⟩, cs', by omega, by go_num, rfl, Lib.hid ⟨by omega, hnew.out.1.symm, fun h => rfl, hnew.out.2.1, hnew.out.2.2⟩, hMf, hBf, b1f, b2f⟩
          case measure => simp [intOf]; omega
    · obtain rfl : k = n := by omega
      obtain ⟨hLo, hoc, hra, hcl, htk⟩ := hrel.out
      rw [show gs.take k = gs from List.take_of_length_le (by rw [HLEN.out]; omega)] at hoc htk
      rw [HCELLS.out] at hoc
      rw [show cs.take o = cs from List.take_of_length_le (by omega)] at htk
      have hwf : ∀ x ∈ cs, (Lit.int .i32 x).wf = true := by
        rw [htk]
        intro x hx
        obtain ⟨gk, hgk, hx⟩ := List.mem_flatMap.1 hx
        exact (HH.out.2.2.1 gk hgk).1.2.2.1 x hx
      have HTK := Lib.hid htk
      have HCL := Lib.hid hcl
      obtain ⟨k1, d0, d1, d2, e0, e1, e2⟩ := b1
      obtain ⟨h1, c0, c1, c2, f0, f1, f2⟩ := b2
      clear hrel hLo hoc hra hcl htk
      go_wp2
      exact bodyPost_ret (v := .tuple #[.agg #[.int .i64 R, .int .i64 C, .slice (some ⟨g, 0, none⟩) (R * C : Nat) (R * C : Nat)], .int .i64 0]) (by simp [results, Try.results28, go_sem, d0, d1, d2]) rfl
        ⟨newGrid_res (by rw [← HTK.out]; exact hM) (by rw [← HTK.out]; exact HCL.out) hle (by rw [← HTK.out]; exact hwf) (by omega), below_res hB (Nat.le_refl _) _ _ _⟩

end
end Go.Proofs.Ytocjcfblpifdhaa
