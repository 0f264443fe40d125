/-
  Contract of Beside.
-/
import Derived.Test.YtocjcfblpifdhaaBeside
namespace Go.Proofs.Ytocjcfblpifdhaa
open Go.RowKit
set_option linter.unusedVariables false

theorem wide_mem {gs : List Gr} {g : Gr} (h : g ∈ wide gs) : g ∈ gs ∧ g.c ≠ 0 := by
  unfold wide at h
  have h2 := List.mem_filter.1 h
  exact ⟨h2.1, of_decide_eq_true h2.2⟩
theorem wide_sides {gs : List Gr} {R : Nat} (h1 : commonB (fun g => g.r) gs = true) (h2 : fitAll gs = true) (hR : side0 (fun g => g.r) gs = R) : ∀ g ∈ wide gs, g.r = R ∧ 0 < g.c ∧ g.c ≤ 4096 ∧ g.n = R * g.c.toNat := by
  intro g hg
  obtain ⟨hm, hc⟩ := wide_mem hg
  obtain ⟨R', C', e1, e2, e4, e5, e3, e6⟩ := fitB_yes (fit_mem h2 g hm)
  have e7 := common_mem h1 g hm
  rw [hR] at e7
  have e8 : R' = R := by omega
  subst e8
  refine ⟨e1, by omega, by omega, ?_⟩
  rw [e3, e2, Int.toNat_natCast]
theorem colsN_wide (gs : List Gr) (h : ∀ g ∈ gs, 0 ≤ g.c) : (colsN (wide gs) : Int) = sumOf (fun g => g.c) gs := by
  induction gs with
  | nil => simp [colsN, wide, sumOf]
  | cons g gs ih =>
    have ih' := ih (fun x hx => h x (List.mem_cons_of_mem _ hx))
    have h0 := h g List.mem_cons_self
    have e : sumOf (fun g => g.c) (g :: gs) = g.c + sumOf (fun g => g.c) gs := by simp [sumOf]
    rw [e, ← ih']
    by_cases hc : g.c = 0
    · have e2 : wide (g :: gs) = wide gs := by simp [wide, hc]
      rw [e2, hc]; omega
    · have e2 : wide (g :: gs) = g :: wide gs := by simp [wide, hc]
      have e3 : colsN (g :: wide gs) = g.c.toNat + colsN (wide gs) := by simp [colsN]
      rw [e2, e3]; omega
theorem catRow_wf {gs : List Gr} (h : ∀ g ∈ gs, ∀ x ∈ g.v, (Lit.int .i32 x).wf = true) (i j : Nat) : (Lit.int .i32 ((catRow gs i).getD j 0)).wf = true := by
  rw [List.getD_eq_getElem?_getD]
  cases e : (catRow gs i)[j]? with
  | none => rfl
  | some x =>
    have hx := List.mem_of_getElem? e
    unfold catRow at hx
    obtain ⟨g, hg, hx⟩ := List.mem_flatMap.1 hx
    unfold rowOf at hx
    exact h g hg x (List.mem_of_mem_drop (List.mem_of_mem_take hx))

section
variable (a : Option Addr) (n cap : Nat) (gs : List Gr) (w : World) (h : Grids w a n gs) (h12 : n ≤ 12) (ha : a = none → cap = 0) (hcap : n ≤ cap)
include h h12 ha hcap

set_option maxHeartbeats 2000000 in
theorem beside_no (hf : (commonB (fun g => g.r) gs && (fitAll gs && newB (side0 (fun g => g.r) gs) (sumOf (fun g => g.c) gs))) = false) :
    Calls Try.prog 29 #[.slice a n cap] w fun e w' => NoGrid 30 e ∧ Below w.heap.size w w' := by
  have hc := fun W (hb : Below w.heap.size w W) => common_any 48 (fun g => g.r) sides_rows (enters_of Try.func48 (by kernel_rfl) rfl) a n cap gs W (h.below hb)
  have hal : ∀ o, Below w.heap.size w (w.alloc o) := fun o => (Below.refl _ _).alloc (Nat.le_refl _) o
  cases h1 : commonB (fun g => g.r) gs with
  | false =>
    clear hf
    go_enter Try.func29, Try.ntmps29
    go_wp2_with fail
    refine (hc _ (hal _)).mono ?_
    rintro e wb ⟨he, hb⟩
    unfold CommonRes at he
    rw [if_neg (by rw [h1]; simp)] at he
    subst he
    obtain ⟨k1, d0, d1, d2, e0, e1, e2⟩ := (box3_new w (.int .i64 0) (.int .i64 0) (.slice none 0 0) 24).below hb
    have hB := below_two (hal _) hb
    clear hc hal hb h1
    go_wp2
    exact bodyPost_ret (v := .tuple #[.agg #[.int .i64 0, .int .i64 0, .slice none 0 0], .int .i64 30]) (by simp [results, Try.results29, go_sem, d0, d1, d2]) rfl
      ⟨rfl, below_res hB (by omega) _ _ _⟩
  | true =>
    rw [h1, Bool.true_and] at hf
    cases h2 : fitAll gs with
    | false =>
      have hh := fun W (hb : Below w.heap.size w W) => handy_c a n cap gs W (h.below hb) false h2
      clear hf
      go_enter Try.func29, Try.ntmps29
      go_wp2_with fail
      refine (hc _ (hal _)).mono ?_
      rintro e wb ⟨he, hb⟩
      unfold CommonRes at he
      rw [if_pos h1] at he
      subst he
      have b1 := (box3_new w (.int .i64 0) (.int .i64 0) (.slice none 0 0) 24).below hb
      have hB := below_two (hal _) hb
      clear hc hal hb h1 h2
      go_wp2_with fail
      refine (hh _ hB).mono ?_
      rintro e wc ⟨rfl, hbc⟩
      obtain ⟨k1, d0, d1, d2, e0, e1, e2⟩ := b1.below hbc
      have hB2 := below_two hB hbc
      clear hh hbc b1 hB
      go_wp2
      exact bodyPost_ret (v := .tuple #[.agg #[.int .i64 0, .int .i64 0, .slice none 0 0], .int .i64 30]) (by simp [results, Try.results29, go_sem, d0, d1, d2]) rfl
        ⟨rfl, below_res hB2 (by omega) _ _ _⟩
    | true =>
      rw [h2, Bool.true_and] at hf
      have hs := fit_sides h2
      have hh := fun W (hb : Below w.heap.size w W) => handy_c a n cap gs W (h.below hb) true h2
      have ht := fun W (hb : Below w.heap.size w W) => total_any 46 (fun g => g.c) sides_cols (enters_of Try.func46 (by kernel_rfl) rfl) a n cap gs W (h.below hb) h12 hs.2
      have r1 := sumOf_nonneg hs.2
      rw [h.1] at r1
      have r2 := side0_bd hs.1
      obtain ⟨C, hC⟩ : ∃ C, sumOf (fun g => g.c) gs = C := ⟨_, rfl⟩
      obtain ⟨R, hR⟩ : ∃ R, side0 (fun g => g.r) gs = R := ⟨_, rfl⟩
      rw [hR, hC] at hf
      rw [hC] at r1 ht
      rw [hR] at r2
      have HR := Lib.hid hR
      have HH := Lib.hid h
      have HA := Lib.hid ha
      have hcl := fun W (hb : Below w.heap.size w W) => clone_any a n cap gs W (HH.out.below hb) h12 HA.out hcap
      have HL := h.1
      have HIN := Lib.hid h.2.2.1
      clear hR hC hs h ha
      go_enter Try.func29, Try.ntmps29
      go_wp2_with fail
      refine (hc _ (hal _)).mono ?_
      rintro e wb ⟨he, hb⟩
      unfold CommonRes at he
      rw [if_pos h1, HR.out] at he
      subst he
      have b1 := (box3_new w (.int .i64 0) (.int .i64 0) (.slice none 0 0) 24).below hb
      have hB := below_two (hal _) hb
      clear hc hal hb h1 h2
      go_wp2_with fail
      refine (hh _ hB).mono ?_
      rintro e wc ⟨rfl, hbc⟩
      have b2 := b1.below hbc
      have hB2 := below_two hB hbc
      clear hh hbc b1 hB
      go_wp2_with fail
      refine (ht _ hB2).mono ?_
      rintro e wd ⟨rfl, hbd⟩
      have b3 := b2.below hbd
      have hB3 := below_two hB2 hbd
      clear ht hbd b2 hB2
      have hinD := fun g hg => (HIN.out g hg).below hB3
      go_wp2_with fail
      refine (hcl _ hB3).mono ?_
      rintro e we ⟨⟨v, rfl, hown⟩, hbe⟩
      have hdl := delete_any wd we v n gs hown hbe hinD HL h12
      clear hcl hown hbe hinD HL HIN
      go_wp2_with fail
      refine hdl.mono ?_
      rintro e wf ⟨⟨a', m, cap', rfl, hm, hGf⟩, hbf⟩
      have b4 := b3.below hbf
      have hB4 := below_two hB3 hbf
      clear hdl hbf b3 hB3 hGf
      go_wp2_with fail
      refine (filled_no 52 _ R C hf ⟨by omega, by omega⟩ ⟨by omega, by omega⟩ _).mono ?_
      rintro e wg ⟨rfl, hbg⟩
      have b5 := (b4.alloc _).below hbg
      have hB5 := below_two (hB4.alloc hB4.size _) hbg
      obtain ⟨k1, d0, d1, d2, e0, e1, e2⟩ := b5
      clear hf hbg b4 hB4
      go_wp2
      exact bodyPost_ret (v := .tuple #[.agg #[.int .i64 0, .int .i64 0, .slice none 0 0], .int .i64 30]) (by simp [results, Try.results29, go_sem, d0, d1, d2]) rfl
        ⟨rfl, below_res hB5 (Nat.le_refl _) _ _ _⟩

set_option maxHeartbeats 2000000 in
theorem beside_yes (R C : Nat) (h1 : commonB (fun g => g.r) gs = true) (h2 : fitAll gs = true) (hR : side0 (fun g => g.r) gs = R) (hC : sumOf (fun g => g.c) gs = C) (hR4 : R ≤ 4096) (hC4 : C ≤ 4096) (hle : R * C ≤ 1048576) :
    Calls Try.prog 29 #[.slice a n cap] w fun e w' => NewGrid w' R C (tab R C fun i j => (catRow (wide gs) i).getD j 0) e ∧ Below w.heap.size w w' := by
  have hc := fun W (hb : Below w.heap.size w W) => common_any 48 (fun g => g.r) sides_rows (enters_of Try.func48 (by kernel_rfl) rfl) a n cap gs W (h.below hb)
  have hal : ∀ o, Below w.heap.size w (w.alloc o) := fun o => (Below.refl _ _).alloc (Nat.le_refl _) o
  have hs := fit_sides h2
  have hh := fun W (hb : Below w.heap.size w W) => handy_c a n cap gs W (h.below hb) true h2
  have ht := fun W (hb : Below w.heap.size w W) => total_any 46 (fun g => g.c) sides_cols (enters_of Try.func46 (by kernel_rfl) rfl) a n cap gs W (h.below hb) h12 hs.2
  have hws := Lib.hid (wide_sides h1 h2 hR)
  have hwc : Hid (colsN (wide gs) = C) := Lib.hid (by have := colsN_wide gs (fun g hg => (hs.2 g hg).1); omega)
  have hwf := Lib.hid (catRow_wf (gs := wide gs) fun g hg => (h.2.2.1 g (wide_mem hg).1).1.2.2.1)
  rw [hC] at ht
  have HR := Lib.hid hR
  have HH := Lib.hid h
  have HA := Lib.hid ha
  have hcl := fun W (hb : Below w.heap.size w W) => clone_any a n cap gs W (HH.out.below hb) h12 HA.out hcap
  have HL := h.1
  have HIN := Lib.hid h.2.2.1
  clear hR hC hs h ha
  go_enter Try.func29, Try.ntmps29
  go_wp2_with fail
  refine (hc _ (hal _)).mono ?_
  rintro e wb ⟨he, hb⟩
  unfold CommonRes at he
  rw [if_pos h1, HR.out] at he
  subst he
  have b1 := (box3_new w (.int .i64 0) (.int .i64 0) (.slice none 0 0) 24).below hb
  have hB := below_two (hal _) hb
  clear hc hal hb h1 h2
  go_wp2_with fail
  refine (hh _ hB).mono ?_
  rintro e wc ⟨rfl, hbc⟩
  have b2 := b1.below hbc
  have hB2 := below_two hB hbc
  clear hh hbc b1 hB
  go_wp2_with fail
  refine (ht _ hB2).mono ?_
  rintro e wd ⟨rfl, hbd⟩
  have b3 := b2.below hbd
  have hB3 := below_two hB2 hbd
  clear ht hbd b2 hB2
  have hinD := fun g hg => (HIN.out g hg).below hB3
  go_wp2_with fail
  refine (hcl _ hB3).mono ?_
  rintro e we ⟨⟨v, rfl, hown⟩, hbe⟩
  have hdl := delete_any wd we v n gs hown hbe hinD HL h12
  clear hcl hown hbe hinD HL HIN
  go_wp2_with fail
  refine hdl.mono ?_
  rintro e wf ⟨⟨a', m, cap', rfl, hm, hGf⟩, hbf⟩
  have b4 := b3.below hbf
  have hB4 := below_two hB3 hbf
  have HG := Lib.hid hGf
  clear hdl hbf b3 hB3 hGf
  go_wp2_with fail
  refine (filled_yes 52 _ (enters_of Try.func52 (by kernel_rfl) rfl) R C hR4 hC4 hle (fun i j => (catRow (wide gs) i).getD j 0) _ (fills_beside (wide gs) R C a' m cap' _ _ ?p1 ?p2 ?p3 hR4 hC4 hws.out hwc.out)).mono ?_
  case p1 => simp
  case p2 => first | exact cell1_at rfl _ _ | simp
  case p3 => exact HG.out.below ((Below.refl _ _).alloc (Nat.le_refl _) _)
  rintro e wg ⟨g, rfl, hg, hM, hbg⟩
  have b5 := (b4.alloc _).below hbg
  have hB5 := below_two (hB4.alloc hB4.size _) hbg
  have hgs : w.heap.size < g := Nat.lt_of_lt_of_le (b4.alloc _).1 hg
  obtain ⟨k1, d0, d1, d2, e0, e1, e2⟩ := b5
  clear hbg b4 hB4 hg
  go_wp2
  exact bodyPost_ret (v := .tuple #[.agg #[.int .i64 R, .int .i64 C, .slice (some ⟨g, 0, none⟩) (R * C : Nat) (R * C : Nat)], .int .i64 0]) (by simp [results, Try.results29, go_sem, d0, d1, d2]) rfl
    ⟨newGrid_res hM (tab_length _ _ _) hle (tab_wf fun i j _ _ => hwf.out i j) (by omega), below_res hB5 (Nat.le_refl _) _ _ _⟩

end
end Go.Proofs.Ytocjcfblpifdhaa
