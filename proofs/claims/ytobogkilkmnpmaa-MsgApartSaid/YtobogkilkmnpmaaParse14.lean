/-
  Contracts of bytes.Clone, the code's Parse and the document's Fault.
-/
import Derived.Test.YtobogkilkmnpmaaPack14
import Derived.Test.YtobogkilkmnpmaaSize14
import Derived.Test.YtobogkilkmnpmaaBytes14
namespace Go.Proofs.Ytobogkilkmnpmaa
open Go.RowKit
set_option linter.unusedVariables false

/-- a copy of a row of bytes, in new memory -/
def CopyU (xs : List Int) (w : World) (e : Ending) (w' : World) : Prop := ∃ g : Rw, e = .returned (.slice g.a g.n g.cap) ∧ g.In .u8 w' ∧ g.v = xs ∧ (∀ x, g.a = some x → w.heap.size ≤ x.block) ∧ Below w.heap.size w w'
theorem clone14 (q : Rw) (w : World) (h : q.In .u8 w) (hn : q.n ≤ 140737488355328) : Calls Try.prog 44 #[.slice q.a q.n q.cap] w fun e w' => CopyU q.v w e w' := by
  obtain ⟨a, n, cap, xs⟩ := q
  have hE : Elems .u8 w a n xs := h.1
  simp only at hn ⊢
  cases a with
  | none =>
    have h0 : n = 0 := by
      apply Classical.byContradiction
      intro h0
      obtain ⟨b, off, he, _⟩ := hE.2.2.2 (by omega)
      cases he
    subst h0
    obtain rfl : xs = [] := List.length_eq_zero_iff.1 hE.1
    refine (Try.bytes_Clone_nil 0 cap w).mono ?_
    rintro e w' ⟨rfl, rfl⟩
    exact ⟨⟨none, 0, 0, []⟩, rfl, ⟨Elems.nil_ _ _ _, Nat.le_refl _, by show 0 ≤ _; omega, ⟨fun _ => rfl, fun x e _ => by cases e⟩⟩, rfl, fun x e => (by cases e), Below.refl _ _⟩
  | some x =>
    refine (Try.bytes_Clone_at x n cap xs w hE.1 hn (fun i hi => ?_)).mono ?_
    · obtain ⟨b, off, he, hc⟩ := hE.2.2.2 (by omega)
      cases he
      have e : Addr.add ⟨b, off, none⟩ i = ⟨b, off + i, none⟩ := by unfold Addr.add; split <;> (try rfl); rename_i h; subst h; rfl
      rw [e]
      exact hc i hi
    · rintro e w' ⟨v, rfl, ho, _, hb⟩
      obtain ⟨g, rfl, hgn, hgv, hgi, hga⟩ := own_row8 ho hE.2.2.1 (by omega)
      refine ⟨g, rfl, hgi, hgv, fun y hy => ?_, hb⟩
      rcases ho.2 with ⟨h1, h2⟩ | ⟨g2, c2, cur, h1, h2, _⟩
      · rw [hy] at h1; cases h1
      · rw [hy] at h1; cases h1; exact h2

/-- what Parse answers -/
def ParseE (xs : List Int) (w : World) (e : Ending) (w' : World) : Prop := ∃ (k : Int) (g : Rw), e = .returned (.tuple #[.int .u8 k, .slice g.a g.n g.cap, .int .i64 (flt xs : Nat)]) ∧ g.In .u8 w' ∧
  (flt xs = 0 → k = xs.getD 3 0 ∧ g.v = (xs.drop 8).take (xs.length - 12)) ∧ (flt xs ≠ 0 → k = 0 ∧ g.n = 0) ∧ Below w.heap.size w w'
theorem noneP {xs : List Int} {w w' : World} {m : Nat} (hf : flt xs = m) (hm : m ≠ 0) (hb : Below w.heap.size w w') : ParseE xs w (.returned (.tuple #[.int .u8 0, .slice none 0 0, .int .i64 (m : Int)])) w' :=
  ⟨0, ⟨none, 0, 0, []⟩, by rw [hf], ⟨Elems.nil_ _ _ _, Nat.le_refl _, by show 0 ≤ _; omega, ⟨fun _ => rfl, fun x e _ => by cases e⟩⟩, fun h => absurd (hf.symm.trans h) hm, fun _ => ⟨rfl, rfl⟩, hb⟩

set_option maxHeartbeats 1600000 in
theorem parse14 (q : Rw) (w : World) (h : q.In .u8 w) (hn : q.n ≤ 1073741824) : Calls Try.prog 29 #[.slice q.a q.n q.cap] w fun e w' => ParseE q.v w e w' := by
  have hS := size14 q w h
  have hl : q.v.length = q.n := h.1.1
  by_cases h1 : (csz q.v).2 = 0
  · have hle := csz_le h1
    by_cases h2 : (csz q.v).1 < q.n
    · have HF : Hid (flt q.v = 72) := Lib.hid (by unfold flt; rw [if_neg (by simpa using h1), if_pos (by omega)])
      unfold SizeE at hS
      rw [h1] at hS
      generalize (csz q.v).1 = s1 at hS h2
      have t1 : (s1 : Int) < (q.n : Int) := by omega
      clear hle h1 hl h
      obtain ⟨a, n, cap, xs⟩ := q
      simp only at *
      go_enter Try.func29, Try.ntmps29
      go_wp2_with fail
      refine hS.mono ?_
      rintro e w1 ⟨rfl, d, rfl⟩
      clear hS
      go_wp2_with fail
      go_ret3
      exact noneP (m := 72) HF.out (by decide) (below_drewN (Below.refl _ _) _)
    · have h3 : (csz q.v).1 = q.n := by omega
      have hso := fun d => sound14 q (w.drewN d) (by exact h) (by omega)
      unfold SizeE at hS
      rw [h1, h3] at hS
      by_cases hsd : sd q.v = true
      · have HF : Hid (flt q.v = 0) := Lib.hid (by unfold flt; rw [if_neg (by simpa using h1), if_neg (by omega), hsd]; rfl)
        rw [hsd] at hso
        obtain ⟨a, n, cap, xs⟩ := q
        have hE : Elems .u8 w a n xs := h.1
        have hcap : n ≤ cap := h.2.1
        have hcap2 : cap ≤ 9223372036854775807 := h.2.2.1
        have hSl : Sl a cap := h.2.2.2
        simp only at *
        obtain ⟨b, off, x3, rfl, c3, hx3, wx3⟩ := hE.at_ (show 3 < n by omega)
        obtain ⟨m, hm⟩ : ∃ m, n = m + 4 := ⟨n - 4, by omega⟩
        obtain ⟨u, hu⟩ : ∃ u, m - 8 = u := ⟨_, rfl⟩
        -- the body
        have hq : Rw.In .u8 w ⟨some ⟨b, off + 8, none⟩, u, cap - 8, (xs.drop 8).take (xs.length - 12)⟩ := by
          refine ⟨?_, by show u ≤ cap - 8; omega, by show cap - 8 ≤ _; omega, ⟨fun e => (by cases e), fun x e _ => (by cases e; rfl)⟩⟩
          have := (hE.drop 8 (by omega)).take u (by omega)
          rw [show xs.length - 12 = u by rw [hl]; omega]
          exact this
        have HQ := Lib.hid hq
        have CL : ∀ W, Rw.In .u8 W ⟨some ⟨b, off + 8, none⟩, u, cap - 8, (xs.drop 8).take (xs.length - 12)⟩ → Calls Try.prog 44 #[.slice (some ⟨b, off + 8, none⟩) u (cap - 8)] W fun e w' => CopyU ((xs.drop 8).take (xs.length - 12)) W e w' := fun W hW => clone14 _ W hW (by show u ≤ _; omega)
        have HC3 := Lib.hid c3
        have HX3 := Lib.hid hx3.out
        have t1 : (n : Int) - 4 = (m : Int) := by omega
        have t2 : (m : Int) - 8 = (u : Int) := by omega
        have t3 : m - 8 = u := hu
        have t4 : (8 : Int) ≤ (m : Int) := by omega
        have t5 : 8 ≤ m := by omega
        have t6 : (m : Int) ≤ (n : Int) := by omega
        have t7 : (m : Int) ≤ (cap : Int) := by omega
        have t8 : m ≤ cap := by omega
        have t9 : ¬ cap = 8 := by omega
        have t10 : ¬ 8 = cap := by omega
        have t11 : 3 < n := by omega
        have t12 : (3 : Int) < (n : Int) := by omega
        have t13 : (0 : Int) ≤ (m : Int) := by omega
        have t14 : ¬ (m : Int) < 8 := by omega
        have t15 : ¬ (cap : Int) < (m : Int) := by omega
        have t16 : ¬ m < 8 := by omega
        have t17 : 8 ≤ cap := by omega
        have t18 : IntKind.i64.wrap (m : Int) = (m : Int) := IntWalk.i64_in _ (by omega)
        have t19 : IntKind.i64.wrap ((n : Int) - 4) = (m : Int) := by rw [t1]; exact t18
        clear hle h1 hl h hsd h3 h2 hE hSl hq hx3 wx3 hm hu c3
        go_enter Try.func29, Try.ntmps29
        go_wp2_with fail
        refine hS.mono ?_
        rintro e w1 ⟨rfl, d, rfl⟩
        clear hS
        go_wp2_with fail
        refine (hso d).mono ?_
        rintro e w2 ⟨rfl, hb2⟩
        have HB := Lib.hid (below_two (below_drewN (Below.refl w.heap.size w) d) hb2)
        have c3 : w2.cell? ⟨b, off + 3, none⟩ = some (.int .u8 x3) := (HB.out.cell (p := ⟨b, off + 3, none⟩) (World.block_lt_of_cell? _ _ HC3.out)).trans HC3.out
        have HQ2 := Lib.hid (HQ.out.below HB.out)
        clear hb2 hso
        go_upto_region 8 with fail
        go_region_held3 (fun w' => w'.cell? ⟨b, off + 3, none⟩ = some (.int .u8 x3))
          (first | go_keep | assumption)
          ((go_at_call 44; (with_reducible refine (CL _ ?h1).mono ?_)
            case h1 => exact HQ2.out
            rintro e w3 ⟨g, rfl, hg, hgv, _, hb3⟩
            have a3 := (hb3.cell (p := ⟨b, off + 3, none⟩) (World.block_lt_of_cell? _ _ c3)).trans c3))
        all_goals
          have HBF := Lib.hid (below_two HB.out (by first | exact hb3 | exact below_two (Below.refl _ _).drew hb3))
          go_wp2
          go_ret3
          exact ⟨x3, g, by rw [HF.out]; rfl, hg, fun _ => ⟨HX3.out.symm, hgv⟩, fun h => absurd HF.out h, HBF.out⟩
      · have hsd := Bool.eq_false_iff.mpr hsd
        have HF : Hid (flt q.v = 73) := Lib.hid (by unfold flt; rw [if_neg (by simpa using h1), if_neg (by omega), hsd]; rfl)
        rw [hsd] at hso
        clear hle h1 hl h hsd h3 h2
        obtain ⟨a, n, cap, xs⟩ := q
        simp only at *
        go_enter Try.func29, Try.ntmps29
        go_wp2_with fail
        refine hS.mono ?_
        rintro e w1 ⟨rfl, d, rfl⟩
        clear hS
        go_wp2_with fail
        refine (hso d).mono ?_
        rintro e w2 ⟨rfl, hb2⟩
        have HB := Lib.hid (below_two (below_drewN (Below.refl w.heap.size w) d) hb2)
        clear hb2 hso
        go_wp2_with fail
        go_ret3
        exact noneP (m := 73) HF.out (by decide) HB.out
  · have HF : Hid (flt q.v = (csz q.v).2) := Lib.hid (by unfold flt; rw [if_pos h1])
    unfold SizeE at hS
    generalize (csz q.v).2 = s2 at hS h1 HF
    generalize (csz q.v).1 = s1 at hS
    have t1 : ((s2 : Int) != 0) = true := by simp; omega
    have H1 := Lib.hid h1
    clear hl h h1
    obtain ⟨a, n, cap, xs⟩ := q
    simp only at *
    go_enter Try.func29, Try.ntmps29
    go_wp2_with fail
    refine hS.mono ?_
    rintro e w1 ⟨rfl, d, rfl⟩
    clear hS
    go_wp2_with fail
    go_ret3
    exact noneP HF.out H1.out (below_drewN (Below.refl _ _) _)

/-- what the document's Fault answers -/
def FaultE (xs : List Int) (w : World) (e : Ending) (w' : World) : Prop := e = .returned (.int .i64 (flt xs : Nat)) ∧ Below w.heap.size w w'
set_option maxHeartbeats 1600000 in
theorem dfault14 (q : Rw) (w : World) (h : q.In .u8 w) (hn : q.n ≤ 1073741824) : Calls Try.prog 31 #[.slice q.a q.n q.cap] w fun e w' => FaultE q.v w e w' := by
  have hS := dsize14 q w h
  have hl : q.v.length = q.n := h.1.1
  unfold DSizeE at hS
  by_cases h1 : (dsz q.v).2 = 0
  · obtain ⟨k12, _, _, _, kle, kd⟩ := dsz_ok h1
    have hs1 : 12 ≤ (dsz q.v).1 ∧ (dsz q.v).1 ≤ 1048588 := by rw [kd]; simp only; omega
    by_cases h2 : q.n < (dsz q.v).1
    · have HF : Hid (flt q.v = 70) := Lib.hid (by
        have hc2 : csz q.v = (0, 70) := by unfold csz; rw [if_neg (by simpa using h1), if_pos (by omega)]
        unfold flt; rw [hc2, if_pos (by simp)])
      rw [h1] at hS
      generalize (dsz q.v).1 = s1 at hS h2
      have t1 : (q.n : Int) < (s1 : Int) := by omega
      clear h1 hl h kd hs1
      obtain ⟨a, n, cap, xs⟩ := q
      simp only at *
      go_enter Try.func31, Try.ntmps31
      go_wp2_with fail
      refine hS.mono ?_
      rintro e w1 ⟨rfl, d, rfl⟩
      clear hS
      go_wp2_with fail
      go_ret
      exact ⟨by rw [HF.out]; rfl, below_drewN (Below.refl _ _) _⟩
    · have hc2 : (csz q.v) = ((dsz q.v).1, 0) := by unfold csz; rw [if_neg (by simpa using h1), if_neg (by omega)]
      by_cases h3 : (dsz q.v).1 < q.n
      · have HF : Hid (flt q.v = 72) := Lib.hid (by unfold flt; rw [hc2]; rw [if_neg (by simp), if_pos (by simp only; omega)])
        rw [h1] at hS
        generalize (dsz q.v).1 = s1 at hS h3
        have t1 : (s1 : Int) < (q.n : Int) := by omega
        have t2 : ¬ (q.n : Int) < (s1 : Int) := by omega
        clear h1 hl h kd hs1 hc2 h2
        obtain ⟨a, n, cap, xs⟩ := q
        simp only at *
        go_enter Try.func31, Try.ntmps31
        go_wp2_with fail
        refine hS.mono ?_
        rintro e w1 ⟨rfl, d, rfl⟩
        clear hS
        go_wp2_with fail
        go_ret
        exact ⟨by rw [HF.out]; rfl, below_drewN (Below.refl _ _) _⟩
      · have h4 : (dsz q.v).1 = q.n := by omega
        have hF : flt q.v = if sd q.v then 0 else 73 := by unfold flt; rw [hc2]; rw [if_neg (by simp), if_neg (by simp only; omega)]
        rw [h1, h4] at hS
        obtain ⟨a, n, cap, xs⟩ := q
        have hE : Elems .u8 w a n xs := h.1
        have hcap : n ≤ cap := h.2.1
        have hcap2 : cap ≤ 9223372036854775807 := h.2.2.1
        simp only at *
        obtain ⟨b, off, x3, rfl, c3, hx3, wx3⟩ := hE.at_ (show 3 < n by omega)
        obtain ⟨m, hm⟩ : ∃ m, n = m + 4 := ⟨n - 4, by omega⟩
        have e4 : n - m = 4 := by omega
        have hd := hE.drop m (by omega)
        rw [e4] at hd
        have ht := hE.take m (by omega)
        have hsd : sd xs = decide (xs.drop m = be14 (csum (xs.take m))) := by unfold sd; rw [hE.1, show n - 4 = m by omega]
        have hcl := csum_lt (xs.take m)
        have hcw := be14_wf _ hcl
        have heq := str14_eq hcw (fun x hx => hE.2.2.1 x (List.mem_of_mem_drop hx)) (ys := xs.drop m)
        have HDS : Hid (∀ W, Below w.heap.size w W → Calls Try.prog 33 #[.slice (some ⟨b, off, none⟩) m cap] W fun e w' => e = .returned (.int .u32 (csum (xs.take m) : Nat)) ∧ W = w') := Lib.hid (fun W hW => doc_sum (some ⟨b, off, none⟩) m cap (xs.take m) W (ht.below hW))
        have F4 : ∀ W, Calls Try.prog 32 #[.int .u32 (csum (xs.take m) : Nat)] W fun e w' => e = .returned (.slice (some ⟨W.heap.size, 0, none⟩) 4 4) ∧ Below W.heap.size W w' ∧ Elems .u8 w' (some ⟨W.heap.size, 0, none⟩) 4 (be14 (csum (xs.take m))) := fun W => by
          refine (four14 W (csum (xs.take m)) hcl).mono ?_
          rintro e w' ⟨rfl, rfl⟩
          exact ⟨rfl, (Below.refl _ _).alloc (Nat.le_refl _) _, elems_litK (be14 (csum (xs.take m))) rfl rfl hcw (by simp [be14]) rfl⟩
        have HCV : Hid (∀ W, Below w.heap.size w W → Sem.run Try.prog (convert 27 9 (.slice (some ⟨b, off + m, none⟩) 4 (cap - m))) W = .ok (.string (strOfNums (xs.drop m))) W) := Lib.hid (fun W hW => conv_u8 (hd.below hW))
        have HSD : Hid ((if (strOfNums (be14 (csum (xs.take m)))).toList == (strOfNums (xs.drop m)).toList then 0 else 73) = flt xs) := Lib.hid (by
          rw [hF, hsd, heq]
          by_cases hx : be14 (csum (xs.take m)) = xs.drop m
          · rw [decide_eq_true hx, decide_eq_true hx.symm]
          · rw [decide_eq_false hx, decide_eq_false (fun e => hx e.symm)])
        have HC4 : Hid (∀ W g, Elems .u8 W (some ⟨g, 0, none⟩) 4 (be14 (csum (xs.take m))) → Sem.run Try.prog (convert 27 9 (.slice (some ⟨g, 0, none⟩) 4 4)) W = .ok (.string (strOfNums (be14 (csum (xs.take m))))) W) := Lib.hid (fun W g hW => conv_u8 hW)
        clear hF heq hcw hcl hsd
        generalize csum (xs.take m) = c at *
        generalize strOfNums (be14 c) = s1 at *
        generalize strOfNums (xs.drop m) = s2 at *
        have t1 : (n : Int) - 4 = (m : Int) := by omega
        have t3 : (n : Int) - (m : Int) = 4 := by omega
        have m0 : (0 : Int) ≤ (m : Int) := by omega
        have m1 : (m : Int) ≤ (n : Int) := by omega
        have m2 : m ≤ n := by omega
        have m3 : (m : Int) ≤ (cap : Int) := by omega
        have m4 : ¬ (n : Int) < (m : Int) := by omega
        have hne : ¬ cap = m := by omega
        have hne2 : ¬ m = cap := by omega
        have hm0 : m ≤ cap := by omega
        have t18 : IntKind.i64.wrap (m : Int) = (m : Int) := IntWalk.i64_in _ (by omega)
        have t19 : IntKind.i64.wrap ((n : Int) - 4) = (m : Int) := by rw [t1]; exact t18
        clear h1 hl h kd hs1 hc2 h2 h3 h4 hE hx3 wx3 hm hd ht c3 k12 kle
        go_enter Try.func31, Try.ntmps31
        go_wp2_with fail
        refine hS.mono ?_
        rintro e w1 ⟨rfl, d, rfl⟩
        clear hS
        have hB1 := below_drewN (Below.refl w.heap.size w) d
        generalize w.drewN d = w1 at hB1 ⊢
        have HB1 := Lib.hid hB1
        have a0 := HCV.out w1 hB1
        have d0 := HCV.out w1.drew hB1.drew
        clear hB1
        go_upto_region 8 with fail
        go_cut [33] from 21 to 33 (fun v wx => v = .bool (!(s1.toList == s2.toList)) ∧ Hid (Below w.heap.size w wx))
        case first =>
          refine wp_region_held_drew (S := (fun V => Sem.run Try.prog (convert 27 9 (.slice (some ⟨b, off + m, none⟩) 4 (cap - m))) V = .ok (.string s2) V)) (by kernel_rfl) ?_ (fun hHeld => ?_)
          · (first | go_keep | assumption)
          refine wpAnyH_take (i := 0) (oi := ⟨some 21, _, _, _, _, _⟩) (v := ?_) rfl (by kernel_rfl) (by kernel_rfl) (by kernel_rfl) (fun _ _ _ h => h) (Or.inl ⟨by rfl, ?hy1⟩) hHeld ?rest1
          case hy1 => (intro W hSw; (try dsimp only at hSw); go_simp; (try with_reducible rfl))
          simp only [Act.put, List.setIfInBounds_toArray, List.set_cons_zero, List.set_cons_succ]
          refine wpAnyH_take (i := 1) (oi := ⟨some 22, _, _, _, _, _⟩) (v := ?_) rfl (by kernel_rfl) (by kernel_rfl) (by kernel_rfl) (fun _ _ _ h => h) (Or.inl ⟨by rfl, ?hy2⟩) hHeld ?rest2
          case hy2 => (intro W hSw; (try dsimp only at hSw); go_simp; (try with_reducible rfl))
          simp only [Act.put, List.setIfInBounds_toArray, List.set_cons_zero, List.set_cons_succ]
          refine wpAnyH_take (i := 2) (oi := ⟨some 23, _, _, _, _, _⟩) (v := ?_) rfl (by kernel_rfl) (by kernel_rfl) (by kernel_rfl) (fun _ _ _ h => h) (Or.inl ⟨by rfl, ?hy3⟩) hHeld ?rest3
          case hy3 => (intro W hSw; (try dsimp only at hSw); go_simp; (try with_reducible rfl))
          simp only [Act.put, List.setIfInBounds_toArray, List.set_cons_zero, List.set_cons_succ]
          refine wpAnyH_take (i := 3) (oi := ⟨some 24, _, _, _, _, _⟩) (v := ?_) rfl (by kernel_rfl) (by kernel_rfl) (by kernel_rfl) (fun _ _ _ h => h) (Or.inl ⟨by rfl, ?hy4⟩) hHeld ?rest4
          case hy4 => (intro W hSw; (try dsimp only at hSw); go_simp; (try with_reducible rfl))
          simp only [Act.put, List.setIfInBounds_toArray, List.set_cons_zero, List.set_cons_succ]
          refine wpAnyH_take (i := 7) (oi := ⟨some 28, _, _, _, _, _⟩) (v := ?_) rfl (by kernel_rfl) (by kernel_rfl) (by kernel_rfl) (fun _ _ _ h => h) (Or.inl ⟨by rfl, ?hy5⟩) hHeld ?rest5
          case hy5 => (intro W hSw; (try dsimp only at hSw); go_simp; (try with_reducible rfl))
          simp only [Act.put, List.setIfInBounds_toArray, List.set_cons_zero, List.set_cons_succ]
          refine wpAnyH_take (i := 8) (oi := ⟨some 29, _, _, _, _, _⟩) (v := ?_) rfl (by kernel_rfl) (by kernel_rfl) (by kernel_rfl) (fun _ _ _ h => h) (Or.inl ⟨by rfl, ?hy6⟩) hHeld ?rest6
          case hy6 => (intro W hSw; (try dsimp only at hSw); go_simp; (try with_reducible rfl))
          simp only [Act.put, List.setIfInBounds_toArray, List.set_cons_zero, List.set_cons_succ]
          refine wpAnyH_take (i := 9) (oi := ⟨some 30, _, _, _, _, _⟩) (v := ?_) rfl (by kernel_rfl) (by kernel_rfl) (by kernel_rfl) (fun _ _ _ h => h) (Or.inl ⟨by rfl, ?hy7⟩) hHeld ?rest7
          case hy7 => (intro W hSw; (try dsimp only at hSw); go_simp; (try with_reducible rfl))
          simp only [Act.put, List.setIfInBounds_toArray, List.set_cons_zero, List.set_cons_succ]
          refine wpAnyH_take (i := 10) (oi := ⟨some 31, _, _, _, _, _⟩) (v := ?_) rfl (by kernel_rfl) (by kernel_rfl) (by kernel_rfl) (fun _ _ _ h => h) (Or.inl ⟨by rfl, ?hy8⟩) hHeld ?rest8
          case hy8 => (intro W hSw; (try dsimp only at hSw); go_simp; (try with_reducible rfl))
          simp only [Act.put, List.setIfInBounds_toArray, List.set_cons_zero, List.set_cons_succ]
          refine wpAnyH_take (i := 11) (oi := ⟨some 32, _, _, _, _, _⟩) (v := ?_) rfl (by kernel_rfl) (by kernel_rfl) (by kernel_rfl) (fun _ _ _ h => h) (Or.inl ⟨by rfl, ?hy9⟩) hHeld ?rest9
          case hy9 => (intro W hSw; (try dsimp only at hSw); go_simp; (try with_reducible rfl))
          simp only [Act.put, List.setIfInBounds_toArray, List.set_cons_zero, List.set_cons_succ]
          refine wpAnyH_ready (rs := [4]) (by kernel_rfl) (by simp) ?_
          refine AllReadyH.cons (o := ⟨some 25, _, _, _, _, _⟩) rfl (fun K hK => ?_) AllReadyH.nil
          go_simp
          go_at_call 33
          refine (HDS.out _ ?h1).mono ?_
          case h1 => (first | exact HB1.out | exact HB1.out.drew | exact below_drewN HB1.out _)
          rintro e wp ⟨rfl, rfl⟩
          (try go_wp2_with fail)
          refine hK.out _ _ ?_ (fun hNew => ?_)
          · ((try dsimp only); (first | go_keep | assumption))
          clear hK K hHeld
          have hHeld := hNew
          clear hNew
          try simp only [Act.put, List.setIfInBounds_toArray, List.set_cons_zero, List.set_cons_succ]
          refine wpAnyH_ready (rs := [5]) (by kernel_rfl) (by simp) ?_
          refine AllReadyH.cons (o := ⟨some 26, _, _, _, _, _⟩) rfl (fun K hK => ?_) AllReadyH.nil
          go_simp
          go_at_call 32
          refine (F4 _).mono ?_
          rintro e wF ⟨rfl, hbF, hEF⟩
          have HBF : Hid (Below w.heap.size w wF) := Lib.hid (by
            first
            | exact below_two HB1.out hbF
            | exact below_two HB1.out.drew hbF
            | exact below_two (below_drewN HB1.out _) hbF)
          have b0 := HCV.out wF HBF.out
          have b1 := HCV.out wF.drew HBF.out.drew
          have f0 : Sem.run Try.prog (convert 27 9 (.slice (some ⟨w1.heap.size, 0, none⟩) 4 4)) wF = .ok (.string s1) wF := HC4.out wF _ hEF
          have f1 : Sem.run Try.prog (convert 27 9 (.slice (some ⟨w1.heap.size, 0, none⟩) 4 4)) wF.drew = .ok (.string s1) wF.drew := HC4.out wF.drew _ hEF
          clear hbF hEF
          (try go_wp2_with fail)
          refine hK.out _ _ ?_ (fun hNew => ?_)
          · ((try dsimp only); (first | go_keep | assumption))
          clear hK K hHeld
          have hHeld := hNew
          clear hNew
          try simp only [Act.put, List.setIfInBounds_toArray, List.set_cons_zero, List.set_cons_succ]
          refine wpAnyH_ready (rs := [6]) (by kernel_rfl) (by simp) ?_
          refine AllReadyH.cons (o := ⟨some 27, _, _, _, _, _⟩) rfl (fun K hK => ?_) AllReadyH.nil
          go_simp
          refine hK.out _ _ ?_ (fun hNew => ?_)
          · ((try dsimp only); (first | go_keep | assumption))
          clear hK K hHeld
          have hHeld := hNew
          clear hNew
          try simp only [Act.put, List.setIfInBounds_toArray, List.set_cons_zero, List.set_cons_succ]
          refine wpAnyH_take (i := 12) (oi := ⟨some 33, _, _, _, _, _⟩) (v := ?_) rfl (by kernel_rfl) (by kernel_rfl) (by kernel_rfl) (fun _ _ _ h => h) (Or.inl ⟨by rfl, ?hy13⟩) hHeld ?rest13
          case hy13 => (intro W hSw; (try dsimp only at hSw); go_simp; (try with_reducible rfl))
          simp only [Act.put, List.setIfInBounds_toArray, List.set_cons_zero, List.set_cons_succ]
          refine wpAnyH_done (by kernel_rfl) ?_ _
          go_wp2_with fail
          go_meet
          case rel => exact ⟨rfl, HBF⟩
        obtain ⟨rfl, HBX⟩ := hcut
        generalize (s1.toList == s2.toList) = bb at HSD ⊢
        cases bb with
        | true =>
          have HZ : Hid ((0 : Nat) = flt xs) := Lib.hid (by simpa using HSD.out)
          clear HSD
          go_wp2_with fail
          go_ret
          exact ⟨by rw [← HZ.out]; rfl, HBX.out⟩
        | false =>
          have HZ : Hid ((73 : Nat) = flt xs) := Lib.hid (by simpa using HSD.out)
          clear HSD
          go_wp2_with fail
          go_ret
          exact ⟨by rw [← HZ.out]; rfl, HBX.out⟩
  · have HF : Hid (flt q.v = (dsz q.v).2) := Lib.hid (by unfold flt csz; rw [if_pos h1]; simp only; rw [if_pos h1])
    generalize (dsz q.v).2 = s2 at hS h1 HF
    generalize (dsz q.v).1 = s1 at hS
    have t1 : ((s2 : Int) != 0) = true := by simp; omega
    clear hl h h1
    obtain ⟨a, n, cap, xs⟩ := q
    simp only at *
    go_enter Try.func31, Try.ntmps31
    go_wp2_with fail
    refine hS.mono ?_
    rintro e w1 ⟨rfl, d, rfl⟩
    clear hS
    go_wp2_with fail
    go_ret
    exact ⟨by rw [HF.out]; rfl, below_drewN (Below.refl _ _) _⟩

end Go.Proofs.Ytobogkilkmnpmaa
