/-
  Contracts of the document's Part and Turn: the table of the cells, in new memory.
-/
import Derived.Test.YtocjcfblpifdhaaMine
import Derived.Test.YtocjcfblpifdhaaLine
import Derived.Deep.RegionLaw
namespace Go.Proofs.Ytocjcfblpifdhaa
open Go.RowKit
set_option linter.unusedVariables false

/-- a grid by value of r rows and c columns with the numbers xs -/
def GridV (w : World) (r c : Nat) (xs : List Int) (v : Value) : Prop := ∃ a cap, v = .agg #[.int .i64 r, .int .i64 c, .slice a xs.length cap] ∧ Elems .i32 w a xs.length xs ∧ xs.length ≤ cap ∧ cap ≤ 9223372036854775807

/-- what a loop that builds a grid cell by cell keeps: the grid that came in, the result's cells, the grid that is built, its numbers so far -/
structure OutInv (w : World) (R C : Int) (sl : Value) (m n : Int) (u : Value) (cs : List Int) (wr : World) : Prop where
  b1 : Box3 wr w.heap.size (.int .i64 R) (.int .i64 C) sl
  b2 : Box3 wr (w.heap.size + 1) (.int .i64 0) (.int .i64 0) (.slice none 0 0)
  b3 : Box3 wr (w.heap.size + 1 + 1) (.int .i64 m) (.int .i64 n) u
  own : wr.ownsRow (w.heap.size + 1 + 1 + 1) 21 1 u cs.length (cs.map (.int .i32))
  bel : Below w.heap.size w wr
  sz : w.heap.size + 1 + 1 + 1 ≤ wr.heap.size

theorem outInv_start (w : World) (R C : Int) (sl : Value) (m n : Int) (T T2 T3 : TypeId) :
    OutInv w R C sl m n (.slice none 0 0) [] (((w.alloc (.cells #[.int .i64 R, .int .i64 C, sl] T)).alloc (.cells #[.int .i64 0, .int .i64 0, .slice none 0 0] T2)).alloc (.cells #[.int .i64 m, .int .i64 n, .slice none 0 0] T3)) :=
  ⟨((box3_at rfl _ _ _ _).alloc _).alloc _, (box3_at (by simp) _ _ _ _).alloc _, box3_at (by simp) _ _ _ _, own_nil _ _ _, (((Below.refl _ _).alloc (Nat.le_refl _) _).alloc (by simp) _).alloc (by simp; omega) _, by simp⟩

/-- one number more -/
theorem OutInv.next {w : World} {R C : Int} {sl : Value} {m n : Int} {u : Value} {cs : List Int} {wr wc : World} (h : OutInv w R C sl m n u cs wr) (hb : Below wr.heap.size wr wc) (x : Int) (hl : cs.length ≤ 16777216) :
    ∃ g cap w', Sem.run Try.prog (Builtin.append_ #[22, 22] 22 #[u, .slice (some ⟨wc.heap.size, 0, none⟩) 1 1]) (wc.alloc (.cells #[.int .i32 x] 21)) = .ok (.slice (some ⟨g, 0, none⟩) (cs.length + 1) cap) w' ∧
      Box3 wc w.heap.size (.int .i64 R) (.int .i64 C) sl ∧ Box3 wc (w.heap.size + 1 + 1) (.int .i64 m) (.int .i64 n) u ∧ Box3 w' w.heap.size (.int .i64 R) (.int .i64 C) sl ∧ Box3 w' (w.heap.size + 1 + 1) (.int .i64 m) (.int .i64 n) u ∧
      OutInv w R C sl m n (.slice (some ⟨g, 0, none⟩) (cs.length + 1) cap) (cs ++ [x]) (w'.setCell ⟨w.heap.size + 1 + 1, 2, none⟩ (.slice (some ⟨g, 0, none⟩) (cs.length + 1) cap)) := by
  have own2 := own_below h.own hb
  have hsz := hb.size
  have hs := h.sz
  obtain ⟨g, cap, w', hr, hown, hg, hlt⟩ := run_append_one wc _ u cs.length cs x own2 hl (by omega)
  have hne : ∀ b, b < w.heap.size + 1 + 1 + 1 → some b ≠ u.ownBlock := fun b hb' e => by
    have := (own2.lt b e.symm).1
    omega
  have c1 := h.b1.below hb
  have c2 := h.b2.below hb
  have c3 := h.b3.below hb
  have d1 := c1.kept hg (hne _ (by omega))
  have d2 := c2.kept hg (hne _ (by omega))
  have d3 := c3.kept hg (hne _ (by omega))
  have hset := grownBy_setCell w' (w.heap.size + 1 + 1) 2 (.slice (some ⟨g, 0, none⟩) (cs.length + 1) cap)
  refine ⟨g, cap, w', hr, c1, c3, d1, d3, d1.kept hset (by simp; omega), d2.kept hset (by simp), ?_, ?_, ?_, ?_⟩
  · exact d3.set2 _
  · rw [List.length_append, List.length_singleton]
    exact own_grown hown hset (by omega)
  · have hB : Below w.heap.size w w' := (below_two h.bel hb).grown hg (by omega) (fun k hk => by have := (own2.lt k hk).1; omega)
    exact hB.setCell (p := ⟨w.heap.size + 1 + 1, 2, none⟩) (by simp; omega) _
  · simp; omega

theorem gridV_own {w : World} {base m n : Nat} {u : Value} {cs : List Int} (h : w.ownsRow base 21 1 u cs.length (cs.map (.int .i32))) (hl : cs.length ≤ 16777216) (hw : ∀ x ∈ cs, (Lit.int .i32 x).wf = true) :
    GridV w m n cs (.agg #[.int .i64 m, .int .i64 n, u]) := by
  obtain ⟨a, cap, rfl, hE⟩ := own_form h (by omega) hw
  refine ⟨a, cap, rfl, hE, ?_, ?_⟩
  · rcases h.2 with ⟨he, h0⟩ | ⟨g, cap', cur, he, _, _, hnc, hcm, _⟩
    · simp only [Value.slice.injEq] at he; omega
    · simp only [Value.slice.injEq] at he; omega
  · rcases h.2 with ⟨he, h0⟩ | ⟨g, cap', cur, he, _, _, hnc, hcm, _⟩
    · simp only [Value.slice.injEq] at he; omega
    · simp only [Value.slice.injEq] at he; unfold maxLen at hcm; omega

/-- the same behind a result that is stored in a block ahead of it -/
theorem own_elems_set {w : World} {base : Nat} {a : Option Addr} {cap : Nat} {cs : List Int} (h : w.ownsRow base 21 1 (.slice a cs.length cap) cs.length (cs.map (.int .i32))) (hl : cs.length ≤ 16777216) (hw : ∀ x ∈ cs, (Lit.int .i32 x).wf = true) {b : Nat} (hb : b < base) (p q r : Value) :
    Elems .i32 (((w.setCell ⟨b, 0, none⟩ p).setCell ⟨b, 1, none⟩ q).setCell ⟨b, 2, none⟩ r) a cs.length cs := by
  obtain ⟨a', cap', he, hE⟩ := own_form (own_grown h (grownBy_res w b p q r) hb) (by omega) hw
  simp only [Value.slice.injEq] at he
  rw [he.1]; exact hE

set_option maxHeartbeats 2000000 in
theorem ref_part (R C r0 r1 c0 c1 : Nat) (a : Option Addr) (cap : Nat) (xs : List Int) (w : World) (h : Elems .i32 w a (R * C) xs) (hR : R ≤ 4096) (hC : C ≤ 4096) (hr : r0 ≤ r1) (hr1 : r1 ≤ R) (hc : c0 ≤ c1) (hc1 : c1 ≤ C) :
    Calls Try.prog 27 #[.agg #[.int .i64 R, .int .i64 C, .slice a (R * C : Nat) cap], .int .i64 r0, .int .i64 r1, .int .i64 c0, .int .i64 c1] w fun e w' =>
      (∃ v, e = .returned v ∧ GridV w' (r1 - r0) (c1 - c0) (tab (r1 - r0) (c1 - c0) fun i j => xs.getD ((r0 + i) * C + (c0 + j)) 0) v) ∧ Below w.heap.size w w' := by
  have HE := Lib.hid h
  have hsz : (r1 - r0) * (c1 - c0) ≤ 4096 * 4096 := Nat.mul_le_mul (by omega) (by omega)
  obtain ⟨m, hm⟩ : ∃ m, r1 - r0 = m := ⟨_, rfl⟩
  obtain ⟨n, hn⟩ : ∃ n, c1 - c0 = n := ⟨_, rfl⟩
  have em : (r1 : Int) - (r0 : Int) = (m : Int) := by omega
  have en : (c1 : Int) - (c0 : Int) = (n : Int) := by omega
  rw [hm, hn] at hsz ⊢
  have HM := Lib.hid hm
  have HN := Lib.hid hn
  clear h hm hn
  go_enter Try.func27, Try.ntmps27
  go_wp2_with fail
  go_loopw [12] (fun i wr => ∃ (i' : Nat) (u : Value), r0 ≤ i' ∧ i' ≤ r1 ∧ i = .int .i64 i' ∧ Hid (OutInv w R C (.slice a (R * C : Nat) cap) m n u (pre n (fun i j => xs.getD ((r0 + i) * C + (c0 + j)) 0) (i' - r0) 0) wr)) (fun i _ => r1 - (intOf i).toNat)
  case atStart => exact ⟨r0, .slice none 0 0, by omega, by omega, rfl, Lib.hid (by rw [Nat.sub_self]; exact outInv_start w _ _ _ _ _ _ _ _)⟩
  case round =>
    obtain ⟨i', u, hi0, hi1, rfl, hinv⟩ := hrel
    by_cases hlt : i' < r1
    · go_wp2_with fail
      go_loopw [13] (fun j wr => ∃ (j' : Nat) (u : Value), c0 ≤ j' ∧ j' ≤ c1 ∧ j = .int .i64 j' ∧ Hid (OutInv w R C (.slice a (R * C : Nat) cap) m n u (pre n (fun i j => xs.getD ((r0 + i) * C + (c0 + j)) 0) (i' - r0) (j' - c0)) wr)) (fun j _ => c1 - (intOf j).toNat)
      case atStart => exact ⟨c0, u, by omega, by omega, rfl, Lib.hid (by rw [Nat.sub_self]; exact hinv.out)⟩
      case round =>
        clear hinv
        obtain ⟨j', u, hj0, hj1, rfl, hinv⟩ := hrel
        by_cases hlt2 : j' < c1
        · have hcell := fun W (hb : Below w.heap.size w W) => ref_cell R C i' j' a cap xs W (HE.out.below hb) hR hC (by omega) (by omega)
          have hl : (pre n (fun i j => xs.getD ((r0 + i) * C + (c0 + j)) 0) (i' - r0) (j' - c0)).length ≤ 16777216 := by
            rw [pre_length]
            have : i' - r0 < m := by have := HM.out; omega
            have := row_lt this (show j' - c0 < n by have := HN.out; omega)
            omega
          have hnx : ∀ x, x = xs.getD (i' * C + j') 0 → pre n (fun i j => xs.getD ((r0 + i) * C + (c0 + j)) 0) (i' - r0) (j' - c0) ++ [x] = pre n (fun i j => xs.getD ((r0 + i) * C + (c0 + j)) 0) (i' - r0) (j' + 1 - c0) := fun x hx => by
            rw [show j' + 1 - c0 = (j' - c0) + 1 by omega, pre_next, hx, show r0 + (i' - r0) = i' by omega, show c0 + (j' - c0) = j' by omega]
          have HL := Lib.hid hl
          have HNX := Lib.hid hnx
          obtain ⟨cs, hcs⟩ : ∃ cs, pre n (fun i j => xs.getD ((r0 + i) * C + (c0 + j)) 0) (i' - r0) (j' - c0) = cs := ⟨_, rfl⟩
          rw [hcs] at hinv HL HNX
          clear hl hnx hcs
          obtain ⟨x, hx⟩ : ∃ x, x = xs.getD (i' * C + j') 0 := ⟨_, rfl⟩
          rw [← hx] at hcell
          have HX := Lib.hid hx
          clear hx
          obtain ⟨h1, k0, k1, k2, f0, f1, f2⟩ := hinv.out.b1
          obtain ⟨h3, l0, l1, l2, g0, g1, g2⟩ := hinv.out.b3
          go_wp2_with fail
          go_region_law (first
            | (go_simp; go_at_call 17; (with_reducible refine (hcell _ hinv.out.bel.drew).mono ?_); rintro e wc ⟨rfl, hbc⟩
               obtain ⟨g, cap2, w2, hrun, ⟨_, m0, m1, m2, _, _, _⟩, ⟨_, n0, n1, n2, _, _, _⟩, ⟨_, p0, p1, p2, _, _, _⟩, ⟨_, q0, q1, q2, s0, s1, s2⟩, hnext⟩ := hinv.out.next (((Below.refl _ _).drew).trans hbc) x HL.out)
            | (refine step_append_run (by rfl) _ _ _ (by rfl) _ _ (by rfl) (by rfl) hrun ?_))
          all_goals go_wp2
          all_goals
            go_roundw
            case rel => exact ⟨j' + 1, _, by omega, by omega, by go_num, Lib.hid (by rw [← HNX.out x HX.out]; exact hnext)⟩
            case measure => simp [intOf]; omega
        · obtain rfl : j' = c1 := by omega
          have hnx := hinv.out
          rw [show j' - c0 = n from HN.out, pre_row, show i' - r0 + 1 = i' + 1 - r0 by omega] at hnx
          have HNX := Lib.hid hnx
          clear hnx
          go_wp2
          go_roundw
          case rel => exact ⟨i' + 1, u, by omega, by omega, by go_num, HNX⟩
          case measure => simp [intOf]; omega
    · obtain rfl : i' = r1 := by omega
      have hnx := hinv.out
      rw [show i' - r0 = m from HM.out, pre_tab] at hnx
      have hwf := tab_wf (r := m) (c := n) (f := fun i j => xs.getD ((r0 + i) * C + (c0 + j)) 0) fun i j _ _ => getD_wf HE.out.2.2.1 rfl _
      have hlen := tab_length m n fun i j => xs.getD ((r0 + i) * C + (c0 + j)) 0
      obtain ⟨cs, hcs⟩ : ∃ cs, tab m n (fun i j => xs.getD ((r0 + i) * C + (c0 + j)) 0) = cs := ⟨_, rfl⟩
      rw [hcs] at hnx hwf hlen
      have HCS := Lib.hid hcs
      obtain ⟨h1, k0, k1, k2, f0, f1, f2⟩ := hnx.b2
      obtain ⟨h3, l0, l1, l2, g0, g1, g2⟩ := hnx.b3
      have hown := hnx.own
      have hbel := hnx.bel
      have hG := gridV_own (m := m) (n := n) hown (by omega) hwf
      have hne : ∀ k, u.ownBlock = some k → w.heap.size + 1 + 1 + 1 ≤ k := fun k hk => (hown.lt k hk).1
      obtain ⟨ua, ucap, hu, hE2, hca, hcb⟩ := hG
      obtain rfl : u = .slice ua cs.length ucap := by simpa using hu
      have hE3 := own_elems_set hown (by omega) hwf (b := w.heap.size + 1) (by omega) (.int .i64 m) (.int .i64 n) (.slice ua cs.length ucap)
      have hbr := below_res hbel (b := w.heap.size + 1) (by omega) (.int .i64 m) (.int .i64 n) (.slice ua cs.length ucap)
      clear hinv hnx hcs hown hlen hu hE2
      go_wp2
      exact bodyPost_ret (v := .agg #[.int .i64 m, .int .i64 n, .slice ua cs.length ucap]) (by simp [results, Try.results27, go_sem, k0, k1, k2]) rfl
        ⟨⟨_, rfl, by rw [HCS.out]; exact ⟨ua, ucap, rfl, hE3, hca, hcb⟩⟩, hbr⟩

end Go.Proofs.Ytocjcfblpifdhaa
