/-
  Contracts of the document's answers of layer 4: Ints, Same, Part, Apply.
-/
import Derived.Test.YtkiedganojaniaaMatOps
import Derived.Test.YtkiedganojaniaaSums
import Derived.Deep.RegionLaw
import Derived.Deep.RegionHeld3
namespace Go.Proofs.Ytkiedganojaniaa
open Go.RowKit
set_option linter.unusedVariables false

theorem tab_wfK {kd : IntKind} {r c : Nat} {f : Nat → Nat → Int} (h : ∀ i j, i < r → j < c → (Lit.int kd (f i j)).wf = true) : ∀ x ∈ tab r c f, (Lit.int kd x).wf = true := by
  intro x hx
  unfold tab at hx
  rw [List.mem_flatMap] at hx
  obtain ⟨i, hi, hx⟩ := hx
  obtain ⟨j, hj, rfl⟩ := List.mem_map.1 hx
  exact h i j (List.mem_range.1 hi) (List.mem_range.1 hj)

/-- an append whose run is known, in a region of one order -/
theorem wpList_append_at {P : Program} {w w' : World} {ops : Array Oper} {rest : List Oper} {o : Oper} {a : Act} {Q : Exit → Act → World → Prop} (hgd : o.guard = none) (s x : Operand) (t : TypeId)
    (ho : o.op = .call { callee := .builtin .append, args := #[s, x], argTypes := #[t, t] }) (v1 v2 : Value) (hs : a.eval s = v1) (hx : a.eval x = v2) {v : Value}
    (hrun : Sem.run P (Builtin.append_ #[t, t] o.type #[v1, v2]) w = .ok v w') (h : wpList P ops Q rest (a.put o.dst v) w') : wpList P ops Q (o :: rest) a w := by
  refine wpList_plain hgd fun K hK => ?_
  unfold Oper.wp execOp
  simp only [ho, resolve, invoke, builtin, Sem.run_bind, Sem.run_pure, Result.andThen_ok, List.map_toArray, List.map_cons, List.map_nil, hs, hx, hrun]
  exact hK _ _ h

theorem ints_yes (a a2 : Option Addr) (n cap cap2 : Nat) (xs : List Int) (w : World) (h : Elems .i32 w a n xs) (h2 : Elems .i32 w a2 n xs) :
    Calls Try.prog 18 #[.slice a n cap, .slice a2 n cap2] w fun e w' => e = .returned (.bool true) ∧ ∃ d, w' = w.drewN d := by
  have hn := h.2.1
  go_enter Try.func18, Try.ntmps18
  go_wp2_with fail
  go_loopw [5] (fun i wr => ∃ (k d : Nat), k ≤ n ∧ i = .int .i64 k ∧ wr = w.drewN d) (fun i _ => n - (intOf i).toNat)
  case atStart => exact ⟨0, 0, by omega, rfl, rfl⟩
  case round =>
    obtain ⟨k, d, hk, rfl, rfl⟩ := hrel
    by_cases hlt : k < n
    · obtain ⟨b, off, v, rfl, hc, hv, _⟩ := h.at_ hlt
      obtain ⟨b2, off2, v2, rfl, hc2, hv2, _⟩ := h2.at_ hlt
      obtain rfl : v = v2 := by rw [← hv.out, hv2.out]
      clear hv hv2 h h2
      go_wp2_with fail
      go_quiet (fail)
      go_wp2
      go_roundw
      case rel => exact ⟨k + 1, _, by omega, by go_num, rfl⟩
      case measure => simp [intOf]; omega
    · clear h h2
      go_wp2
      go_ret
      exact ⟨rfl, _, rfl⟩

set_option maxHeartbeats 800000 in
theorem msame_yes (r c : Int) (a a2 : Option Addr) (n cap cap2 : Nat) (xs : List Int) (w : World) (h : Elems .i8 w a n xs) (h2 : Elems .i8 w a2 n xs) :
    Calls Try.prog 15 #[.agg #[.int .i64 r, .int .i64 c, .slice a n cap], .agg #[.int .i64 r, .int .i64 c, .slice a2 n cap2]] w fun e w' => e = .returned (.bool true) ∧ Below w.heap.size w w' := by
  have hn := h.2.1
  have B0 := fun x y => ((Below.refl w.heap.size w).alloc (Nat.le_refl _) x).alloc (by simp) y
  have K0 := fun y => (box3_at (w := w) (b := w.heap.size) rfl (.int .i64 r) (.int .i64 c) (.slice a n cap) 24).alloc y
  have K1 := fun x => box3_at (w := w.alloc x) (b := w.heap.size + 1) (by simp) (.int .i64 r) (.int .i64 c) (.slice a2 n cap2) 24
  go_enter Try.func15, Try.ntmps15
  go_wp2_with fail
  go_loopw [5] (fun i wr => ∃ k : Nat, k ≤ n ∧ i = .int .i64 k ∧ Below w.heap.size w wr ∧ Box3 wr w.heap.size (.int .i64 r) (.int .i64 c) (.slice a n cap) ∧ Box3 wr (w.heap.size + 1) (.int .i64 r) (.int .i64 c) (.slice a2 n cap2)) (fun i _ => n - (intOf i).toNat)
  case atStart => exact ⟨0, by omega, rfl, B0 _ _, K0 _, K1 _⟩
  case round =>
    clear B0 K0 K1
    obtain ⟨k, hk, rfl, hbel, b0, b1⟩ := hrel
    have hd := fun d => (show Below w.heap.size w (wr.drewN d) from below_drewN hbel d)
    obtain ⟨x1, k0, k1, k2, f0, f1, f2⟩ := b0
    obtain ⟨x2, l0, l1, l2, g0, g1, g2⟩ := b1
    by_cases hlt : k < n
    · obtain ⟨b, off, v, rfl, hc, hv, _⟩ := (h.below hbel).at_ hlt
      obtain ⟨b2, off2, v2, rfl, hc2, hv2, _⟩ := (h2.below hbel).at_ hlt
      obtain rfl : v = v2 := by rw [← hv.out, hv2.out]
      clear hv hv2 h h2
      go_wp2_with fail
      go_quiet (fail)
      go_wp2
      go_roundw
      case rel => exact ⟨k + 1, by omega, by go_num, hd _, ⟨x1, k0, k1, k2, f0, f1, f2⟩, ⟨x2, l0, l1, l2, g0, g1, g2⟩⟩
      case measure => simp [intOf]; omega
    · clear h h2
      go_wp2
      go_ret
      exact ⟨rfl, hbel⟩

/-- a matrix by value of r rows and c columns with the numbers xs -/
def MatV (w : World) (r c : Nat) (xs : List Int) (v : Value) : Prop := ∃ a cap, v = .agg #[.int .i64 r, .int .i64 c, .slice a xs.length cap] ∧ Elems .i8 w a xs.length xs ∧ xs.length ≤ cap ∧ cap ≤ 9223372036854775807

/-- what a loop that builds a matrix cell by cell keeps: the matrix that came in, the result's cells, the matrix that is built, its numbers so far -/
structure OutInv8 (w : World) (R C : Int) (sl : Value) (m n : Int) (u : Value) (cs : List Int) (wr : World) : Prop where
  b1 : Box3 wr w.heap.size (.int .i64 R) (.int .i64 C) sl
  b2 : Box3 wr (w.heap.size + 1) (.int .i64 0) (.int .i64 0) (.slice none 0 0)
  b3 : Box3 wr (w.heap.size + 1 + 1) (.int .i64 m) (.int .i64 n) u
  own : wr.ownsRow (w.heap.size + 1 + 1 + 1) 46 1 u cs.length (cs.map (.int .i8))
  bel : Below w.heap.size w wr
  sz : w.heap.size + 1 + 1 + 1 ≤ wr.heap.size

theorem outInv8_start (w : World) (R C : Int) (sl : Value) (m n : Int) (T T2 T3 : TypeId) :
    OutInv8 w R C sl m n (.slice none 0 0) [] (((w.alloc (.cells #[.int .i64 R, .int .i64 C, sl] T)).alloc (.cells #[.int .i64 0, .int .i64 0, .slice none 0 0] T2)).alloc (.cells #[.int .i64 m, .int .i64 n, .slice none 0 0] T3)) :=
  ⟨((box3_at rfl _ _ _ _).alloc _).alloc _, (box3_at (by simp) _ _ _ _).alloc _, box3_at (by simp) _ _ _ _, own_nil _ _ _, (((Below.refl _ _).alloc (Nat.le_refl _) _).alloc (by simp) _).alloc (by simp; omega) _, by simp⟩

/-- one number more -/
theorem OutInv8.next {w : World} {R C : Int} {sl : Value} {m n : Int} {u : Value} {cs : List Int} {wr wc : World} (h : OutInv8 w R C sl m n u cs wr) (hb : Below wr.heap.size wr wc) (x : Int) (hl : cs.length ≤ 16777216) :
    ∃ g cap w', Sem.run Try.prog (Builtin.append_ #[22, 22] 22 #[u, .slice (some ⟨wc.heap.size, 0, none⟩) 1 1]) (wc.alloc (.cells #[.int .i8 x] 46)) = .ok (.slice (some ⟨g, 0, none⟩) (cs.length + 1) cap) w' ∧
      Box3 wc w.heap.size (.int .i64 R) (.int .i64 C) sl ∧ Box3 wc (w.heap.size + 1 + 1) (.int .i64 m) (.int .i64 n) u ∧ Box3 w' w.heap.size (.int .i64 R) (.int .i64 C) sl ∧ Box3 w' (w.heap.size + 1 + 1) (.int .i64 m) (.int .i64 n) u ∧
      OutInv8 w R C sl m n (.slice (some ⟨g, 0, none⟩) (cs.length + 1) cap) (cs ++ [x]) (w'.setCell ⟨w.heap.size + 1 + 1, 2, none⟩ (.slice (some ⟨g, 0, none⟩) (cs.length + 1) cap)) := by
  have own2 := own_below h.own hb
  have hsz := hb.size
  have hs := h.sz
  obtain ⟨g, cap, w', hr, hown, hg, hlt⟩ := run_append_one8 wc _ u cs.length cs x own2 hl (by omega)
  have hne : ∀ b, b < w.heap.size + 1 + 1 + 1 → some b ≠ u.ownBlock := fun b hb' e => by
    have := (own2.lt b e.symm).1
    omega
  have c1 := h.b1.below hb
  have c2 := h.b2.below hb
  have c3 := h.b3.below hb
  have d1 := c1.kept hg (hne _ (by omega))
  have d2 := c2.kept hg (hne _ (by omega))
  have d3 := c3.kept hg (hne _ (by omega))
  have hset := grownBy_setCell w' (w.heap.size + 1 + 1) 2 (.slice (some ⟨g, 0, none⟩) (cs.length + 1) cap)
  refine ⟨g, cap, w', hr, c1, c3, d1, d3, d1.kept hset (by simp; omega), d2.kept hset (by simp), ?_, ?_, ?_, ?_⟩
  · exact d3.set2 _
  · rw [List.length_append, List.length_singleton]
    exact own_grown hown hset (by omega)
  · have hB : Below w.heap.size w w' := (below_two h.bel hb).grown hg (by omega) (fun k hk => by have := (own2.lt k hk).1; omega)
    exact hB.setCell (p := ⟨w.heap.size + 1 + 1, 2, none⟩) (by simp; omega) _
  · simp; omega

theorem matV_own {w : World} {base m n : Nat} {u : Value} {cs : List Int} (h : w.ownsRow base 46 1 u cs.length (cs.map (.int .i8))) (hl : cs.length ≤ 16777216) (hw : ∀ x ∈ cs, (Lit.int .i8 x).wf = true) :
    MatV w m n cs (.agg #[.int .i64 m, .int .i64 n, u]) := by
  obtain ⟨a, cap, rfl, hE⟩ := own_form h (by omega) hw
  refine ⟨a, cap, rfl, hE, ?_, ?_⟩
  · rcases h.2 with ⟨he, h0⟩ | ⟨g, cap', cur, he, _, _, hnc, hcm, _⟩
    · simp only [Value.slice.injEq] at he; omega
    · simp only [Value.slice.injEq] at he; omega
  · rcases h.2 with ⟨he, h0⟩ | ⟨g, cap', cur, he, _, _, hnc, hcm, _⟩
    · simp only [Value.slice.injEq] at he; omega
    · simp only [Value.slice.injEq] at he; unfold maxLen at hcm; omega

/-- the same behind a result that is stored in a block ahead of it -/
theorem own_elems_set8 {w : World} {base : Nat} {a : Option Addr} {cap : Nat} {cs : List Int} (h : w.ownsRow base 46 1 (.slice a cs.length cap) cs.length (cs.map (.int .i8))) (hl : cs.length ≤ 16777216) (hw : ∀ x ∈ cs, (Lit.int .i8 x).wf = true) {b : Nat} (hb : b < base) (p q r : Value) :
    Elems .i8 (((w.setCell ⟨b, 0, none⟩ p).setCell ⟨b, 1, none⟩ q).setCell ⟨b, 2, none⟩ r) a cs.length cs := by
  obtain ⟨a', cap', he, hE⟩ := own_form (own_grown h (grownBy_res w b p q r) hb) (by omega) hw
  simp only [Value.slice.injEq] at he
  rw [he.1]; exact hE

set_option maxHeartbeats 2000000 in
theorem doc_part (R C r0 r1 c0 c1 : Nat) (a : Option Addr) (cap : Nat) (xs : List Int) (w : World) (h : Elems .i8 w a (R * C) xs) (hR : R ≤ 4096) (hC : C ≤ 4096) (hr : r0 ≤ r1) (hr1 : r1 ≤ R) (hc : c0 ≤ c1) (hc1 : c1 ≤ C) :
    Calls Try.prog 22 #[.agg #[.int .i64 R, .int .i64 C, .slice a (R * C : Nat) cap], .int .i64 r0, .int .i64 r1, .int .i64 c0, .int .i64 c1] w fun e w' =>
      (∃ v, e = .returned v ∧ MatV w' (r1 - r0) (c1 - c0) (tab (r1 - r0) (c1 - c0) fun i j => xs.getD ((r0 + i) * C + (c0 + j)) 0) v) ∧ Below w.heap.size w w' := by
  have HE := Lib.hid h
  have hsz : (r1 - r0) * (c1 - c0) ≤ 4096 * 4096 := Nat.mul_le_mul (by omega) (by omega)
  obtain ⟨m, hm⟩ : ∃ m, r1 - r0 = m := ⟨_, rfl⟩
  obtain ⟨n, hn⟩ : ∃ n, c1 - c0 = n := ⟨_, rfl⟩
  have em : (r1 : Int) - (r0 : Int) = (m : Int) := by omega
  have en : (c1 : Int) - (c0 : Int) = (n : Int) := by omega
  rw [hm, hn] at hsz ⊢
  have HM := Lib.hid hm
  have HN := Lib.hid hn
  clear h hm hn
  go_enter Try.func22, Try.ntmps22
  go_wp2_with fail
  go_loopw [12] (fun i wr => ∃ (i' : Nat) (u : Value), r0 ≤ i' ∧ i' ≤ r1 ∧ i = .int .i64 i' ∧ Hid (OutInv8 w R C (.slice a (R * C : Nat) cap) m n u (pre n (fun i j => xs.getD ((r0 + i) * C + (c0 + j)) 0) (i' - r0) 0) wr)) (fun i _ => r1 - (intOf i).toNat)
  case atStart => exact ⟨r0, .slice none 0 0, by omega, by omega, rfl, Lib.hid (by rw [Nat.sub_self]; exact outInv8_start w _ _ _ _ _ _ _ _)⟩
  case round =>
    obtain ⟨i', u, hi0, hi1, rfl, hinv⟩ := hrel
    by_cases hlt : i' < r1
    · go_wp2_with fail
      go_loopw [13] (fun j wr => ∃ (j' : Nat) (u : Value), c0 ≤ j' ∧ j' ≤ c1 ∧ j = .int .i64 j' ∧ Hid (OutInv8 w R C (.slice a (R * C : Nat) cap) m n u (pre n (fun i j => xs.getD ((r0 + i) * C + (c0 + j)) 0) (i' - r0) (j' - c0)) wr)) (fun j _ => c1 - (intOf j).toNat)
      case atStart => exact ⟨c0, u, by omega, by omega, rfl, Lib.hid (by rw [Nat.sub_self]; exact hinv.out)⟩
      case round =>
        clear hinv
        obtain ⟨j', u, hj0, hj1, rfl, hinv⟩ := hrel
        by_cases hlt2 : j' < c1
        · have hrc := row_lt (show i' < R by omega) (show j' < C by omega)
          have hl : (pre n (fun i j => xs.getD ((r0 + i) * C + (c0 + j)) 0) (i' - r0) (j' - c0)).length ≤ 16777216 := by
            rw [pre_length]
            have : i' - r0 < m := by have := HM.out; omega
            have := row_lt this (show j' - c0 < n by have := HN.out; omega)
            omega
          have hnx : ∀ x, x = xs.getD (i' * C + j') 0 → pre n (fun i j => xs.getD ((r0 + i) * C + (c0 + j)) 0) (i' - r0) (j' - c0) ++ [x] = pre n (fun i j => xs.getD ((r0 + i) * C + (c0 + j)) 0) (i' - r0) (j' + 1 - c0) := fun x hx => by
            rw [show j' + 1 - c0 = (j' - c0) + 1 by omega, pre_next, hx, show r0 + (i' - r0) = i' by omega, show c0 + (j' - c0) = j' by omega]
          have HL := Lib.hid hl
          have HNX := Lib.hid hnx
          obtain ⟨cs, hcs⟩ : ∃ cs, pre n (fun i j => xs.getD ((r0 + i) * C + (c0 + j)) 0) (i' - r0) (j' - c0) = cs := ⟨_, rfl⟩
          rw [hcs] at hinv HL HNX
          clear hl hnx hcs
          obtain ⟨b, off, x, rfl, hcx, hx, wx⟩ := (HE.out.below hinv.out.bel).at_ hrc
          have HX := Lib.hid hx.out.symm
          obtain ⟨q, hq⟩ : ∃ q, q = i' * C := ⟨_, rfl⟩
          have eq1 : (i' : Int) * (C : Int) = (q : Int) := by rw [hq]; push_cast; rfl
          obtain ⟨q2, hq2⟩ : ∃ q2, q2 = q + j' := ⟨_, rfl⟩
          have eq2 : (q : Int) + (j' : Int) = (q2 : Int) := by rw [hq2]; push_cast; rfl
          obtain ⟨len, hlen⟩ : ∃ len, len = R * C := ⟨_, rfl⟩
          have hp1 : R * C ≤ 4096 * 4096 := Nat.mul_le_mul hR hC
          have z0 : (0 : Int) ≤ (q2 : Int) := by omega
          have z1 : (q2 : Int) < (len : Int) := by rw [← hq] at hrc; omega
          have z2 : (len : Int) ≤ 16777216 := by omega
          have w0 : IntKind.i64.wrap (q : Int) = (q : Int) := IntWalk.i64_in _ (by omega)
          have w1 : IntKind.i64.wrap (q2 : Int) = (q2 : Int) := IntWalk.i64_in _ (by omega)
          rw [← hq, ← hq2] at hcx
          have hinv2 := hinv
          rw [← hlen] at hinv2
          obtain ⟨_, k0, k1, k2, _, _, _⟩ := hinv2.out.b1
          obtain ⟨_, l0, l1, l2, _, _, _⟩ := hinv2.out.b3
          have hS0 : Below wr.heap.size wr wr.drew := (Below.refl _ _).drew
          obtain ⟨g, cap2, w2, hrun0, ⟨_, m0, m1, m2, _, _, _⟩, ⟨_, n0, n1, n2, _, _, _⟩, ⟨_, p0, p1, p2, _, _, _⟩, ⟨_, q0, q1, q2', s0, s1, s2⟩, hnext⟩ := hinv2.out.next hS0 x HL.out
          have hrun : Sem.run Try.prog (Builtin.append_ #[22, 22] 22 #[u, .slice (some ⟨wr.heap.size, 0, none⟩) 1 1]) ((wr.alloc (.cells #[.int .i8 x] 46)).drew) = .ok (.slice (some ⟨g, 0, none⟩) (cs.length + 1) cap2) w2 := hrun0
          rw [hlen] at hnext
          have HNEXT := Lib.hid hnext
          clear hq hq2 hx wx hrun0 hinv2 hlen hnext
          go_wp2_with fail
          go_region_law ((refine step_append_run (by rfl) _ _ _ (by rfl) _ _ (by rfl) (by rfl) hrun ?_))
          all_goals go_wp2
          all_goals
            go_roundw
            case rel => exact ⟨j' + 1, _, by omega, by omega, by go_num, Lib.hid (by rw [← HNX.out x HX.out]; exact HNEXT.out)⟩
            case measure => simp [intOf]; omega
        · obtain rfl : j' = c1 := by omega
          have hnx := hinv.out
          rw [show j' - c0 = n from HN.out, pre_row, show i' - r0 + 1 = i' + 1 - r0 by omega] at hnx
          have HNX := Lib.hid hnx
          clear hnx
          go_wp2
          go_roundw
          case rel => exact ⟨i' + 1, u, by omega, by omega, by go_num, HNX⟩
          case measure => simp [intOf]; omega
    · obtain rfl : i' = r1 := by omega
      have hnx := hinv.out
      rw [show i' - r0 = m from HM.out, pre_tab] at hnx
      have hwf := tab_wfK (kd := .i8) (r := m) (c := n) (f := fun i j => xs.getD ((r0 + i) * C + (c0 + j)) 0) fun i j _ _ => getD_wf HE.out.2.2.1 rfl _
      have hlen := tab_length m n fun i j => xs.getD ((r0 + i) * C + (c0 + j)) 0
      obtain ⟨cs, hcs⟩ : ∃ cs, tab m n (fun i j => xs.getD ((r0 + i) * C + (c0 + j)) 0) = cs := ⟨_, rfl⟩
      rw [hcs] at hnx hwf hlen
      have HCS := Lib.hid hcs
      obtain ⟨h1, k0, k1, k2, f0, f1, f2⟩ := hnx.b2
      obtain ⟨h3, l0, l1, l2, g0, g1, g2⟩ := hnx.b3
      have hown := hnx.own
      have hbel := hnx.bel
      have hG := matV_own (m := m) (n := n) hown (by omega) hwf
      have hne : ∀ k, u.ownBlock = some k → w.heap.size + 1 + 1 + 1 ≤ k := fun k hk => (hown.lt k hk).1
      obtain ⟨ua, ucap, hu, hE2, hca, hcb⟩ := hG
      obtain rfl : u = .slice ua cs.length ucap := by simpa using hu
      have hE3 := own_elems_set8 hown (by omega) hwf (b := w.heap.size + 1) (by omega) (.int .i64 m) (.int .i64 n) (.slice ua cs.length ucap)
      have hbr := below_res hbel (b := w.heap.size + 1) (by omega) (.int .i64 m) (.int .i64 n) (.slice ua cs.length ucap)
      clear hinv hnx hcs hown hlen hu hE2
      go_wp2
      exact bodyPost_ret (v := .agg #[.int .i64 m, .int .i64 n, .slice ua cs.length ucap]) (by simp [results, Try.results22, go_sem, k0, k1, k2]) rfl
        ⟨⟨_, rfl, by rw [HCS.out]; exact ⟨ua, ucap, rfl, hE3, hca, hcb⟩⟩, hbr⟩

/-- what a loop that lays numbers of 64 bits one behind the other keeps -/
def Row64 (w0 wr : World) (v : Value) (k : Nat) (xs : List Int) : Prop :=
  w0.heap.size ≤ wr.heap.size ∧ Below w0.heap.size w0 wr ∧ wr.ownsRow w0.heap.size 2 1 v k (xs.map (.int .i64))
/-- the same of 32 bits -/
def Row32 (w0 wr : World) (v : Value) (k : Nat) (xs : List Int) : Prop :=
  w0.heap.size ≤ wr.heap.size ∧ Below w0.heap.size w0 wr ∧ wr.ownsRow w0.heap.size 21 1 v k (xs.map (.int .i32))

theorem mv_take_snoc (v xs : List Int) (R C k : Nat) (hk : k < R) : (mv v xs R C).take k ++ [wsum (prods (rowOf v C k) xs)] = (mv v xs R C).take (k + 1) := by
  rw [List.take_add_one]
  simp [mv, hk]
theorem prods_take_snoc (xs ys : List Int) (k : Nat) (hx : k < xs.length) (hy : k < ys.length) : (prods xs ys).take k ++ [xs.getD k 0 * ys.getD k 0] = (prods xs ys).take (k + 1) := by
  rw [List.take_add_one]
  simp [prods, List.getElem?_zipWith, List.getElem?_eq_getElem hx, List.getElem?_eq_getElem hy, List.getD]

set_option maxHeartbeats 800000 in
theorem doc_apply_no (g : Gr) (q : Rw) (h : appB g q.n = false) (w : World) (hg : g.In8 w) (hq : q.In .i8 w) :
    Calls Try.prog 14 #[.agg #[.int .i64 g.r, .int .i64 g.c, .slice g.a g.n g.cap], .slice q.a q.n q.cap] w fun e w' => e = .returned (.tuple #[.slice none 0 0, .bool false]) ∧ Below w.heap.size w w' := by
  have a1 := fun o => (Below.refl w.heap.size w).alloc (Nat.le_refl _) o
  have X0 := box3_at (w := w) rfl (.int .i64 g.r) (.int .i64 g.c) (.slice g.a g.n g.cap) 24
  have hn := hg.1.2.1
  have hqn := hq.1.2.1
  cases hf : fitB g.r g.c g.n with
  | false =>
    clear h
    go_enter Try.func14, Try.ntmps14
    go_wp2_with fail
    refine (doc_right _ _ _ _ _ _ hn false hf).mono ?_
    rintro e wb ⟨rfl, hb⟩
    have B1 := below_two (a1 _) hb
    clear hg hq a1 hb hf
    go_wp2
    go_ret2
    exact ⟨rfl, B1⟩
  | true =>
    have he : ¬ (q.n : Int) = g.c := by
      intro e
      unfold appB at h
      rw [hf, decide_eq_true e] at h
      cases h
    have HE : ((q.n : Int) == g.c) = false := beq_eq_false_iff_ne.2 he
    clear h
    go_enter Try.func14, Try.ntmps14
    go_wp2_with fail
    refine (doc_right _ _ _ _ _ _ hn true hf).mono ?_
    rintro e wb ⟨rfl, hb⟩
    have B1 := below_two (a1 _) hb
    obtain ⟨_, c0, c1, c2, _, _, _⟩ := X0.below hb
    clear hg hq a1 hb hf X0
    go_wp2
    go_ret2
    exact ⟨rfl, B1⟩

set_option maxHeartbeats 1600000 in
theorem doc_apply_walk (R C : Nat) (a : Option Addr) (cap : Nat) (v : List Int) (qa : Option Addr) (qcap : Nat) (xs : List Int) (w : World) (hE : Elems .i8 w a (R * C) v) (hX : Elems .i8 w qa C xs) (hR : R ≤ 4096) (hC : C ≤ 4096) (hle : R * C ≤ 1048576) :
    Calls Try.prog 14 #[.agg #[.int .i64 R, .int .i64 C, .slice a (R * C : Nat) cap], .slice qa C qcap] w fun e w' => (∃ ua ucap, e = .returned (.tuple #[.slice ua R ucap, .bool true]) ∧ Elems .i32 w' ua R (mv v xs R C)) ∧ Below w.heap.size w w' := by
  have hf := fitB_nat R C hR hC hle
  have a1 := fun o => (Below.refl w.heap.size w).alloc (Nat.le_refl _) o
  have X0 := box3_at (w := w) rfl (.int .i64 R) (.int .i64 C) (.slice a (R * C : Nat) cap) 24
  have HE := Lib.hid hE
  have HX := Lib.hid hX
  clear hE hX
  go_enter Try.func14, Try.ntmps14
  go_wp2_with fail
  refine (doc_right _ _ _ _ _ _ (by omega) true hf).mono ?_
  rintro e wb ⟨rfl, hb⟩
  have B1 := below_two (a1 _) hb
  have X1 := X0.below hb
  have X1' := X1
  obtain ⟨_, c0, c1, c2, _, _, _⟩ := X1
  clear a1 hb hf X0
  go_wp2_with fail
  clear c0 c1 c2
  go_loopw [6, 7] (fun u i wr => ∃ k : Nat, k ≤ R ∧ i = .int .i64 k ∧ Hid (Row32 wb wr u k ((mv v xs R C).take k))) (fun _ i _ => R - (intOf i).toNat)
  case atStart => exact ⟨0, by omega, rfl, Lib.hid ⟨Nat.le_refl _, Below.refl _ _, own_nil _ _ _⟩⟩
  case round =>
    obtain ⟨k, hk, rfl, hrow⟩ := hrel
    obtain ⟨_, c0, c1, c2, _, _, _⟩ := X1'.below hrow.out.2.1
    by_cases hlt : k < R
    · obtain ⟨w0, hw0⟩ : ∃ w0, w0 = wr := ⟨_, rfl⟩
      subst hw0
      go_wp2_with fail
      clear c0 c1 c2
      go_loopw [8, 9] (fun l j wr => ∃ k' : Nat, k' ≤ C ∧ j = .int .i64 k' ∧ Hid (Row64 w0 wr l k' ((prods (rowOf v C k) xs).take k'))) (fun _ j _ => C - (intOf j).toNat)
      case atStart => exact ⟨0, by omega, rfl, Lib.hid ⟨Nat.le_refl _, Below.refl _ _, own_nil _ _ _⟩⟩
      case round =>
        obtain ⟨k', hk', rfl, hin⟩ := hrel
        have B2 := below_two hrow.out.2.1 hin.out.2.1
        have B3 := below_two B1 B2
        have X2 := X1'.below B2
        have X2' := X2
        have hln : (rowOf v C k).length = C := rowOf_length HE.out.1 hlt
        by_cases hlt2 : k' < C
        · have hrc := row_lt hlt hlt2
          obtain ⟨b, off, x, rfl, hcx, hx, wx⟩ := (HE.out.below B3).at_ hrc
          obtain ⟨b', off', y, rfl, hcy, hy, wy⟩ := (HX.out.below B3).at_ hlt2
          have bx := wf8 wx
          have by_ := wf8 wy
          obtain ⟨p1, p2⟩ := prod8 x y bx by_
          have e1 : IntKind.i64.wrap x = x := IntWalk.i64_in _ (by omega)
          have e2 : IntKind.i64.wrap y = y := IntWalk.i64_in _ (by omega)
          have e3 : IntKind.i64.wrap (x * y) = x * y := IntWalk.i64_in _ (by omega)
          have hsn := prods_take_snoc (rowOf v C k) xs k' (by omega) (by rw [HX.out.1]; exact hlt2)
          rw [rowOf_at _ _ _ _ hlt2, hx.out, hy.out] at hsn
          have HSN := Lib.hid hsn
          obtain ⟨q, hq⟩ : ∃ q, q = k * C := ⟨_, rfl⟩
          have eq1 : (k : Int) * (C : Int) = (q : Int) := by rw [hq]; push_cast; rfl
          obtain ⟨q2, hq2⟩ : ∃ q2, q2 = q + k' := ⟨_, rfl⟩
          have eq2 : (q : Int) + (k' : Int) = (q2 : Int) := by rw [hq2]; push_cast; rfl
          obtain ⟨len, hlen⟩ : ∃ len, len = R * C := ⟨_, rfl⟩
          have z0 : (0 : Int) ≤ (q2 : Int) := by omega
          have z1 : (q2 : Int) < (len : Int) := by rw [← hq] at hrc; omega
          have z2 : (len : Int) ≤ 16777216 := by omega
          have z3 : (0 : Int) ≤ (k' : Int) := by omega
          have z4 : (k' : Int) < (C : Int) := by omega
          have w1 : IntKind.i64.wrap (q : Int) = (q : Int) := IntWalk.i64_in _ (by omega)
          have w2 : IntKind.i64.wrap (q2 : Int) = (q2 : Int) := IntWalk.i64_in _ (by omega)
          rw [← hq, ← hq2] at hcx
          rw [← hlen] at X2 X2'
          have lb : b < w.heap.size := by
            obtain ⟨b3, off3, x3, he, hc3, _, _⟩ := HE.out.at_ hrc
            cases he; exact World.block_lt_of_cell? _ _ hc3
          have lb' : b' < w.heap.size := by
            obtain ⟨b3, off3, x3, he, hc3, _, _⟩ := HX.out.at_ hlt2
            cases he; exact World.block_lt_of_cell? _ _ hc3
          have hsw := B1.size
          have hsw2 := hrow.out.1
          have hsw3 := hin.out.1
          have hown0 : wr.drew.ownsRow w0.heap.size 2 1 u8 k' (((prods (rowOf v C k) xs).take k').map (.int .i64)) := hin.out.2.2
          obtain ⟨g, cap3, w3, hrun0, hown3, hgr3, hlt3'⟩ := run_append_one64 wr.drew w0.heap.size u8 k' ((prods (rowOf v C k) xs).take k') (x * y) hown0 (by omega) (by show w0.heap.size ≤ wr.heap.size; omega)
          have hrun : Sem.run Try.prog (Builtin.append_ #[66, 66] 66 #[u8, .slice (some ⟨wr.heap.size, 0, none⟩) 1 1]) ((wr.alloc (.cells #[.int .i64 (x * y)] 2)).drew) = .ok (.slice (some ⟨g, 0, none⟩) (k' + 1) cap3) w3 := hrun0
          have hne : ∀ b, b < w0.heap.size → some b ≠ u8.ownBlock := fun b hb' e => by
            have := (hin.out.2.2.lt b e.symm).1
            omega
          have hbel3 : Below w0.heap.size w0 w3 := (hin.out.2.1.drew).grown hgr3 (by show w0.heap.size ≤ wr.heap.size; omega) (fun k hk => (hin.out.2.2.lt k hk).1)
          have hgr4 : wr.grownBy w3 u8.ownBlock := (grownBy_drew wr _).trans hgr3
          have hxw := X1'.1
          obtain ⟨_, m0, m1, m2, _, _, _⟩ := X2.kept hgr4 (hne _ (by omega))
          have mx : w3.cell? ⟨b, off + q2, none⟩ = some (.int .i8 x) := by rw [hgr4.cell_far _ (by show b < wr.heap.size; omega) (hne b (by omega))]; exact hcx
          have my : w3.cell? ⟨b', off' + k', none⟩ = some (.int .i8 y) := by rw [hgr4.cell_far _ (by show b' < wr.heap.size; omega) (hne b' (by omega))]; exact hcy
          obtain ⟨_, c0, c1, c2, _, _, _⟩ := X2
          have hown4 := hown3
          rw [HSN.out] at hown4
          have hsz3 := hbel3.size
          have HR := Lib.hid (show Row64 w0 w3 _ _ _ from And.intro hsz3 (And.intro hbel3 hown4))
          have B2s := B2.size
          clear hx hy wx wy hsn hq hq2 hlen hown0 hrun0 hown3 hgr3 hbel3 hown4 hsz3 X2' hin bx by_ p1 p2 HSN hgr4
          go_wp2_with fail
          go_region_held3 (fun w' => w'.cell? ⟨w.heap.size, 0, none⟩ = some (.int .i64 R) ∧ w'.cell? ⟨w.heap.size, 1, none⟩ = some (.int .i64 C) ∧ w'.cell? ⟨w.heap.size, 2, none⟩ = some (.slice (some ⟨b, off, none⟩) len cap) ∧ w'.cell? ⟨b, off + q2, none⟩ = some (.int .i8 x) ∧ w'.cell? ⟨b', off' + k', none⟩ = some (.int .i8 y))
            (first | go_keep | (go_split_ands; refine ⟨?_, ?_, ?_, ?_, ?_⟩ <;> assumption))
            ((refine step_append_run (by rfl) _ _ _ (by rfl) _ _ (by rfl) (by rfl) hrun ?_))
          clear e1 e2 e3 hrun
          go_wp2
          go_roundw
          case rel => exact ⟨k' + 1, by omega, by go_num, HR⟩
          case measure => simp [intOf]; omega
        · obtain rfl : k' = C := by omega
          have hpl : (prods (rowOf v k' k) xs).take k' = prods (rowOf v k' k) xs := List.take_of_length_le (by rw [prods_len]; omega)
          have hpw : ∀ c ∈ prods (rowOf v k' k) xs, (Lit.int .i64 c).wf = true := by
            intro c hc
            obtain ⟨i, hi, rfl⟩ := List.mem_iff_getElem.1 hc
            have hl := prods_len (rowOf v k' k) xs
            have hi1 : i < (rowOf v k' k).length := by omega
            have hi2 : i < xs.length := by omega
            have h1 := wf8 (HE.out.2.2.1 _ (List.mem_of_mem_drop (List.mem_of_mem_take (getD_mem (xs := rowOf v k' k) hi1))))
            have h2 := wf8 (HX.out.2.2.1 _ (getD_mem hi2))
            have h3 := prods_at (rowOf v k' k) xs i hi1 hi2
            rw [List.getD_eq_getElem?_getD, List.getElem?_eq_getElem hi] at h3
            simp only [Option.getD_some] at h3
            rw [h3]
            have := prod8 _ _ h1 h2
            exact WalkArith.wf_i64 (by omega)
          have hown := hin.out.2.2
          rw [hpl] at hown
          obtain ⟨la, lcap, hv, hV⟩ := own_form hown (by omega) hpw
          subst hv
          have hwr := ref_wrap la k' lcap _ _ hV
          have hr2 : Row32 wb wr u6 k ((mv v xs R k').take k) := ⟨by have := hrow.out.1; have := hin.out.1; omega, B2, own_below hrow.out.2.2 hin.out.2.1⟩
          obtain ⟨z, hz⟩ : ∃ z, wsum (prods (rowOf v k' k) xs) = z := ⟨_, rfl⟩
          rw [hz] at hwr
          obtain ⟨g, cap3, w3, hrun, hown3, hgr3, hlt3'⟩ := run_append_one wr wb.heap.size u6 k _ z hr2.2.2 (by omega) hr2.1
          have hbel3 : Below wb.heap.size wb w3 := B2.grown hgr3 hr2.1 (fun k hk => (hr2.2.2.lt k hk).1)
          rw [← hz, mv_take_snoc v xs R k' k hlt] at hown3
          have HR := Lib.hid (show Row32 wb w3 _ _ _ from And.intro hbel3.size (And.intro hbel3 hown3))
          obtain ⟨_, c0, c1, c2, _, _, _⟩ := X2
          clear hpl hpw hown hV hz hown3 hgr3 hbel3 hr2 hin hrow X2'
          go_wp2_with fail
          refine hwr.mono ?_
          rintro e w' ⟨rfl, rfl⟩
          go_wp2_with (at_builtin; refine wpList_append_at (by rfl) _ _ _ (by rfl) _ _ (by rfl) (by rfl) hrun ?_)
          go_roundw
          case rel => exact ⟨k + 1, by omega, by go_num, HR⟩
          case measure => simp [intOf]; omega
    · obtain rfl : k = R := by omega
      have hown := hrow.out.2.2
      rw [List.take_of_length_le (by rw [mv_length]; omega)] at hown
      obtain ⟨ua, ucap, hv, hV⟩ := own_form hown (by omega) (mv_wf _ _ _ _)
      subst hv
      have B2 := below_two B1 hrow.out.2.1
      clear hown hrow
      go_wp2
      go_ret2
      exact ⟨⟨_, _, rfl, hV⟩, B2⟩

theorem doc_apply_yes (g : Gr) (q : Rw) (R C : Nat) (e1 : g.r = R) (e2 : g.c = C) (e3 : g.n = R * C) (e4 : q.n = C) (hR : R ≤ 4096) (hC : C ≤ 4096) (hle : R * C ≤ 1048576) (w : World) (hg : g.In8 w) (hq : q.In .i8 w) :
    Calls Try.prog 14 #[.agg #[.int .i64 g.r, .int .i64 g.c, .slice g.a g.n g.cap], .slice q.a q.n q.cap] w fun e w' => (∃ ua ucap, e = .returned (.tuple #[.slice ua R ucap, .bool true]) ∧ Elems .i32 w' ua R (mv g.v q.v R C)) ∧ Below w.heap.size w w' := by
  obtain ⟨gr, gc, ga, gn, gcap, gv⟩ := g
  obtain ⟨qa, qn, qcap, qv⟩ := q
  simp only at e1 e2 e3 e4 ⊢
  subst e1 e2 e3 e4
  exact doc_apply_walk R qn ga gcap gv qa qcap qv w hg.1 hq.1 hR hC hle

end Go.Proofs.Ytkiedganojaniaa
