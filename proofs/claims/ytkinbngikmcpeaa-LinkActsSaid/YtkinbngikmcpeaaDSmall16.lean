/-
  Contracts of the document's Right, find, Same, and of the law's segs and small.
-/
import Derived.Test.YtkinbngikmcpeaaDLk16
import Derived.Test.YtkinbngikmcpeaaLinkRow16
import Derived.Test.YtkinbngikmcpeaaEpW16
namespace Go.Proofs.Ytkinbngikmcpeaa
open Go.RowKit Go.Maps
set_option linter.unusedVariables false

set_option maxRecDepth 100000 in
theorem dright16 (W Sp R : Int) (w : World) : Calls Try.prog 9 #[.int .i64 W, .int .i64 Sp, .int .i64 R] w fun e w' => e = .returned (.bool (decide ((1 ≤ W ∧ W ≤ 64) ∧ (1 ≤ Sp ∧ Sp ≤ 1000) ∧ (1 ≤ R ∧ R ≤ 4096)))) ∧ w' = w := by
  by_cases g0 : (0 : Int) < W
  rotate_left
  · rw [decide_eq_false (by omega)]
    have n0 : decide ((0 : Int) < W) = false := decide_eq_false g0
    clear g0
    go_enter Try.func9, Try.ntmps9
    go_wp2
    go_ret
    exact ⟨rfl, rfl⟩
  by_cases g1 : W < (65 : Int)
  rotate_left
  · rw [decide_eq_false (by omega)]
    have n1 : decide (W < (65 : Int)) = false := decide_eq_false g1
    clear g1
    go_enter Try.func9, Try.ntmps9
    go_wp2
    go_ret
    exact ⟨rfl, rfl⟩
  by_cases g2 : (0 : Int) < Sp
  rotate_left
  · rw [decide_eq_false (by omega)]
    have n2 : decide ((0 : Int) < Sp) = false := decide_eq_false g2
    clear g2
    go_enter Try.func9, Try.ntmps9
    go_wp2
    go_ret
    exact ⟨rfl, rfl⟩
  by_cases g3 : Sp < (1001 : Int)
  rotate_left
  · rw [decide_eq_false (by omega)]
    have n3 : decide (Sp < (1001 : Int)) = false := decide_eq_false g3
    clear g3
    go_enter Try.func9, Try.ntmps9
    go_wp2
    go_ret
    exact ⟨rfl, rfl⟩
  by_cases g4 : (0 : Int) < R
  rotate_left
  · rw [decide_eq_false (by omega)]
    have n4 : decide ((0 : Int) < R) = false := decide_eq_false g4
    clear g4
    go_enter Try.func9, Try.ntmps9
    go_wp2
    go_ret
    exact ⟨rfl, rfl⟩
  by_cases g5 : R < (4097 : Int)
  rotate_left
  · rw [decide_eq_false (by omega)]
    have n5 : decide (R < (4097 : Int)) = false := decide_eq_false g5
    clear g5
    go_enter Try.func9, Try.ntmps9
    go_wp2
    go_ret
    exact ⟨rfl, rfl⟩
  rw [decide_eq_true (by omega)]
  go_enter Try.func9, Try.ntmps9
  go_wp2
  go_ret
  exact ⟨rfl, rfl⟩

/-- a number's place among the early bodies; -1: it isn't there -/
def FindQ (E : List (Nat × List Int)) (n : Nat) (z : Int) : Prop := z = -1 ∧ findQ E n = none ∨ ∃ (k : Nat) (hk : k < E.length), z = (k : Int) ∧ findQ E n = some E[k] ∧ E[k].1 = n
set_option maxHeartbeats 1600000 in
set_option maxRecDepth 100000 in
theorem dfind16 {w : World} {db base : Nat} {vo ve : Value} {W Sp R : Nat} {st : Lk16} {xs : List Db16} {ys : List Dy16} (h : DLkAt w db base vo ve W Sp R st xs ys) (n : Nat) :
    Calls Try.prog 39 #[.pointer (some ⟨db, 0, none⟩), .int .i64 n] w fun e w' => (∃ z, e = .returned (.int .i64 z) ∧ FindQ st.early n z) ∧ w' = w := by
  obtain ⟨_, ea, ec, rfl⟩ := h.shape
  have c9 : w.cell? ⟨db, 9, none⟩ = some (.slice ea ys.length ec) := h.box.cell 9
  have H0 := Lib.hid h
  have hlen := h.lens.2
  have hsm : ys.length ≤ 64 := by rw [hlen]; have := h.good.early.len; have := h.good.pm.1; omega
  have HL := Lib.hid hlen
  clear h hlen
  obtain ⟨L, hL⟩ : ∃ L, ys.length = L := ⟨_, rfl⟩
  have HLL := Lib.hid hL
  rw [hL] at c9 hsm
  clear hL
  go_enter Try.func39, Try.ntmps39
  go_wp2_with fail
  go_loopw [5] (fun i wr => ∃ k : Nat, k ≤ L ∧ i = .int .i64 k ∧ Hid (∀ j (hj : j < ys.length), j < k → ys[j].n ≠ n) ∧ wr = w) (fun i _ => L - (intOf i).toNat)
  case atStart => exact ⟨0, by omega, rfl, Lib.hid (fun j hj h => by omega), rfl⟩
  case round =>
    obtain ⟨k, hk, rfl, HJ, rfl⟩ := hrel
    by_cases hlt : k < L
    · have hlt2 : (k : Int) < (L : Int) := by omega
      have hky : k < ys.length := by rw [HLL.out]; exact hlt
      obtain ⟨g, c, hv, _, _, hg, _, hc⟩ := H0.out.ear.cells (by omega)
      rw [HLL.out] at hv
      simp only [Value.slice.injEq] at hv
      obtain ⟨rfl, -, rfl⟩ := hv
      have z0 : wr.cell? ⟨g, k * 2, none⟩ = some (.int .i64 (ys[k].n : Nat)) := by
        have := hc (k * 2) (by omega)
        rw [this, show k * 2 = k * 2 + 0 from rfl, flat_at dyCells 2 dyCells_len ys k 0 hky (by omega)]; rfl
      obtain ⟨m, hm⟩ : ∃ m, ys[k].n = m := ⟨_, rfl⟩
      rw [hm] at z0
      have HM := Lib.hid hm
      clear hc hg hm
      by_cases he : m = n
      · have he2 : ((m : Int) == (n : Int)) = true := by simp; omega
        have HF : Hid (FindQ st.early n (k : Int)) := Lib.hid (by
          have hd := H0.out.ee
          have hkE : k < st.early.length := by rw [← HL.out]; exact hky
          have e1 : st.early[k] = (ys[k].n, ys[k].q.v) := by simp only [← hd, dEarly, List.getElem_map]
          refine .inr ⟨k, hkE, rfl, ?_, by rw [e1]; exact HM.out.trans he⟩
          unfold findQ
          rw [List.find?_eq_some_iff_getElem]
          refine ⟨by rw [e1]; simp [HM.out, he], k, hkE, rfl, fun j hj => ?_⟩
          have e2 : st.early[j] = (ys[j].n, ys[j].q.v) := by simp only [← hd, dEarly, List.getElem_map]
          rw [e2]
          have := HJ.out j (by omega) hj
          simpa using this)
        clear he
        go_wp2_with fail
        go_ret
        exact ⟨⟨_, rfl, HF.out⟩, rfl⟩
      · have he2 : ((m : Int) == (n : Int)) = false := by simp; omega
        have he3 : (m == n) = false := by simpa using he
        have HJ2 : Hid (∀ j (hj : j < ys.length), j < k + 1 → ys[j].n ≠ n) := Lib.hid (fun j hj h => by
          rcases Nat.lt_succ_iff_lt_or_eq.1 h with h | rfl
          · exact HJ.out j hj h
          · rw [HM.out]; exact he)
        clear he
        go_wp2_with fail
        go_roundw
        case rel => exact ⟨k + 1, by omega, by go_num, HJ2, trivial⟩
        case measure => simp [intOf]; omega
    · obtain rfl : k = L := by omega
      have HF : Hid (FindQ st.early n (-1)) := Lib.hid (.inl ⟨rfl, findQ_none.2 (fun x hx => by
        rw [← H0.out.ee] at hx
        obtain ⟨y, hy, rfl⟩ := List.mem_map.1 hx
        obtain ⟨j, hj, rfl⟩ := List.getElem_of_mem hy
        exact HJ.out j hj (by have := HLL.out; omega))⟩)
      go_wp2_with fail
      go_ret
      exact ⟨⟨_, rfl, HF.out⟩, rfl⟩

set_option maxHeartbeats 1600000 in
set_option maxRecDepth 100000 in
theorem same16 (x y : Se16) (w : World) (hx : x.q.In .u8 w) (hy : y.q.In .u8 w) (he : sgOf x = sgOf y) :
    Calls Try.prog 32 #[.agg #[.int .i64 x.e, .int .i64 x.s, .int .i64 x.k, .slice x.q.a x.q.n x.q.cap], .agg #[.int .i64 y.e, .int .i64 y.s, .int .i64 y.k, .slice y.q.a y.q.n y.q.cap]] w fun e w' => e = .returned (.bool true) ∧ Below w.heap.size w w' := by
  have e1 : x.e = y.e := congrArg Sg16.e he
  have e2 : x.s = y.s := congrArg Sg16.s he
  have e3 : x.k = y.k := congrArg Sg16.k he
  have e4 : x.q.v = y.q.v := congrArg Sg16.b he
  obtain ⟨xe, xs, xk, xq⟩ := x
  obtain ⟨ye, ys, yk, yq⟩ := y
  simp only at e1 e2 e3 e4 hx hy ⊢
  subst e1 e2 e3
  obtain ⟨s1, hs1⟩ : ∃ s, strOfNums xq.v = s := ⟨_, rfl⟩
  have hb0 : Below w.heap.size w ((w.alloc (.cells #[.int .i64 xe, .int .i64 xs, .int .i64 xk, .slice xq.a xq.n xq.cap] 39)).alloc (.cells #[.int .i64 xe, .int .i64 xs, .int .i64 xk, .slice yq.a yq.n yq.cap] 39)) := ((Below.refl _ _).alloc (Nat.le_refl _) _).alloc (by simp) _
  have X := (box_new w 39 #[.int .i64 xe, .int .i64 xs, .int .i64 xk, .slice xq.a xq.n xq.cap]).alloc (.cells #[.int .i64 xe, .int .i64 xs, .int .i64 xk, .slice yq.a yq.n yq.cap] 39)
  have Y : Box ((w.alloc (.cells #[.int .i64 xe, .int .i64 xs, .int .i64 xk, .slice xq.a xq.n xq.cap] 39)).alloc (.cells #[.int .i64 xe, .int .i64 xs, .int .i64 xk, .slice yq.a yq.n yq.cap] 39)) (w.heap.size + 1) 39 #[.int .i64 xe, .int .i64 xs, .int .i64 xk, .slice yq.a yq.n yq.cap] := box_at (by simp) _ _
  obtain ⟨w2, hw2⟩ : ∃ w2, (w.alloc (.cells #[.int .i64 xe, .int .i64 xs, .int .i64 xk, .slice xq.a xq.n xq.cap] 39)).alloc (.cells #[.int .i64 xe, .int .i64 xs, .int .i64 xk, .slice yq.a yq.n yq.cap] 39) = w2 := ⟨_, rfl⟩
  rw [hw2] at hb0 X Y
  have cx : Sem.run Try.prog (convert 37 9 (.slice xq.a xq.n xq.cap)) w2 = .ok (.string s1) w2 := by rw [← hs1]; exact conv_u8 (hx.below hb0).1
  have cy : Sem.run Try.prog (convert 37 9 (.slice yq.a yq.n yq.cap)) w2 = .ok (.string s1) w2 := by rw [← hs1, e4]; exact conv_u8 (hy.below hb0).1
  have x0 := X.cell 0
  have x1 : w2.cell? ⟨w.heap.size, 0, none⟩ = some (.int .i64 xe) := X.cell 0
  have x2 : w2.cell? ⟨w.heap.size, 1, none⟩ = some (.int .i64 xs) := X.cell 1
  have x3 : w2.cell? ⟨w.heap.size, 2, none⟩ = some (.int .i64 xk) := X.cell 2
  have x4 : w2.cell? ⟨w.heap.size, 3, none⟩ = some (.slice xq.a xq.n xq.cap) := X.cell 3
  have y1 : w2.cell? ⟨w.heap.size + 1, 0, none⟩ = some (.int .i64 xe) := Y.cell 0
  have y2 : w2.cell? ⟨w.heap.size + 1, 1, none⟩ = some (.int .i64 xs) := Y.cell 1
  have y3 : w2.cell? ⟨w.heap.size + 1, 2, none⟩ = some (.int .i64 xk) := Y.cell 2
  have y4 : w2.cell? ⟨w.heap.size + 1, 3, none⟩ = some (.slice yq.a yq.n yq.cap) := Y.cell 3
  have HB := Lib.hid hb0
  clear x0 X Y hb0 hs1 e4 hx hy he
  go_enter Try.func32, Try.ntmps32
  go_wp2_with fail
  go_ret
  exact ⟨ret_bool (by simp), HB.out⟩

set_option maxHeartbeats 1600000 in
set_option maxRecDepth 100000 in
theorem segs16 (w : World) (b1 b2 : Nat) (v1 v2 : Value) (xs ys : List Se16) (hX : SegsAt w b1 v1 xs) (hY : SegsAt w b2 v2 ys) (he : xs.map sgOf = ys.map sgOf) (hn : xs.length ≤ 1000000) :
    Calls Try.prog 13 #[v1, v2] w fun e w' => e = .returned (.bool true) ∧ Below w.heap.size w w' := by
  have hl : ys.length = xs.length := by simpa using (congrArg List.length he).symm
  obtain ⟨a1, c1, rfl, _⟩ := hX.shape
  obtain ⟨a2, c2, rfl, _⟩ := hY.shape
  obtain ⟨L, hL⟩ : ∃ L, xs.length = L := ⟨_, rfl⟩
  have HX := Lib.hid hX
  have HY := Lib.hid hY
  have HE := Lib.hid he
  have HL := Lib.hid (And.intro hL (hl.trans hL))
  rw [hl, hL]
  rw [hL] at hn
  clear hX hY he hl hL
  go_enter Try.func13, Try.ntmps13
  go_wp2_with fail
  go_loopw [5] (fun i wr => ∃ k : Nat, k ≤ L ∧ i = .int .i64 k ∧ Hid (Below w.heap.size w wr)) (fun i _ => L - (intOf i).toNat)
  case atStart => exact ⟨0, by omega, rfl, Lib.hid (Below.refl _ _)⟩
  case round =>
    obtain ⟨k, hk, rfl, HJ⟩ := hrel
    by_cases hlt : k < L
    · have hlt2 : (k : Int) < (L : Int) := by omega
      obtain ⟨g, c, x, hv, hxx, hxi, _, hc⟩ := (HX.out.bel HJ.out).load (j := k) (by have := HL.out.1; omega)
      obtain ⟨g', c', y, hv', hyy, hyi, _, hc'⟩ := (HY.out.bel HJ.out).load (j := k) (by have := HL.out.2; omega)
      rw [HL.out.1] at hv
      rw [HL.out.2] at hv'
      simp only [Value.slice.injEq] at hv hv'
      obtain ⟨rfl, -, rfl⟩ := hv
      obtain ⟨rfl, -, rfl⟩ := hv'
      have hxy : sgOf x = sgOf y := by
        have := congrArg (fun l => l[k]?) HE.out
        simp only [List.getElem?_map] at this
        rw [List.getElem?_eq_getElem (by have := HL.out.1; omega), List.getElem?_eq_getElem (by have := HL.out.2; omega), hxx, hyy] at this
        simpa using this
      have S1 := fun W (hW : Below wr.heap.size wr W) => same16 x y W (hxi.below hW) (hyi.below hW) hxy
      have d0 : wr.cell? ⟨g, k * 4 + 0, none⟩ = some (.int .i64 x.e) := hc 0 (by omega)
      have d1 : wr.cell? ⟨g, k * 4 + 1, none⟩ = some (.int .i64 x.s) := hc 1 (by omega)
      have d2 : wr.cell? ⟨g, k * 4 + 2, none⟩ = some (.int .i64 x.k) := hc 2 (by omega)
      have d3 : wr.cell? ⟨g, k * 4 + 3, none⟩ = some (.slice x.q.a x.q.n x.q.cap) := hc 3 (by omega)
      have e0 : wr.cell? ⟨g', k * 4 + 0, none⟩ = some (.int .i64 y.e) := hc' 0 (by omega)
      have e1 : wr.cell? ⟨g', k * 4 + 1, none⟩ = some (.int .i64 y.s) := hc' 1 (by omega)
      have e2 : wr.cell? ⟨g', k * 4 + 2, none⟩ = some (.int .i64 y.k) := hc' 2 (by omega)
      have e3 : wr.cell? ⟨g', k * 4 + 3, none⟩ = some (.slice y.q.a y.q.n y.q.cap) := hc' 3 (by omega)
      have d0' : wr.cell? ⟨g, k * 4, none⟩ = some (.int .i64 x.e) := d0
      have e0' : wr.cell? ⟨g', k * 4, none⟩ = some (.int .i64 y.e) := e0
      clear hxi hyi hxx hyy hxy hc hc'
      clear d0 e0
      have SD := S1 wr.drew (Below.refl _ wr).drew
      have HJX := Lib.hid HJ.out
      clear S1
      go_upto_region 6 with fail
      refine wp_region_held_drew (S := (fun W => W.cell? ⟨g, k * 4, none⟩ = some (.int .i64 x.e) ∧ W.cell? ⟨g, k * 4 + 1, none⟩ = some (.int .i64 x.s) ∧ W.cell? ⟨g, k * 4 + 2, none⟩ = some (.int .i64 x.k) ∧ W.cell? ⟨g, k * 4 + 3, none⟩ = some (.slice x.q.a x.q.n x.q.cap) ∧ W.cell? ⟨g', k * 4, none⟩ = some (.int .i64 y.e) ∧ W.cell? ⟨g', k * 4 + 1, none⟩ = some (.int .i64 y.s) ∧ W.cell? ⟨g', k * 4 + 2, none⟩ = some (.int .i64 y.k) ∧ W.cell? ⟨g', k * 4 + 3, none⟩ = some (.slice y.q.a y.q.n y.q.cap))) (by kernel_rfl) ?_ (fun hHeld => ?_)
      · (first | go_keep | (go_split_ands; refine ⟨?_, ?_, ?_, ?_, ?_, ?_, ?_, ?_⟩ <;> assumption))
      refine wpAnyH_take (i := 0) (oi := ⟨some 17, _, _, _, _, _⟩) (v := ?_) rfl (by kernel_rfl) (by kernel_rfl) (by kernel_rfl) (fun _ _ _ h => h) (Or.inl ⟨by rfl, ?hy1⟩) hHeld ?rest1
      case hy1 => (intro W hSw; (try dsimp only at hSw); go_simp; (try with_reducible rfl))
      simp only [Act.put, List.setIfInBounds_toArray, List.set_cons_zero, List.set_cons_succ]
      refine wpAnyH_take (i := 1) (oi := ⟨some 18, _, _, _, _, _⟩) (v := ?_) rfl (by kernel_rfl) (by kernel_rfl) (by kernel_rfl) (fun _ _ _ h => h) (Or.inl ⟨by rfl, ?hy2⟩) hHeld ?rest2
      case hy2 => (intro W hSw; (try dsimp only at hSw); go_simp; (try with_reducible rfl))
      simp only [Act.put, List.setIfInBounds_toArray, List.set_cons_zero, List.set_cons_succ]
      refine wpAnyH_take (i := 2) (oi := ⟨some 19, _, _, _, _, _⟩) (v := ?_) rfl (by kernel_rfl) (by kernel_rfl) (by kernel_rfl) (fun _ _ _ h => h) (Or.inl ⟨by rfl, ?hy3⟩) hHeld ?rest3
      case hy3 => (intro W hSw; (try dsimp only at hSw); go_simp; (try with_reducible rfl))
      simp only [Act.put, List.setIfInBounds_toArray, List.set_cons_zero, List.set_cons_succ]
      refine wpAnyH_take (i := 3) (oi := ⟨some 20, _, _, _, _, _⟩) (v := ?_) rfl (by kernel_rfl) (by kernel_rfl) (by kernel_rfl) (fun _ _ _ h => h) (Or.inl ⟨by rfl, ?hy4⟩) hHeld ?rest4
      case hy4 => (intro W hSw; (try dsimp only at hSw); go_simp; (try with_reducible rfl))
      simp only [Act.put, List.setIfInBounds_toArray, List.set_cons_zero, List.set_cons_succ]
      refine wpAnyH_take (i := 4) (oi := ⟨some 21, _, _, _, _, _⟩) (v := ?_) rfl (by kernel_rfl) (by kernel_rfl) (by kernel_rfl) (fun _ _ _ h => h) (Or.inl ⟨by rfl, ?hy5⟩) hHeld ?rest5
      case hy5 => (intro W hSw; (try dsimp only at hSw); go_simp; (try with_reducible rfl))
      simp only [Act.put, List.setIfInBounds_toArray, List.set_cons_zero, List.set_cons_succ]
      refine wpAnyH_take (i := 5) (oi := ⟨some 22, _, _, _, _, _⟩) (v := ?_) rfl (by kernel_rfl) (by kernel_rfl) (by kernel_rfl) (fun _ _ _ h => h) (Or.inl ⟨by rfl, ?hy6⟩) hHeld ?rest6
      case hy6 => (intro W hSw; (try dsimp only at hSw); go_simp; (try with_reducible rfl))
      simp only [Act.put, List.setIfInBounds_toArray, List.set_cons_zero, List.set_cons_succ]
      refine wpAnyH_take (i := 6) (oi := ⟨some 23, _, _, _, _, _⟩) (v := ?_) rfl (by kernel_rfl) (by kernel_rfl) (by kernel_rfl) (fun _ _ _ h => h) (Or.inl ⟨by rfl, ?hy7⟩) hHeld ?rest7
      case hy7 => (intro W hSw; (try dsimp only at hSw); go_simp; (try with_reducible rfl))
      simp only [Act.put, List.setIfInBounds_toArray, List.set_cons_zero, List.set_cons_succ]
      refine wpAnyH_take (i := 7) (oi := ⟨some 24, _, _, _, _, _⟩) (v := ?_) rfl (by kernel_rfl) (by kernel_rfl) (by kernel_rfl) (fun _ _ _ h => h) (Or.inl ⟨by rfl, ?hy8⟩) hHeld ?rest8
      case hy8 => (intro W hSw; (try dsimp only at hSw); go_simp; (try with_reducible rfl))
      simp only [Act.put, List.setIfInBounds_toArray, List.set_cons_zero, List.set_cons_succ]
      refine wpAnyH_ready (rs := [8]) (by kernel_rfl) (by simp) ?_
      refine AllReadyH.cons (o := ⟨some 25, _, _, _, _, _⟩) rfl (fun K hK => ?_) AllReadyH.nil
      go_simp
      go_at_call 32
      refine SD.mono ?_
      rintro e w2 ⟨rfl, hb2⟩
      have HBE := Lib.hid (HJX.out.trans ((below_two (Below.refl _ wr).drew hb2).mono HJX.out.size))
      have hb3 := below_two (Below.refl _ wr).drew hb2
      have f0 : w2.cell? ⟨g, k * 4, none⟩ = some (.int .i64 x.e) := cell_keep d0' hb3
      have f1 : w2.cell? ⟨g, k * 4 + 1, none⟩ = some (.int .i64 x.s) := cell_keep d1 hb3
      have f2 : w2.cell? ⟨g, k * 4 + 2, none⟩ = some (.int .i64 x.k) := cell_keep d2 hb3
      have f3 : w2.cell? ⟨g, k * 4 + 3, none⟩ = some (.slice x.q.a x.q.n x.q.cap) := cell_keep d3 hb3
      have f4 : w2.cell? ⟨g', k * 4, none⟩ = some (.int .i64 y.e) := cell_keep e0' hb3
      have f5 : w2.cell? ⟨g', k * 4 + 1, none⟩ = some (.int .i64 y.s) := cell_keep e1 hb3
      have f6 : w2.cell? ⟨g', k * 4 + 2, none⟩ = some (.int .i64 y.k) := cell_keep e2 hb3
      have f7 : w2.cell? ⟨g', k * 4 + 3, none⟩ = some (.slice y.q.a y.q.n y.q.cap) := cell_keep e3 hb3
      clear hb2 hb3 SD
      refine hK.out _ _ ?_ (fun hNew => ?_)
      · ((try dsimp only); (first | go_keep | (go_split_ands; refine ⟨?_, ?_, ?_, ?_, ?_, ?_, ?_, ?_⟩ <;> assumption)))
      clear hK K hHeld
      have hHeld := hNew
      clear hNew
      try simp only [Act.put, List.setIfInBounds_toArray, List.set_cons_zero, List.set_cons_succ]
      refine wpAnyH_take (i := 9) (oi := ⟨some 26, _, _, _, _, _⟩) (v := ?_) rfl (by kernel_rfl) (by kernel_rfl) (by kernel_rfl) (fun _ _ _ h => h) (Or.inl ⟨by rfl, ?hy10⟩) hHeld ?rest10
      case hy10 => (intro W hSw; (try dsimp only at hSw); go_simp; (try with_reducible rfl))
      simp only [Act.put, List.setIfInBounds_toArray, List.set_cons_zero, List.set_cons_succ]
      refine wpAnyH_done (by kernel_rfl) ?_ _
      go_wp2_with fail
      go_roundw
      case rel => exact ⟨k + 1, by omega, by go_num, HBE⟩
      case measure => simp [intOf]; omega
    · go_wp2_with fail
      go_ret
      exact ⟨rfl, HJ.out⟩

end Go.Proofs.Ytkinbngikmcpeaa
