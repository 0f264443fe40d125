/-
  Contracts: within, begin, New, Reset, Left, Got, Epoch of the code's link.
-/
import Derived.Test.YtkinbngikmcpeaaLkAt16
import Derived.Test.YtkinbngikmcpeaaSetN
import Derived.Test.YtkinbngikmcpeaaRegZ
import Derived.Deep.CutRange
namespace Go.Proofs.Ytkinbngikmcpeaa
open Go.RowKit Go.Maps
set_option linter.unusedVariables false

set_option maxRecDepth 100000 in
theorem within16 (n m : Int) (w : World) : Calls Try.prog 27 #[.int .i64 n, .int .i64 m] w fun e w' => e = .returned (.bool (decide (1 ≤ n ∧ n ≤ m))) ∧ w' = w := by
  by_cases h1 : 1 ≤ n
  · by_cases h2 : n ≤ m
    · rw [decide_eq_true ⟨h1, h2⟩]
      go_enter Try.func27, Try.ntmps27
      go_wp2
      go_ret
      exact ⟨rfl, rfl⟩
    · rw [decide_eq_false (fun h => h2 h.2)]
      have h3 : decide (n ≤ m) = false := decide_eq_false h2
      go_enter Try.func27, Try.ntmps27
      go_wp2
      go_ret
      exact ⟨rfl, rfl⟩
  · rw [decide_eq_false (fun h => h1 h.1)]
    have h3 : decide (1 ≤ n) = false := decide_eq_false h1
    go_enter Try.func27, Try.ntmps27
    go_wp2
    go_ret
    exact ⟨rfl, rfl⟩

/-- a link as it begins -/
def beginCells (W Sp R : Nat) (ep : Int) (mb : Nat) : Array Value := linkCells W Sp R (new16 ep) (.slice none 0 0) mb
set_option maxRecDepth 100000 in
theorem begin16 (w : World) (lb WW Sp R : Nat) (ep : Int) (cs : Array Value) (hX : Box w lb 77 cs) (h0 : cs[0]? = some (.int .i64 WW)) (h1 : cs[1]? = some (.int .i64 Sp)) (h2 : cs[2]? = some (.int .i64 R)) (hs : cs.size = 10) :
    Calls Try.prog 28 #[.pointer (some ⟨lb, 0, none⟩), .int .i64 ep] w fun e w' => e = .returned (.tuple #[]) ∧ ∃ mb, w.heap.size ≤ mb ∧ Box w' lb 77 (beginCells WW Sp R ep mb) ∧ MapAt w' 3 mb 0 (fun _ => none) ∧ w.grownBy w' (some lb) := by
  have hmm := @run_makeMap Try.prog
  have c0 : w.cell? ⟨lb, 0, none⟩ = some (.int .i64 WW) := (hX.cell 0).trans h0
  have c1 : w.cell? ⟨lb, 1, none⟩ = some (.int .i64 Sp) := (hX.cell 1).trans h1
  have c2 : w.cell? ⟨lb, 2, none⟩ = some (.int .i64 R) := (hX.cell 2).trans h2
  have d0 : ∀ o, (w.alloc o).cell? ⟨lb, 0, none⟩ = some (.int .i64 WW) := fun o => ((hX.alloc o).cell 0).trans h0
  have d1 : ∀ o, (w.alloc o).cell? ⟨lb, 1, none⟩ = some (.int .i64 Sp) := fun o => ((hX.alloc o).cell 1).trans h1
  have d2 : ∀ o, (w.alloc o).cell? ⟨lb, 2, none⟩ = some (.int .i64 R) := fun o => ((hX.alloc o).cell 2).trans h2
  have fr := hX.frozen
  go_enter Try.func28, Try.ntmps28
  go_upto_region 0 with (fail)
  refine wp_region_noPanic ?_
  refine wp_region_Z (S := (fun W => W.cell? ⟨lb, 0, none⟩ = some (.int .i64 WW) ∧ W.cell? ⟨lb, 1, none⟩ = some (.int .i64 Sp) ∧ W.cell? ⟨lb, 2, none⟩ = some (.int .i64 R))) 17 (by kernel_rfl) ?_ (fun hHeld => ?_)
  · (first | go_keep | (go_split_ands; refine ⟨?_, ?_, ?_⟩ <;> assumption))
  refine wpAnyZ_take (i := 0) (oi := ⟨some 4, _, _, _, _, _⟩) (v := ?_) rfl (by kernel_rfl) (by kernel_rfl) (by kernel_rfl) (by kernel_rfl) (fun _ _ _ h => h) (Or.inl ⟨by rfl, ?hy1⟩) hHeld ?rest1
  case hy1 => (intro W hSw; (try dsimp only at hSw); go_simp; (try with_reducible rfl))
  simp only [Act.put, List.setIfInBounds_toArray, List.set_cons_zero, List.set_cons_succ]
  refine wpAnyZ_take (i := 1) (oi := ⟨some 5, _, _, _, _, _⟩) (v := ?_) rfl (by kernel_rfl) (by kernel_rfl) (by kernel_rfl) (by kernel_rfl) (fun _ _ _ h => h) (Or.inl ⟨by rfl, ?hy2⟩) hHeld ?rest2
  case hy2 => (intro W hSw; (try dsimp only at hSw); go_simp; (try with_reducible rfl))
  simp only [Act.put, List.setIfInBounds_toArray, List.set_cons_zero, List.set_cons_succ]
  refine wpAnyZ_take (i := 2) (oi := ⟨some 6, _, _, _, _, _⟩) (v := ?_) rfl (by kernel_rfl) (by kernel_rfl) (by kernel_rfl) (by kernel_rfl) (fun _ _ _ h => h) (Or.inl ⟨by rfl, ?hy3⟩) hHeld ?rest3
  case hy3 => (intro W hSw; (try dsimp only at hSw); go_simp; (try with_reducible rfl))
  simp only [Act.put, List.setIfInBounds_toArray, List.set_cons_zero, List.set_cons_succ]
  refine wpAnyZ_take (i := 3) (oi := ⟨some 7, _, _, _, _, _⟩) (v := ?_) rfl (by kernel_rfl) (by kernel_rfl) (by kernel_rfl) (by kernel_rfl) (fun _ _ _ h => h) (Or.inl ⟨by rfl, ?hy4⟩) hHeld ?rest4
  case hy4 => (intro W hSw; (try dsimp only at hSw); go_simp; (try with_reducible rfl))
  simp only [Act.put, List.setIfInBounds_toArray, List.set_cons_zero, List.set_cons_succ]
  refine wpAnyZ_take (i := 4) (oi := ⟨some 8, _, _, _, _, _⟩) (v := ?_) rfl (by kernel_rfl) (by kernel_rfl) (by kernel_rfl) (by kernel_rfl) (fun _ _ _ h => h) (Or.inl ⟨by rfl, ?hy5⟩) hHeld ?rest5
  case hy5 => (intro W hSw; (try dsimp only at hSw); go_simp; (try with_reducible rfl))
  simp only [Act.put, List.setIfInBounds_toArray, List.set_cons_zero, List.set_cons_succ]
  refine wpAnyZ_take (i := 5) (oi := ⟨some 9, _, _, _, _, _⟩) (v := ?_) rfl (by kernel_rfl) (by kernel_rfl) (by kernel_rfl) (by kernel_rfl) (fun _ _ _ h => h) (Or.inl ⟨by rfl, ?hy6⟩) hHeld ?rest6
  case hy6 => (intro W hSw; (try dsimp only at hSw); go_simp; (try with_reducible rfl))
  simp only [Act.put, List.setIfInBounds_toArray, List.set_cons_zero, List.set_cons_succ]
  refine wpAnyZ_take (i := 6) (oi := ⟨some 10, _, _, _, _, _⟩) (v := ?_) rfl (by kernel_rfl) (by kernel_rfl) (by kernel_rfl) (by kernel_rfl) (fun _ _ _ h => h) (Or.inl ⟨by rfl, ?hy7⟩) hHeld ?rest7
  case hy7 => (intro W hSw; (try dsimp only at hSw); go_simp; (try with_reducible rfl))
  simp only [Act.put, List.setIfInBounds_toArray, List.set_cons_zero, List.set_cons_succ]
  refine wpAnyZ_take (i := 7) (oi := ⟨some 11, _, _, _, _, _⟩) (v := ?_) rfl (by kernel_rfl) (by kernel_rfl) (by kernel_rfl) (by kernel_rfl) (fun _ _ _ h => h) (Or.inl ⟨by rfl, ?hy8⟩) hHeld ?rest8
  case hy8 => (intro W hSw; (try dsimp only at hSw); go_simp; (try with_reducible rfl))
  simp only [Act.put, List.setIfInBounds_toArray, List.set_cons_zero, List.set_cons_succ]
  refine wpAnyZ_take (i := 8) (oi := ⟨some 12, _, _, _, _, _⟩) (v := ?_) rfl (by kernel_rfl) (by kernel_rfl) (by kernel_rfl) (by kernel_rfl) (fun _ _ _ h => h) (Or.inl ⟨by rfl, ?hy9⟩) hHeld ?rest9
  case hy9 => (intro W hSw; (try dsimp only at hSw); go_simp; (try with_reducible rfl))
  simp only [Act.put, List.setIfInBounds_toArray, List.set_cons_zero, List.set_cons_succ]
  refine wpAnyZ_take (i := 9) (oi := ⟨some 13, _, _, _, _, _⟩) (v := ?_) rfl (by kernel_rfl) (by kernel_rfl) (by kernel_rfl) (by kernel_rfl) (fun _ _ _ h => h) (Or.inl ⟨by rfl, ?hy10⟩) hHeld ?rest10
  case hy10 => (intro W hSw; (try dsimp only at hSw); go_simp; (try with_reducible rfl))
  simp only [Act.put, List.setIfInBounds_toArray, List.set_cons_zero, List.set_cons_succ]
  refine wpAnyZ_take (i := 10) (oi := ⟨some 14, _, _, _, _, _⟩) (v := ?_) rfl (by kernel_rfl) (by kernel_rfl) (by kernel_rfl) (by kernel_rfl) (fun _ _ _ h => h) (Or.inl ⟨by rfl, ?hy11⟩) hHeld ?rest11
  case hy11 => (intro W hSw; (try dsimp only at hSw); go_simp; (try with_reducible rfl))
  simp only [Act.put, List.setIfInBounds_toArray, List.set_cons_zero, List.set_cons_succ]
  refine wpAnyZ_take (i := 11) (oi := ⟨some 15, _, _, _, _, _⟩) (v := ?_) rfl (by kernel_rfl) (by kernel_rfl) (by kernel_rfl) (by kernel_rfl) (fun _ _ _ h => h) (Or.inl ⟨by rfl, ?hy12⟩) hHeld ?rest12
  case hy12 => (intro W hSw; (try dsimp only at hSw); go_simp; (try with_reducible rfl))
  simp only [Act.put, List.setIfInBounds_toArray, List.set_cons_zero, List.set_cons_succ]
  refine wpAnyZ_take (i := 12) (oi := ⟨some 16, _, _, _, _, _⟩) (v := ?_) rfl (by kernel_rfl) (by kernel_rfl) (by kernel_rfl) (by kernel_rfl) (fun _ _ _ h => h) (Or.inl ⟨by rfl, ?hy13⟩) hHeld ?rest13
  case hy13 => (intro W hSw; (try dsimp only at hSw); go_simp; (try with_reducible rfl))
  simp only [Act.put, List.setIfInBounds_toArray, List.set_cons_zero, List.set_cons_succ]
  refine wpAnyZ_take (i := 13) (oi := ⟨some 17, _, _, _, _, _⟩) (v := ?_) rfl (by kernel_rfl) (by kernel_rfl) (by kernel_rfl) (by kernel_rfl) (fun _ _ _ h => h) (Or.inl ⟨by rfl, ?hy14⟩) hHeld ?rest14
  case hy14 => (intro W hSw; (try dsimp only at hSw); go_simp; (try with_reducible rfl))
  simp only [Act.put, List.setIfInBounds_toArray, List.set_cons_zero, List.set_cons_succ]
  refine wpAnyZ_ready (rs := [14]) (by kernel_rfl) (by simp) ?_
  refine (AllReadyZ.cons (o := ⟨some 18, _, _, _, _, _⟩) rfl (fun K hK => ?_) AllReadyZ.nil)
  go_simp
  refine hK.out _ _ ?_ (fun hNew => ?_)
  · ((try dsimp only); (first | go_keep | (go_split_ands; refine ⟨?_, ?_, ?_⟩ <;> assumption)))
  clear hK K hHeld
  have hHeld := hNew
  clear hNew
  try simp only [Act.put, List.setIfInBounds_toArray, List.set_cons_zero, List.set_cons_succ]
  refine wpAnyZ_take (i := 15) (oi := ⟨some 19, _, _, _, _, _⟩) (v := ?_) rfl (by kernel_rfl) (by kernel_rfl) (by kernel_rfl) (by kernel_rfl) (fun _ _ _ h => h) (Or.inl ⟨by rfl, ?hy15⟩) hHeld ?rest15
  case hy15 => (intro W hSw; (try dsimp only at hSw); go_simp; (try with_reducible rfl))
  simp only [Act.put, List.setIfInBounds_toArray, List.set_cons_zero, List.set_cons_succ]
  refine wpAnyZ_take (i := 16) (oi := ⟨some 20, _, _, _, _, _⟩) (v := ?_) rfl (by kernel_rfl) (by kernel_rfl) (by kernel_rfl) (by kernel_rfl) (fun _ _ _ h => h) (Or.inl ⟨by rfl, ?hy16⟩) hHeld ?rest16
  case hy16 => (intro W hSw; (try dsimp only at hSw); go_simp; (try with_reducible rfl))
  simp only [Act.put, List.setIfInBounds_toArray, List.set_cons_zero, List.set_cons_succ]
  refine wpAnyZ_ready (rs := [17]) (by kernel_rfl) (by simp) ?_
  refine AllReadyZ.last (o := ⟨none, _, _, _, _, _⟩) rfl (fun K hK => ?_) AllReadyZ.nil
  have hX2 : Box _ lb 77 cs := (hX.drew.alloc (.map #[] 0))
  refine wp_store_row 77 _ _ rfl lb (beginCells WW Sp R ep w.heap.size) rfl rfl 77 _ hX2 (by kernel_rfl) hs (by simp [beginCells, linkCells, Value.oneCell']) ?_
  refine hK.out _ _ ?_
  clear hK K hHeld
  try simp only [Act.put]
  refine wpAnyZ_done (by kernel_rfl) ?_ _
  refine NoPanic.normal ?_
  refine bodyPost_end (v := .tuple #[]) (results_none rfl _ _ _) rfl ⟨rfl, w.heap.size, Nat.le_refl _, ?_, ?_, ?_⟩
  · exact Box.setRow hX2
  · exact ((mapAt_made w 3 rfl).drew).kept (grownBy_setRow _ _ _) (fun e => by have := hX.lt; have := Option.some.inj e; omega)
  · have h1 := World.grownBy_alloc w (.map #[] 0) (some lb)
    have h2 := grownBy_setRow (w.alloc (.map #[] 0)).drew lb (beginCells WW Sp R ep w.heap.size)
    exact ⟨h2.os.trans h1.os, h2.tape.trans h1.tape, h2.output.trans h1.output, Nat.le_trans h1.size h2.size, fun k hk hne => (h2.block k (by simpa using Nat.lt_of_lt_of_le hk h1.size) hne).trans (h1.block k hk hne)⟩

theorem begin_at {w : World} {lb mb W Sp R : Nat} {ep : Int} (hX : Box w lb 77 (beginCells W Sp R ep mb)) (hM : MapAt w 3 mb 0 (fun _ => none)) (hp : (1 ≤ W ∧ W ≤ 64) ∧ (1 ≤ Sp ∧ Sp ≤ 1000) ∧ (1 ≤ R ∧ R ≤ 4096)) (he : 0 ≤ ep ∧ ep < 1099511627776) :
    LinkAt w ⟨lb, mb, .slice none 0 0⟩ W Sp R (new16 ep) :=
  ⟨hX, ⟨[], rfl, listAt_nil _ _ _ _ _, by simp⟩, ⟨_, hM, fun n => rfl, fun n x h => by simp [new16, findQ] at h⟩, good_new hp he⟩

def PmOk (W Sp R : Int) : Prop := (1 ≤ W ∧ W ≤ 64) ∧ (1 ≤ Sp ∧ Sp ≤ 1000) ∧ (1 ≤ R ∧ R ≤ 4096)
set_option maxRecDepth 100000 in
theorem new16_no (W Sp R : Int) (h : ¬ PmOk W Sp R) (w : World) : Calls Try.prog 8 #[.int .i64 W, .int .i64 Sp, .int .i64 R] w fun e w' => e = .returned (.tuple #[.pointer none, .int .i64 2]) ∧ Below w.heap.size w w' := by
  have k1 := fun w => within16 W 64 w
  have k2 := fun w => within16 Sp 1000 w
  have k3 := fun w => within16 R 4096 w
  unfold PmOk at h
  by_cases a1 : 1 ≤ W ∧ W ≤ 64
  · rw [decide_eq_true a1] at k1
    by_cases a2 : 1 ≤ Sp ∧ Sp ≤ 1000
    · rw [decide_eq_true a2] at k2
      have a3 : ¬ (1 ≤ R ∧ R ≤ 4096) := fun x => h ⟨a1, a2, x⟩
      rw [decide_eq_false a3] at k3
      clear h a1 a2 a3
      go_enter Try.func8, Try.ntmps8
      go_wp2_with fail
      refine (k1 _).mono ?_
      rintro e w1 ⟨rfl, rfl⟩
      go_wp2_with fail
      refine (k2 _).mono ?_
      rintro e w1 ⟨rfl, rfl⟩
      go_wp2_with fail
      refine (k3 _).mono ?_
      rintro e w1 ⟨rfl, rfl⟩
      go_wp2
      exact bodyPost_ret (v := .tuple #[.pointer none, .int .i64 2]) (by simp [results, Try.results8, go_sem]) rfl ⟨rfl, Below.refl _ _⟩
    · rw [decide_eq_false a2] at k2
      clear h a1 a2 k3
      go_enter Try.func8, Try.ntmps8
      go_wp2_with fail
      refine (k1 _).mono ?_
      rintro e w1 ⟨rfl, rfl⟩
      go_wp2_with fail
      refine (k2 _).mono ?_
      rintro e w1 ⟨rfl, rfl⟩
      go_wp2
      exact bodyPost_ret (v := .tuple #[.pointer none, .int .i64 2]) (by simp [results, Try.results8, go_sem]) rfl ⟨rfl, Below.refl _ _⟩
  · rw [decide_eq_false a1] at k1
    clear h a1 k2 k3
    go_enter Try.func8, Try.ntmps8
    go_wp2_with fail
    refine (k1 _).mono ?_
    rintro e w1 ⟨rfl, rfl⟩
    go_wp2
    exact bodyPost_ret (v := .tuple #[.pointer none, .int .i64 2]) (by simp [results, Try.results8, go_sem]) rfl ⟨rfl, Below.refl _ _⟩

set_option maxRecDepth 100000 in
theorem new16_yes (W Sp R : Nat) (h : (1 ≤ W ∧ W ≤ 64) ∧ (1 ≤ Sp ∧ Sp ≤ 1000) ∧ (1 ≤ R ∧ R ≤ 4096)) (w : World) :
    Calls Try.prog 8 #[.int .i64 W, .int .i64 Sp, .int .i64 R] w fun e w' => ∃ f, e = .returned (.tuple #[.pointer (some ⟨f.lb, 0, none⟩), .int .i64 0]) ∧ LinkAt w' f W Sp R (new16 0) ∧ (∀ b, f.has b → w.heap.size ≤ b) ∧ Below w.heap.size w w' := by
  have k1 := fun w => within16 W 64 w
  have k2 := fun w => within16 Sp 1000 w
  have k3 := fun w => within16 R 4096 w
  rw [decide_eq_true (by omega)] at k1 k2 k3
  have HP := Lib.hid h
  clear h
  go_enter Try.func8, Try.ntmps8
  go_wp2_with fail
  refine (k1 _).mono ?_
  rintro e w1 ⟨rfl, rfl⟩
  go_wp2_with fail
  refine (k2 _).mono ?_
  rintro e w1 ⟨rfl, rfl⟩
  go_wp2_with fail
  refine (k3 _).mono ?_
  rintro e w1 ⟨rfl, rfl⟩
  go_wp2_with fail
  refine (begin16 _ w1.heap.size W Sp R 0 _ (box_new w1 _ _) rfl rfl rfl rfl).mono ?_
  rintro e w2 ⟨rfl, mb, hmb, hX, hM, hg⟩
  have HR : Hid (LinkAt w2 ⟨w1.heap.size, mb, .slice none 0 0⟩ W Sp R (new16 0) ∧ (∀ b, Foot.has ⟨w1.heap.size, mb, .slice none 0 0⟩ b → w1.heap.size ≤ b) ∧ Below w1.heap.size w1 w2) := Lib.hid ⟨begin_at hX hM HP.out (by omega), (by
      rintro b (rfl | rfl | h)
      · exact Nat.le_refl _
      · exact Nat.le_trans (by simp) hmb
      · simp [Value.ownBlock] at h), ((Below.refl _ w1).alloc (Nat.le_refl _) _).grown hg (by simp) (fun k hk => by cases hk; exact Nat.le_refl _)⟩
  clear hX hM hg hmb
  go_wp2_with fail
  exact bodyPost_ret (v := .tuple #[.pointer (some ⟨w1.heap.size, 0, none⟩), .int .i64 0]) (by simp [results, Try.results8, go_sem]) rfl ⟨_, rfl, HR.out⟩

def resetE (st : Lk16) (ep : Int) : Int × Lk16 := if ep ≤ st.ep ∨ 1099511627776 ≤ ep then (160, st) else (0, new16 ep)
set_option maxRecDepth 100000 in
theorem reset16 {w : World} {f : Foot} {W Sp R : Nat} {st : Lk16} (h : LinkAt w f W Sp R st) (ep : Int) :
    Calls Try.prog 19 #[.pointer (some ⟨f.lb, 0, none⟩), .int .i64 ep] w fun e w' => e = .returned (.int .i64 (resetE st ep).1) ∧ Ends w w' f W Sp R (resetE st ep).2 := by
  have c0 : w.cell? ⟨f.lb, 3, none⟩ = some (.int .i64 st.ep) := h.box.cell 3
  have HL := Lib.hid h
  by_cases h1 : ep ≤ st.ep
  · have e1 : resetE st ep = (160, st) := by unfold resetE; rw [if_pos (.inl h1)]
    rw [e1]
    clear h e1
    go_enter Try.func19, Try.ntmps19
    go_wp2
    go_ret
    exact ⟨rfl, HL.out.same (Below.refl _ _)⟩
  · have h2 : decide (ep ≤ st.ep) = false := decide_eq_false h1
    by_cases h3 : 1099511627776 ≤ ep
    · have e1 : resetE st ep = (160, st) := by unfold resetE; rw [if_pos (.inr h3)]
      rw [e1]
      clear h e1 h1
      go_enter Try.func19, Try.ntmps19
      go_wp2
      go_ret
      exact ⟨rfl, HL.out.same (Below.refl _ _)⟩
    · have h4 : decide (1099511627776 ≤ ep) = false := decide_eq_false h3
      have e1 : resetE st ep = (0, new16 ep) := by unfold resetE; rw [if_neg (by omega)]
      rw [e1]
      have B1 := begin16 w f.lb W Sp R ep _ h.box rfl rfl rfl rfl
      have HE : Hid (0 ≤ ep ∧ ep < 1099511627776) := Lib.hid (by have := h.good.ep; omega)
      clear h e1 h1 h3
      go_enter Try.func19, Try.ntmps19
      go_wp2_with fail
      refine B1.mono ?_
      rintro e w2 ⟨rfl, mb, hmb, hX, hM, hg⟩
      have HR : Hid (Ends w w2 f W Sp R (new16 ep)) := Lib.hid ⟨⟨f.lb, mb, .slice none 0 0⟩, begin_at hX hM HL.out.good.pm HE.out, ⟨rfl, (by
        rintro b (rfl | rfl | h)
        · exact .inl (.inl rfl)
        · exact .inr hmb
        · simp [Value.ownBlock] at h)⟩, Moves.of_row hg (fun b hb => by cases hb; exact ⟨.inl rfl, HL.out.ok _ (.inl rfl)⟩)⟩
      clear hX hM hg hmb B1
      go_wp2
      go_ret
      exact ⟨rfl, HR.out⟩
set_option maxRecDepth 100000 in
theorem left16 {w : World} {f : Foot} {W Sp R : Nat} {st : Lk16} (h : LinkAt w f W Sp R st) :
    Calls Try.prog 21 #[.pointer (some ⟨f.lb, 0, none⟩)] w fun e w' => e = .returned (.int .i64 st.out.length) ∧ w' = w := by
  obtain ⟨a, c, hv⟩ := h.shape
  have c0 : w.cell? ⟨f.lb, 4, none⟩ = some (.slice a st.out.length c) := by rw [← hv]; exact h.box.cell 4
  clear h hv
  go_enter Try.func21, Try.ntmps21
  go_wp2
  go_ret
  exact ⟨rfl, rfl⟩
set_option maxRecDepth 100000 in
theorem got16 {w : World} {f : Foot} {W Sp R : Nat} {st : Lk16} (h : LinkAt w f W Sp R st) :
    Calls Try.prog 22 #[.pointer (some ⟨f.lb, 0, none⟩)] w fun e w' => e = .returned (.int .i64 st.got) ∧ w' = w := by
  have c0 : w.cell? ⟨f.lb, 7, none⟩ = some (.int .i64 st.got) := h.box.cell 7
  clear h
  go_enter Try.func22, Try.ntmps22
  go_wp2
  go_ret
  exact ⟨rfl, rfl⟩
set_option maxRecDepth 100000 in
theorem epoch16 {w : World} {f : Foot} {W Sp R : Nat} {st : Lk16} (h : LinkAt w f W Sp R st) :
    Calls Try.prog 23 #[.pointer (some ⟨f.lb, 0, none⟩)] w fun e w' => e = .returned (.int .i64 st.ep) ∧ w' = w := by
  have c0 : w.cell? ⟨f.lb, 3, none⟩ = some (.int .i64 st.ep) := h.box.cell 3
  clear h
  go_enter Try.func23, Try.ntmps23
  go_wp2
  go_ret
  exact ⟨rfl, rfl⟩

end Go.Proofs.Ytkinbngikmcpeaa
