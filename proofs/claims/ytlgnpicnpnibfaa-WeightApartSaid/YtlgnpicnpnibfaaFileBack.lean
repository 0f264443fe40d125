/-
  A file holds what it was made of; right weights, as one thing.
-/
import Derived.Test.YtlgnpicnpnibfaaParse7
import Derived.Test.YtlgnpicnpnibfaaFlat
import Derived.Test.YtlgnpicnpnibfaaWholes
import Derived.Test.YtlgnpicnpnibfaaGrowMath
namespace Go.Proofs.Ytlgnpicnpnibfaa
open Go.RowKit
set_option linter.unusedVariables false

theorem file_get (s : Sz) (l : List Int) (k : Nat) : (fileL s l).getD (20 + k) 0 = (l.map u8 ++ be4 (csum (bodyL s l))).getD k 0 := by
  have h := headL_len s 6 (by omega)
  unfold fileL bodyL
  rw [List.append_assoc, List.getD_eq_getElem?_getD, List.getElem?_append_right (by rw [h]; omega), h, List.getD_eq_getElem?_getD]
  congr 2
  omega
theorem file_shape (s : Sz) (l : List Int) : sOf (fileL s l) = s := by
  have h : ∀ (r : List Int), sOf (80 :: 69 :: 76 :: 79 :: 84 :: 79 :: 78 :: 49 :: ((s.l / 256 : Nat) : Int) :: ((s.l % 256 : Nat) : Int) :: ((s.w / 256 : Nat) : Int) :: ((s.w % 256 : Nat) : Int) :: ((s.h / 256 : Nat) : Int) :: ((s.h % 256 : Nat) : Int) :: ((s.i / 256 : Nat) : Int) :: ((s.i % 256 : Nat) : Int) :: ((s.v / 256 : Nat) : Int) :: ((s.v % 256 : Nat) : Int) :: ((s.p / 256 : Nat) : Int) :: ((s.p % 256 : Nat) : Int) :: r) = s := by
    intro r
    obtain ⟨l, w, h, i, v, p⟩ := s
    unfold sOf hdN n16
    simp only [List.drop_succ_cons, List.drop_zero, List.getD_cons_zero, List.getD_cons_succ, Nat.mul_zero, Nat.add_zero, Nat.reduceMul, Nat.reduceAdd, Int.toNat_natCast, Sz.mk.injEq]
    omega
  exact h _
theorem file_magic (s : Sz) (l : List Int) : (fileL s l).take 8 = magicL := rfl
theorem sgn_u8 (x : Int) (h : (Lit.int .i8 x).wf = true) : sgn8 (u8 x) = x := by
  have := wf8 h
  unfold sgn8 u8
  split <;> omega
theorem file_fault (s : Sz) (ok : s.Ok) (l : List Int) (hl : l.length = cnt s) : faultN (fileL s l) = 0 := by
  have hb := bodyL_len s l
  have hf := fileL_len s l
  have hcl := csum_lt (bodyL s l)
  unfold faultN
  rw [file_shape, hf, hl, if_neg (by omega), if_neg (by rw [file_magic]; simp), if_neg (by simp [ok]), if_neg (by omega), if_neg (by omega)]
  have e1 : (fileL s l).take (20 + cnt s) = bodyL s l := by unfold fileL; rw [List.take_append_of_le_length (by omega), List.take_of_length_le (by omega)]
  have e2 : (fileL s l).drop (20 + cnt s) = be4 (csum (bodyL s l)) := by unfold fileL; rw [List.drop_append_of_le_length (by omega), List.drop_eq_nil_of_le (by omega)]; rfl
  rw [e1, e2]
  have e3 : n32 (be4 (csum (bodyL s l))) = csum (bodyL s l) := by
    unfold n32 n16 be4
    simp only [List.drop_succ_cons, List.drop_zero, List.getD_cons_zero, List.getD_cons_succ, Int.toNat_natCast]
    omega
  rw [e3, if_neg (by simp)]
theorem file_nums (s : Sz) (l : List Int) (hl : l.length = cnt s) (hw : ∀ x ∈ l, (Lit.int .i8 x).wf = true) : (List.range (cnt s)).map (fileF (fileL s l)) = l := by
  apply List.ext_getElem (by simp [hl])
  intro k h1 h2
  simp only [List.getElem_map, List.getElem_range]
  unfold fileF
  rw [file_get, List.getD_eq_getElem?_getD, List.getElem?_append_left (by simpa using h2), List.getElem?_map, List.getElem?_eq_getElem h2]
  exact sgn_u8 _ (hw _ (List.getElem_mem h2))

/-- right weights of a shape, of the given numbers -/
def RightW (s : Sz) (l : List Int) (W : Wt7) (w : World) : Prop :=
  W.In w ∧ (W.l = s.l ∧ W.w = s.w ∧ W.h = s.h ∧ W.i = s.i ∧ W.v = s.v ∧ W.p = s.p) ∧ wtB s W = true ∧ W.bn ≤ 16 ∧ Small7 W ∧ W.flat = l
theorem RightW.bel {s : Sz} {l : List Int} {W : Wt7} {w w' : World} (h : RightW s l W w) (hb : Below w.heap.size w w') : RightW s l W w' := ⟨h.1.bel hb, h.2⟩
theorem mk_right (s : Sz) (ok : s.Ok) (f : Nat → Int) (hf : ∀ k, (Lit.int .i8 (f k)).wf = true) (G : Nat → Nat) (b : Nat) (w : World) (h : Pool7 s G b (fillV s f (cnt s)) w) : RightW s ((List.range (cnt s)).map f) (mkW s G b (fillV s f (cnt s))) w := by
  obtain ⟨hl, hh, hw, hi, hv, hp⟩ := ok.bd
  have p1 := Nat.mul_le_mul hv.2 hw.2
  have p2 := Nat.mul_le_mul hw.2 hw.2
  have p3 := Nat.mul_le_mul hi.2 hw.2
  have p4 := Nat.mul_le_mul hw.2 hi.2
  refine ⟨h.in_ ok hf, ⟨rfl, rfl, rfl, rfl, rfl, rfl⟩, ?_, hl.2, ⟨⟨?_, ?_, ?_⟩, ?_⟩, mkW_flat s G b _ f (fun j hj => fillV_end s f j hj)⟩
  · unfold wtB mkW
    simp only [List.all_cons, List.all_nil, Bool.and_true]
    simp only [matB, matG, rowG, decide_true, Bool.and_self, Bool.true_and, List.all_map]
    rw [List.all_eq_true]
    intro c _
    simp [bkB, blkG, matB, matG, rowG]
  · show s.v * s.w ≤ 65536; omega
  · show s.w ≤ 65536; omega
  · show s.v * s.w ≤ 65536; omega
  · intro x hx
    obtain ⟨c, hc, rfl⟩ := List.mem_map.1 hx
    exact ⟨by show s.w ≤ 65536; omega, by show s.w ≤ 65536; omega, by show s.w * s.w ≤ 65536; omega, by show s.w * s.w ≤ 65536; omega, by show s.w * s.w ≤ 65536; omega, by show s.w * s.w ≤ 65536; omega, by show s.i * s.w ≤ 65536; omega, by show s.w * s.i ≤ 65536; omega⟩

/-- weights, and no error, are answered -/
def GivesR (s : Sz) (l : List Int) (e : Ending) (w' : World) : Prop := ∃ W : Wt7, e = .returned (.tuple #[.agg W.cells, .int .i64 0]) ∧ RightW s l W w'
theorem grow_right (s : Sz) (ok : s.Ok) (x : Nat) (hx : x < 18446744073709551616) (w : World) :
    Calls Try.prog 18 #[s.val, .int .u64 x] w fun e w' => GivesR s (grownL s x) e w' ∧ Below w.heap.size w w' := by
  refine (grow_yes s ok x hx w).mono ?_
  rintro e w' ⟨⟨G, b, rfl, hP⟩, hb⟩
  exact ⟨⟨_, rfl, mk_right s ok _ (fun k => numK_wf _ _ (seedK_lt x hx _)) G b w' hP⟩, hb⟩
theorem parse_right (s : Sz) (ok : s.Ok) (l : List Int) (hl : l.length = cnt s) (hw : ∀ x ∈ l, (Lit.int .i8 x).wf = true) (b n cap : Nat) (w : World) (h : Elems .u8 w (some ⟨b, 0, none⟩) n (fileL s l)) (hcap : n ≤ cap) (hcap2 : cap ≤ 9223372036854775807) :
    Calls Try.prog 25 #[.slice (some ⟨b, 0, none⟩) n cap] w fun e w' => GivesR s l e w' ∧ Below w.heap.size w w' := by
  refine (parse_yes b n cap _ w h hcap hcap2 (file_fault s ok l hl)).mono ?_
  rw [file_shape]
  rintro e w' ⟨⟨G, g, rfl, hP⟩, hb⟩
  have hm := mk_right s ok (fileF (fileL s l)) (fun k => by
    unfold fileF
    by_cases hk : 20 + k < (fileL s l).length
    · have := wfu8 (h.2.2.1 _ (getD_mem hk))
      exact sgn8_wf _ this.1 this.2
    · rw [List.getD_eq_getElem?_getD, List.getElem?_eq_none (by omega)]
      exact sgn8_wf 0 (by omega) (by omega)) G g w' hP
  rw [file_nums s l hl hw] at hm
  exact ⟨⟨_, rfl, hm⟩, hb⟩

/-- weights of a shape and of nothing else -/
def zeroW (l w h i v p : Int) : Wt7 := ⟨l, w, h, i, v, p, ⟨0, 0, none, 0, 0, []⟩, none, 0, 0, [], ⟨none, 0, 0, []⟩, ⟨0, 0, none, 0, 0, []⟩⟩
theorem zeroW_in {l w h i v p : Int} (W : World) (b : (-9223372036854775808 ≤ l ∧ l ≤ 9223372036854775807) ∧ (-9223372036854775808 ≤ w ∧ w ≤ 9223372036854775807) ∧ (-9223372036854775808 ≤ h ∧ h ≤ 9223372036854775807)) : (zeroW l w h i v p).In W := by
  have hs : Sl none 0 := ⟨fun _ => rfl, fun x e => (by cases e)⟩
  have hg : Gr.In8 W ⟨0, 0, none, 0, 0, []⟩ := ⟨Elems.nil_ _ _ _, Nat.le_refl _, by show (0 : Nat) ≤ _; omega, hs, by decide, by decide, by decide, by decide⟩
  exact ⟨hg, hg, ⟨Elems.nil_ _ _ _, Nat.le_refl _, by show (0 : Nat) ≤ _; omega, hs⟩, ⟨rfl, by show (0 : Nat) ≤ _; omega, (by intro b hb; cases hb), fun h => absurd h (by show ¬ (0 : Nat) < 0; omega)⟩, Nat.le_refl _, by show (0 : Nat) ≤ _; omega, b⟩

theorem bcell7 {W w1 : World} (hb : Below W.heap.size W w1) : (∀ b o, b < W.heap.size → w1.cell? ⟨b, o, none⟩ = W.cell? ⟨b, o, none⟩) ∧ (∀ b o, b < W.heap.size → w1.frozen? ⟨b, o, none⟩ = W.frozen? ⟨b, o, none⟩) :=
  ⟨fun b o h => hb.cell (p := ⟨b, o, none⟩) h, fun b o h => hb.frozen (p := ⟨b, o, none⟩) h⟩

end Go.Proofs.Ytlgnpicnpnibfaa
