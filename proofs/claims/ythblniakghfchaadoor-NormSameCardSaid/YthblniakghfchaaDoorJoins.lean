/-
  Contracts of Gate and Join, and of the document's Join: rows in new memory; nothing else turns.
-/
import Derived.Test.YthblniakghfchaaDoorNorms
import Derived.Test.YthblniakghfchaaDoorRefNorm
import Derived.Test.YthblniakghfchaaDoorSums
import Derived.Test.YthblniakghfchaaDoorScale
import Derived.Deep.RegionHeld3
namespace Go.Proofs.YthblniakghfchaaDoor
open Go.RowKit
set_option linter.unusedVariables false

/-- what is let through -/
def gate1 (x : Int) : Int := if 0 ≤ x then x else 0
theorem gate1_wf {x : Int} (h : (Lit.int .i8 x).wf = true) : (Lit.int .i8 (gate1 x)).wf = true := by
  have := wf8 h
  unfold gate1
  exact WalkArith.wf_i8 (by split <;> omega)

set_option maxHeartbeats 400000 in
theorem gates (a : Option Addr) (n cap : Nat) (xs : List Int) (w : World) (h : Elems .i8 w a n xs) (hn : n ≤ 16777216) :
    Calls Tryd.prog 17 #[.slice a n cap] w fun e w' => e = .returned (.slice (some ⟨w.heap.size, 0, none⟩) n n) ∧ Elems .i8 w' (some ⟨w.heap.size, 0, none⟩) n (xs.map gate1) ∧ Below w.heap.size w w' := by
  have hmk := run_make_row' (P := Tryd.prog) 22 39 (.int .i8 0) 1 Tryd.underlying22 info8 rfl .i64 .i64 n (by omega) (by omega)
  go_enter Tryd.func17, Tryd.ntmps17
  go_wp2
  go_loopw [11] (fun i wr => ∃ (k : Nat) (cs : List Int), k ≤ n ∧ i = .int .i64 k ∧ MineK .i8 wr w.heap.size 39 cs ∧ Below w.heap.size w wr ∧ Hid (FilledBy (fun i => gate1 (xs.getD i 0)) n k cs)) (fun i _ => n - (intOf i).toNat)
  case atStart => exact ⟨0, List.replicate n 0, by omega, rfl, mine_made .i8 w 39 n rfl, (Below.refl _ _).alloc (Nat.le_refl _) _, Lib.hid (filledBy_start _ n)⟩
  case round =>
    obtain ⟨k, cs, hk, rfl, hmine, hbel, hfil⟩ := hrel
    by_cases hlt : k < n
    · obtain ⟨b, off, v, rfl, hc, hv, wv⟩ := (h.below hbel).at_ hlt
      have hl := hfil.out.1
      have hold := hmine.cell (k := k) (by omega)
      have hf := hmine.frozen k
      have hst := Lib.hid (filledBy_step hfil.out hlt)
      simp only [hv.out] at hst
      have hnew := hmine.set k (gate1 v)
      have hbel' := hbel.setCell (p := ⟨w.heap.size, k, none⟩) (Nat.le_refl _) (.int .i8 (gate1 v))
      generalize cs.getD k 0 = c at hold
      by_cases h0 : v < 0
      · have e : gate1 v = 0 := by unfold gate1; rw [if_neg (by omega)]
        rw [e] at hst hnew hbel'
        clear hv hl hfil hmine hbel hmk h e wv
        go_wp2
        go_roundw
        case rel => exact ⟨k + 1, _, by omega, by go_num, hnew, hbel', hst⟩
        case measure => simp [intOf]; omega
      · have e : gate1 v = v := by unfold gate1; rw [if_pos (by omega)]
        rw [e] at hst hnew hbel'
        clear hv hl hfil hmine hbel hmk h e wv
        go_wp2
        go_roundw
        case rel => exact ⟨k + 1, _, by omega, by go_num, hnew, hbel', hst⟩
        case measure => simp [intOf]; omega
    · obtain rfl : k = n := by omega
      have he := filledBy_end (g := gate1) hfil.out h.1 (fun i _ => rfl)
      have hE := hmine.elems (n := k) hfil.out.1 (by omega) (by rw [he]; intro c hc; obtain ⟨x, hx, rfl⟩ := List.mem_map.1 hc; exact gate1_wf (h.2.2.1 x hx))
      rw [he] at hE
      have HE := Lib.hid hE
      clear he hE hmine hfil h
      go_wp2
      go_ret
      exact ⟨rfl, HE.out, hbel⟩

/-- x, and what is brought down of y -/
def scl (b s y : Int) : Int := near (shr (y * b) s) (-2147483648) 2147483647
def join1 (b s x y : Int) : Int := wrap32 (x + scl b s y)
def joinL (b s : Int) (xs ys : List Int) (n : Nat) : List Int := (List.range n).map fun i => join1 b s (xs.getD i 0) (ys.getD i 0)
theorem scl_bd (b s y : Int) : -2147483648 ≤ scl b s y ∧ scl b s y ≤ 2147483647 := near_in _ _ _ (by decide)
theorem join1_wf (b s x y : Int) : (Lit.int .i32 (join1 b s x y)).wf = true := wrap32_wf _
theorem joinL_wf (b s : Int) (xs ys : List Int) (n : Nat) : ∀ c ∈ joinL b s xs ys n, (Lit.int .i32 c).wf = true := by
  intro c hc
  obtain ⟨i, _, rfl⟩ := List.mem_map.1 hc
  exact join1_wf _ _ _ _

theorem join_no (xa ya : Option Addr) (n m xcap ycap : Nat) (b s : Int) (h : n ≠ m) (hn : n ≤ 9223372036854775807) (hm : m ≤ 9223372036854775807) (w : World) :
    Calls Tryd.prog 20 #[.slice xa n xcap, .slice ya m ycap, .int .i32 b, .int .i64 s] w fun e w' => e = .returned (.tuple #[.slice none 0 0, .int .i64 30]) ∧ w = w' := by
  have h' : ((n : Int) != (m : Int)) = true := by simp; omega
  clear h
  go_enter Tryd.func20, Tryd.ntmps20
  go_wp2
  go_ret2
  exact ⟨rfl, rfl⟩

set_option maxHeartbeats 1000000 in
theorem join_yes (xa ya : Option Addr) (n xcap ycap : Nat) (b s : Int) (xs ys : List Int) (w : World) (hx : Elems .i32 w xa n xs) (hy : Elems .i32 w ya n ys) (hn : n ≤ 16777216) (b1 : -2147483648 ≤ b) (b2 : b ≤ 2147483647) :
    Calls Tryd.prog 20 #[.slice xa n xcap, .slice ya n ycap, .int .i32 b, .int .i64 s] w fun e w' => (∃ g, e = .returned (.tuple #[.slice (some ⟨g, 0, none⟩) n n, .int .i64 0]) ∧ Elems .i32 w' (some ⟨g, 0, none⟩) n (joinL b s xs ys n)) ∧ Below w.heap.size w w' := by
  have hmk := run_make_row' (P := Tryd.prog) 23 21 (.int .i32 0) 4 Tryd.underlying23 info_int32 rfl .i64 .i64 n (by omega) (by omega)
  have hne : ((n : Int) != (n : Int)) = false := by simp
  go_enter Tryd.func20, Tryd.ntmps20
  go_wp2
  go_loopw [22] (fun i wr => ∃ (k : Nat) (cs : List Int), k ≤ n ∧ i = .int .i64 k ∧ MineK .i32 wr w.heap.size 21 cs ∧ Below w.heap.size w wr ∧ Hid (FilledBy (fun i => join1 b s (xs.getD i 0) (ys.getD i 0)) n k cs)) (fun i _ => n - (intOf i).toNat)
  case atStart => exact ⟨0, List.replicate n 0, by omega, rfl, mine_made .i32 w 21 n rfl, (Below.refl _ _).alloc (Nat.le_refl _) _, Lib.hid (filledBy_start _ n)⟩
  case round =>
    clear hne
    obtain ⟨k, cs, hk, rfl, hmine, hbel, hfil⟩ := hrel
    by_cases hlt : k < n
    · obtain ⟨bx, ox, v, rfl, hc, hv, wv⟩ := (hx.below hbel).at_ hlt
      obtain ⟨bY, oY, u, rfl, hc2, hu, wu⟩ := (hy.below hbel).at_ hlt
      obtain ⟨v1, v2⟩ := wf32 wv
      obtain ⟨u1, u2⟩ := wf32 wu
      have hsz := hbel.size
      have hl := hfil.out.1
      have hst := Lib.hid (filledBy_step hfil.out hlt)
      simp only [hv.out, hu.out] at hst
      have hz := scl_bd b s u
      have hsc : ∀ w, Calls Tryd.prog 39 #[.int .i32 u, .int .i32 b, .int .i64 s] w fun e w' => e = .returned (.int .i32 (scl b s u)) ∧ w = w' := fun w => scale u b s u1 u2 b1 b2 w
      have hval : join1 b s v u = wsum [v, scl b s u] := by unfold join1 wsum; simp
      generalize scl b s u = z at hsc hz hval
      have hsu : ∀ (W : World) (g : Nat), W.cell? ⟨g, 0, none⟩ = some (.int .i32 v) → W.cell? ⟨g, 1, none⟩ = some (.int .i32 z) → Calls Tryd.prog 38 #[.slice (some ⟨g, 0, none⟩) 2 2] W fun e w' => e = .returned (.int .i32 (wsum [v, z])) ∧ W = w' := fun W g h0 h1 =>
        sum32 (some ⟨g, 0, none⟩) 2 2 [v, z] W (pair_elems h0 h1 wv (WalkArith.wf_i32 ⟨by omega, by omega⟩))
      rw [← hval] at hsu
      generalize join1 b s v u = y at hst hsu hval
      have hmA := hmine.alloc (.cells #[.int .i32 v, .int .i32 z] 21)
      have hold := hmA.cell (k := k) (by omega)
      have hf := hmA.frozen k
      have hnew := (hmine.set k y).alloc (.cells #[.int .i32 v, .int .i32 z] 21)
      have hbS := hbel.setCell (p := ⟨w.heap.size, k, none⟩) (Nat.le_refl _) (.int .i32 y)
      have hbel' := (hbS.alloc hbS.size (.cells #[.int .i32 v, .int .i32 z] 21)).drew
      have hbx : bx < w.heap.size := hx.blk _ rfl (by omega)
      have hby : bY < w.heap.size := hy.blk _ rfl (by omega)
      have hk1 : ((wr.setCell ⟨w.heap.size, k, none⟩ (.int .i32 y)).alloc (.cells #[.int .i32 v, .int .i32 z] 21)).drew.cell? ⟨bx, ox + k, none⟩ = some (.int .i32 v) :=
        cell_alloc ((World.cell?_setCell_other wr ⟨w.heap.size, k, none⟩ ⟨bx, ox + k, none⟩ _ (by first | (simp; done) | (simp; omega))).trans hc) _
      have hk2 : ((wr.setCell ⟨w.heap.size, k, none⟩ (.int .i32 y)).alloc (.cells #[.int .i32 v, .int .i32 z] 21)).drew.cell? ⟨bY, oY + k, none⟩ = some (.int .i32 u) :=
        cell_alloc ((World.cell?_setCell_other wr ⟨w.heap.size, k, none⟩ ⟨bY, oY + k, none⟩ _ (by first | (simp; done) | (simp; omega))).trans hc2) _
      have hlt0 := hmine.lt
      generalize cs.getD k 0 = c at hold
      clear hv hu hl hfil hval hmine hbel hmk hbS hbx hby
      go_wp2_with fail
      go_region_held3 (fun w' => w'.cell? ⟨bx, ox + k, none⟩ = some (.int .i32 v) ∧ w'.cell? ⟨bY, oY + k, none⟩ = some (.int .i32 u))
        (first | go_keep | (go_split_ands; refine ⟨?_, ?_⟩ <;> assumption))
        (first
          | (go_at_call 39; (with_reducible refine (hsc _).mono ?_); rintro e w' ⟨rfl, rfl⟩)
          | (go_at_call 38; (refine (hsu _ _ (by simp) (by simp)).mono ?_); rintro e w' ⟨rfl, rfl⟩))
      clear hsc hsu hk1 hk2 hold hf
      go_wp2
      go_roundw
      case rel => exact ⟨k + 1, _, by omega, by go_num, hnew, hbel', hst⟩
      case measure => simp [intOf]; omega
    · obtain rfl : k = n := by omega
      have he := filledBy_range hfil.out
      have hE := hmine.elems (n := k) hfil.out.1 (by omega) (by rw [he]; exact joinL_wf b s xs ys k)
      rw [he] at hE
      have HE := Lib.hid (show Elems .i32 wr (some ⟨w.heap.size, 0, none⟩) k (joinL b s xs ys k) from hE)
      clear he hE hmine hfil hx hy
      go_wp2
      go_ret2
      exact ⟨⟨_, rfl, HE.out⟩, hbel⟩

end Go.Proofs.YthblniakghfchaaDoor
