/-
  Contract of Norm: a row brought to one size, in new memory; nothing else turns.
-/
import Derived.Test.YthblniakghfchaaDoorSquares
import Derived.Test.YthblniakghfchaaDoorShift
import Derived.Test.YthblniakghfchaaDoorRw
import Derived.Deep.QuietTactic
import Derived.BigQuiet
import Derived.Deep.RegionHeld3
namespace Go.Proofs.YthblniakghfchaaDoor
open Go.RowKit
set_option linter.unusedVariables false

theorem filledBy_range {f : Nat → Int} {n : Nat} {cs : List Int} (h : FilledBy f n n cs) : cs = (List.range n).map f := by
  apply List.ext_getElem (by rw [h.1, List.length_map, List.length_range])
  intro i h1 h2
  have h3 := h.2 i (by rw [← h.1]; exact h1)
  rw [if_pos (by rw [← h.1]; exact h1), List.getD_eq_getElem?_getD, List.getElem?_eq_getElem h1] at h3
  simpa using h3

/-- number i of the row, brought to one size -/
def norm1 (I g x : Int) : Int := near (shr (nr x * I * g) 23) (-128) 127
def norms (I : Int) (gs xs : List Int) (n : Nat) : List Int := (List.range n).map fun i => norm1 I (gs.getD i 0) (xs.getD i 0)
theorem norm1_wf (I g x : Int) : (Lit.int .i8 (norm1 I g x)).wf = true := WalkArith.wf_i8 (near_in _ _ _ (by decide))
theorem norms_wf (I : Int) (gs xs : List Int) (n : Nat) : ∀ c ∈ norms I gs xs n, (Lit.int .i8 c).wf = true := by
  intro c hc
  obtain ⟨i, _, rfl⟩ := List.mem_map.1 hc
  exact norm1_wf _ _ _
/-- the products stay within 64 bits -/
theorem norm_bd (y I g : Int) (y1 : -8388608 ≤ y) (y2 : y ≤ 8388607) (i1 : 0 ≤ I) (i2 : I ≤ 16777216) (g1 : -128 ≤ g) (g2 : g ≤ 127) :
    -140737488355328 ≤ y * I ∧ y * I ≤ 140737488355328 ∧ -18014398509481984 ≤ y * I * g ∧ y * I * g ≤ 18014398509481984 := by
  have h1 : (y * I).natAbs ≤ 8388608 * 16777216 := by rw [Int.natAbs_mul]; exact Nat.mul_le_mul (by omega) (by omega)
  have h2 : (y * I * g).natAbs ≤ 8388608 * 16777216 * 128 := by rw [Int.natAbs_mul]; exact Nat.mul_le_mul h1 (by omega)
  omega

theorem norm_len (ga xa : Option Addr) (n m gcap xcap : Nat) (h : n ≠ m) (hn : n ≤ 9223372036854775807) (hm : m ≤ 9223372036854775807) (w : World) :
    Calls Tryd.prog 11 #[.slice ga n gcap, .slice xa m xcap] w fun e w' => e = .returned (.tuple #[.slice none 0 0, .int .i64 30]) ∧ w = w' := by
  have h' : ((n : Int) != (m : Int)) = true := by simp; omega
  clear h
  go_enter Tryd.func11, Tryd.ntmps11
  go_wp2
  go_ret2
  exact ⟨rfl, rfl⟩

theorem norm_none (ga xa : Option Addr) (gcap xcap : Nat) (w : World) :
    Calls Tryd.prog 11 #[.slice ga 0 gcap, .slice xa 0 xcap] w fun e w' => e = .returned (.tuple #[.slice none 0 0, .int .i64 0]) ∧ w = w' := by
  go_enter Tryd.func11, Tryd.ntmps11
  go_wp2
  go_ret2
  exact ⟨rfl, rfl⟩

set_option maxHeartbeats 1000000 in
theorem norm_some (ga xa : Option Addr) (n gcap xcap : Nat) (gs xs : List Int) (I : Int) (w : World) (hg : Elems .i8 w ga n gs) (hx : Elems .i32 w xa n xs) (h0 : 0 < n) (hn : n ≤ 1000) (hI : IsInv (msq xs) I) :
    Calls Tryd.prog 11 #[.slice ga n gcap, .slice xa n xcap] w fun e w' => (∃ g, e = .returned (.tuple #[.slice (some ⟨g, 0, none⟩) n n, .int .i64 0]) ∧ Elems .i8 w' (some ⟨g, 0, none⟩) n (norms I gs xs n)) ∧ Below w.heap.size w w' := by
  have hmk := run_make_row' (P := Tryd.prog) 22 39 (.int .i8 0) 1 Tryd.underlying22 info8 rfl .i64 .i64 n (by omega) (by omega)
  have hms := mean_square xa n xcap xs w hx h0 (by omega)
  have hmb := msq_bd xs
  have hinv := inverse_is (msq xs) I hmb.1 (by omega) hI
  obtain ⟨i0, i1⟩ := inv_bd hmb.1 hI
  have hne : ((n : Int) != (n : Int)) = false := by simp
  have hz : ((n : Int) == 0) = false := by simp; omega
  generalize msq xs = M at hms hmb hinv hI
  clear hmb hI
  go_enter Tryd.func11, Tryd.ntmps11
  go_wp2_with fail
  refine hms.mono ?_
  rintro e w' ⟨rfl, rfl⟩
  go_wp2_with fail
  refine (hinv _).mono ?_
  rintro e w' ⟨rfl, rfl⟩
  clear hms hinv hne hz
  go_wp2
  go_loopw [32] (fun i wr => ∃ (k : Nat) (cs : List Int), k ≤ n ∧ i = .int .i64 k ∧ MineK .i8 wr w.heap.size 39 cs ∧ Below w.heap.size w wr ∧ Hid (FilledBy (fun i => norm1 I (gs.getD i 0) (xs.getD i 0)) n k cs)) (fun i _ => n - (intOf i).toNat)
  case atStart => exact ⟨0, List.replicate n 0, by omega, rfl, mine_made .i8 w 39 n rfl, (Below.refl _ _).alloc (Nat.le_refl _) _, Lib.hid (filledBy_start _ n)⟩
  case round =>
    obtain ⟨k, cs, hk, rfl, hmine, hbel, hfil⟩ := hrel
    by_cases hlt : k < n
    · obtain ⟨b, off, v, rfl, hc, hv, wv⟩ := (hx.below hbel).at_ hlt
      obtain ⟨b2, off2, u, rfl, hc2, hu, wu⟩ := (hg.below hbel).at_ hlt
      obtain ⟨v1, v2⟩ := wf32 wv
      obtain ⟨u1, u2⟩ := wf8 wu
      have hl := hfil.out.1
      have hold := hmine.cell (k := k) (by omega)
      have hf := hmine.frozen k
      have hfil' : Hid (FilledBy (fun i => norm1 I (gs.getD i 0) (xs.getD i 0)) n (k + 1) (cs.set k (norm1 I u v))) := Lib.hid (by have := filledBy_step hfil.out hlt; simp only [hu.out, hv.out] at this; exact this)
      have hnew := hmine.set k (norm1 I u v)
      have hbel' := hbel.setCell (p := ⟨w.heap.size, k, none⟩) (Nat.le_refl _) (.int .i8 (norm1 I u v))
      have hn1 := near5 v v1 v2
      have hyb := nr_bd v
      have hval : norm1 I u v = near (shr (nr v * I * u) 23) (-128) 127 := rfl
      generalize cs.getD k 0 = c at hold
      generalize nr v = y at hn1 hyb hval
      obtain ⟨p1, p2, p3, p4⟩ := norm_bd y I u hyb.1 hyb.2 i0 i1 u1 u2
      have hsh : ∀ w, Calls Tryd.prog 25 #[.int .i64 (y * I * u), .int .i64 23] w fun e w' => e = .returned (.int .i64 (shr (y * I * u) 23)) ∧ w = w' := fun w => shift _ _ (by omega) (by omega) w
      have hsa := sat8 (shr (y * I * u) 23)
      rw [← hval] at hsa
      generalize norm1 I u v = z at hfil' hnew hbel' hsa hval
      generalize shr (y * I * u) 23 = s at hsh hsa
      have e0 : IntKind.i64.wrap u = u := IntWalk.i64_in _ (by omega)
      have e1 : IntKind.i64.wrap (y * I) = y * I := IntWalk.i64_in _ (by omega)
      have e2 : IntKind.i64.wrap (y * I * u) = y * I * u := IntWalk.i64_in _ (by omega)
      have hb2 : b2 < w.heap.size := hg.blk _ rfl (by omega)
      have hkp : ∀ z, (wr.setCell ⟨w.heap.size, k, none⟩ (.int .i8 z)).drew.cell? ⟨b2, off2 + k, none⟩ = some (.int .i8 u) := fun z =>
        (World.cell?_setCell_other wr ⟨w.heap.size, k, none⟩ ⟨b2, off2 + k, none⟩ _ (by first | (simp; done) | (simp; omega))).trans hc2
      have hkp' := hkp z
      clear hv hu hl hfil hval hmine hbel hmk hb2 hkp
      go_wp2_with fail
      go_region_held3 (fun w' => w'.cell? ⟨b2, off2 + k, none⟩ = some (.int .i8 u)) (first | go_keep | assumption)
        (first
          | (go_at_call 26; (with_reducible refine (hn1 _).mono ?_); rintro e w' ⟨rfl, rfl⟩)
          | (go_at_call 25; (with_reducible refine (hsh _).mono ?_); rintro e w' ⟨rfl, rfl⟩)
          | (go_at_call 24; (with_reducible refine (hsa _).mono ?_); rintro e w' ⟨rfl, rfl⟩))
      clear e0 e1 e2 hn1 hsh hsa hkp'
      go_wp2
      go_roundw
      case rel => exact ⟨k + 1, cs.set k z, by omega, by go_num, hnew, hbel'.drew, hfil'⟩
      case measure => simp [intOf]; omega
    · obtain rfl : k = n := by omega
      have he := filledBy_range hfil.out
      have hE := hmine.elems (n := k) (by rw [he]; simp) (by omega) (by rw [he]; exact norms_wf I gs xs k)
      rw [he] at hE
      have HE := Lib.hid hE
      clear hg hx he hE hmine hfil
      go_wp2
      go_ret2
      exact ⟨⟨_, rfl, HE.out⟩, hbel⟩

theorem norm_any (ga xa : Option Addr) (n gcap xcap : Nat) (gs xs : List Int) (I : Int) (w : World) (hg : Elems .i8 w ga n gs) (hx : Elems .i32 w xa n xs) (hn : n ≤ 1000) (hI : IsInv (msq xs) I) :
    Calls Tryd.prog 11 #[.slice ga n gcap, .slice xa n xcap] w fun e w' => (∃ b c, e = .returned (.tuple #[.slice b n c, .int .i64 0]) ∧ Elems .i8 w' b n (norms I gs xs n)) ∧ Below w.heap.size w w' := by
  by_cases h0 : n = 0
  · subst h0
    exact (norm_none ga xa gcap xcap w).mono (by rintro e w' ⟨rfl, rfl⟩; exact ⟨⟨none, 0, rfl, Elems.nil_ _ _ _⟩, Below.refl _ _⟩)
  · exact (norm_some ga xa n gcap xcap gs xs I w hg hx (by omega) hn hI).mono (by rintro e w' ⟨⟨g, rfl, hE⟩, hb⟩; exact ⟨⟨_, _, rfl, hE⟩, hb⟩)

end Go.Proofs.YthblniakghfchaaDoor
