/-
  Contract of Softmax: weights of a row, in new memory; nothing else turns. The greatest number of a row.
-/
import Derived.Test.YthblniakghfchaaDoorExps
import Derived.Test.YthblniakghfchaaDoorShares
import Derived.Test.YthblniakghfchaaDoorArgmax
import Derived.Test.YthblniakghfchaaDoorShrMath
import Derived.Test.YthblniakghfchaaDoorRw
namespace Go.Proofs.YthblniakghfchaaDoor
open Go.RowKit
set_option linter.unusedVariables false

theorem shr_any (x n B : Int) (hB : 0 ≤ B) (b1 : -B ≤ x) (b2 : x ≤ B) : -B ≤ shr x n ∧ shr x n ≤ B := by
  unfold shr
  split
  · exact ⟨b1, b2⟩
  · obtain ⟨n1, n2⟩ := near_62 n
    exact half_bounds x _ B (pow_bounds _ n1 n2).1 hB b1 b2

/-- m is the greatest number of the row -/
def IsTop (xs : List Int) (m : Int) : Prop := m ∈ xs ∧ ∀ x ∈ xs, x ≤ m
theorem IsTop.unique {xs : List Int} {m k : Int} (h : IsTop xs m) (g : IsTop xs k) : m = k := by
  have := h.2 k g.1; have := g.2 m h.1; omega
theorem top_best {xs : List Int} {n j : Nat} (hl : xs.length = n) (h : Best xs n (j : Int)) : j < n ∧ IsTop xs (xs.getD j 0) := by
  rcases h with ⟨_, h0⟩ | ⟨i, he, hi, h1, _⟩
  · omega
  · obtain rfl : i = j := by omega
    refine ⟨hi, getD_mem (by omega), fun x hx => ?_⟩
    obtain ⟨k, hk, rfl⟩ := List.getElem_of_mem hx
    have := h1 k (by omega)
    simpa [List.getD, hk] using this

theorem top_ex {xs : List Int} {n : Nat} (hl : xs.length = n) (h0 : 0 < n) : ∃ m, IsTop xs m := by
  obtain ⟨B, hB⟩ := best_exists xs n
  obtain ⟨j, rfl, hj⟩ := best_is hB (by omega)
  exact ⟨_, (top_best hl hB).2⟩

/-- what E is asked at -/
def dif (b n m x : Int) : Int := shr ((x - m) * b) n
theorem dif_bd (b n m x : Int) (b1 : -2147483648 ≤ b) (b2 : b ≤ 2147483647) (m1 : -2147483648 ≤ m) (m2 : m ≤ 2147483647) (x1 : -2147483648 ≤ x) (x2 : x ≤ 2147483647) :
    -4294967295 ≤ x - m ∧ x - m ≤ 4294967295 ∧ -9223372034707292160 ≤ (x - m) * b ∧ (x - m) * b ≤ 9223372034707292160 ∧ -9223372034707292160 ≤ dif b n m x ∧ dif b n m x ≤ 9223372034707292160 := by
  have h1 : ((x - m) * b).natAbs ≤ 4294967295 * 2147483648 := by rw [Int.natAbs_mul]; exact Nat.mul_le_mul (by omega) (by omega)
  have h2 := shr_any ((x - m) * b) n 9223372034707292160 (by decide) (by omega) (by omega)
  unfold dif
  omega
/-- the powers, and the weights -/
def pows (b n m : Int) (xs : List Int) : List Int := xs.map fun x => E (dif b n m x)
def soft (b n m : Int) (xs : List Int) : List Int := (pows b n m xs).map (share 65536 (tot (pows b n m xs)))
theorem pows_le (b n m : Int) (xs : List Int) : ∀ p ∈ pows b n m xs, p ≤ 2147483647 := by
  intro p hp
  obtain ⟨x, _, rfl⟩ := List.mem_map.1 hp
  have := E_bd (dif b n m x); omega
theorem soft_wf (b n m : Int) (xs : List Int) : ∀ p ∈ soft b n m xs, (Lit.int .i32 p).wf = true := share_wf (pows_le b n m xs) (by decide)

theorem softmax_none (b n : Int) (a : Option Addr) (cap : Nat) (w : World) :
    Calls Tryd.prog 15 #[.int .i32 b, .int .i64 n, .slice a 0 cap] w fun e w' => e = .returned (.slice none 0 0) ∧ w = w' := by
  go_enter Tryd.func15, Tryd.ntmps15
  go_wp2
  go_ret
  exact ⟨rfl, rfl⟩

set_option maxHeartbeats 1000000 in
theorem softmax_some (b s m : Int) (a : Option Addr) (n cap : Nat) (xs : List Int) (w : World) (h : Elems .i32 w a n xs) (h0 : 0 < n) (hn : n ≤ 1000) (b1 : -2147483648 ≤ b) (b2 : b ≤ 2147483647) (hm : IsTop xs m) (hT : Tab w) :
    Calls Tryd.prog 15 #[.int .i32 b, .int .i64 s, .slice a n cap] w fun e w' => (∃ g, e = .returned (.slice (some ⟨g, 0, none⟩) n n) ∧ Elems .i32 w' (some ⟨g, 0, none⟩) n (soft b s m xs)) ∧ Below w.heap.size w w' := by
  have hmk := run_make_row' (P := Tryd.prog) 60 2 (.int .i64 0) 8 Tryd.underlying60 info_int64 rfl .i64 .i64 n (by omega) (by omega)
  have HL := Lib.hid h.1
  have hz : ((n : Int) == 0) = false := by simp; omega
  obtain ⟨B, hB⟩ := best_exists xs n
  obtain ⟨j, rfl, hj⟩ := best_is hB (by omega)
  obtain ⟨_, htop⟩ := top_best HL.out hB
  have hmx := hm.unique htop
  have harg := argmax a n cap xs w h j hB
  obtain ⟨bb, off, mm, rfl, hc, hv, wv⟩ := h.at_ hj
  obtain rfl : mm = m := by rw [hmx]; exact hv.out.symm
  obtain ⟨m1, m2⟩ := wf32 wv
  clear hmx htop hm hB hv wv
  go_enter Tryd.func15, Tryd.ntmps15
  go_wp2_with fail
  refine harg.mono ?_
  rintro e w' ⟨rfl, rfl⟩
  clear harg hz
  go_wp2
  go_loopw [25] (fun i wr => ∃ (k : Nat) (cs : List Int), k ≤ n ∧ i = .int .i64 k ∧ MineK .i64 wr w.heap.size 2 cs ∧ Below w.heap.size w wr ∧ Hid (FilledBy (fun i => dif b s mm (xs.getD i 0)) n k cs)) (fun i _ => n - (intOf i).toNat)
  case atStart => exact ⟨0, List.replicate n 0, by omega, rfl, mine_made .i64 w 2 n rfl, (Below.refl _ _).alloc (Nat.le_refl _) _, Lib.hid (filledBy_start _ n)⟩
  case round =>
    clear hc
    obtain ⟨k, cs, hk, rfl, hmine, hbel, hfil⟩ := hrel
    by_cases hlt : k < n
    · obtain ⟨b', off', v, he, hc, hv, wv⟩ := (h.below hbel).at_ hlt
      cases he
      obtain ⟨v1, v2⟩ := wf32 wv
      have hl := hfil.out.1
      have hold := hmine.cell (k := k) (by omega)
      have hf := hmine.frozen k
      have hfil' : Hid (FilledBy (fun i => dif b s mm (xs.getD i 0)) n (k + 1) (cs.set k (dif b s mm v))) := Lib.hid (by have := filledBy_step hfil.out hlt; simp only [hv.out] at this; exact this)
      have hnew := hmine.set k (dif b s mm v)
      have hbel' := hbel.setCell (p := ⟨w.heap.size, k, none⟩) (Nat.le_refl _) (.int .i64 (dif b s mm v))
      obtain ⟨d1, d2, p1, p2, p3, p4⟩ := dif_bd b s mm v b1 b2 m1 m2 v1 v2
      have hsh : ∀ w, Calls Tryd.prog 25 #[.int .i64 ((v - mm) * b), .int .i64 s] w fun e w' => e = .returned (.int .i64 (dif b s mm v)) ∧ w = w' := fun w => shift _ _ (by omega) (by omega) w
      generalize dif b s mm v = z at hfil' hnew hbel' hsh p3 p4
      generalize cs.getD k 0 = c at hold
      clear hv hl hfil hmine hbel hmk h hT
      go_wp2_with (go_at_call 25; (with_reducible refine (hsh _).mono ?_); rintro e w' ⟨rfl, rfl⟩)
      go_roundw
      case rel => exact ⟨k + 1, cs.set k z, by omega, by go_num, hnew, hbel', hfil'⟩
      case measure => simp [intOf]; omega
    · obtain rfl : k = n := by omega
      have he := filledBy_end (g := dif b s mm) hfil.out HL.out (fun i _ => rfl)
      have hwf : ∀ x ∈ cs, (Lit.int .i64 x).wf = true := by
        rw [he]
        intro c hc
        obtain ⟨x, hx, rfl⟩ := List.mem_map.1 hc
        have hxb := wf32 (h.2.2.1 x hx)
        have := dif_bd b s mm x b1 b2 m1 m2 hxb.1 hxb.2
        exact WalkArith.wf_i64 ⟨by omega, by omega⟩
      have hE := hmine.elems (n := k) hfil.out.1 (by omega) hwf
      have hex := exps (some ⟨w.heap.size, 0, none⟩) k k cs wr hE hn (hT.below hbel)
      have hp : cs.map E = pows b s mm xs := by rw [he]; unfold pows; rw [List.map_map]; rfl
      rw [hp] at hex
      have hso : (pows b s mm xs).map (share 65536 (tot (pows b s mm xs))) = soft b s mm xs := rfl
      have HSO := Lib.hid hso
      clear hfil he hwf hE hp hmine h hT hso
      go_wp2_with fail
      refine hex.mono ?_
      rintro e wb ⟨g, rfl, hE2, hb2⟩
      have hb3 := below_two hbel hb2
      clear hex hbel hb2
      go_wp2_with fail
      refine (shares 65536 _ k k (pows b s mm xs) wb hE2 hn (by decide) (by decide)).mono ?_
      rintro e wc ⟨g2, rfl, hE3, hb4⟩
      rw [HSO.out] at hE3
      have hb5 := below_two hb3 hb4
      clear hE2 hb3 hb4
      go_wp2
      go_ret
      exact ⟨⟨_, rfl, hE3⟩, hb5⟩

end Go.Proofs.YthblniakghfchaaDoor
