/-
  Contract of Exps: for every list of up to 1000 numbers it returns a new slice of E of each; what was in memory stays.
-/
import Derived.Test.YthblniakghfchaaDoorExp
namespace Go.Proofs.YthblniakghfchaaDoor
open Go.RowKit
set_option linter.unusedVariables false

theorem E_wf (x : Int) : (Lit.int .i32 (E x)).wf = true := by have := E_bd x; exact WalkArith.wf_i32 ⟨by omega, by omega⟩

set_option maxHeartbeats 800000 in
theorem exps (a : Option Addr) (n cap : Nat) (xs : List Int) (w : World) (h : Elems .i64 w a n xs) (hn : n ≤ 1000) (hT : Tab w) :
    Calls Tryd.prog 32 #[.slice a n cap] w fun e w' => ∃ g, e = .returned (.slice (some ⟨g, 0, none⟩) n n) ∧ Elems .i32 w' (some ⟨g, 0, none⟩) n (xs.map E) ∧ Below w.heap.size w w' := by
  have hmk := run_make_row' (P := Tryd.prog) 23 21 (.int .i32 0) 4 Tryd.underlying23 info_int32 rfl .i64 .i64 n (by omega) (by omega)
  go_enter Tryd.func32, Tryd.ntmps32
  go_wp2
  go_loopw [11] (fun i wr => ∃ (k : Nat) (cs : List Int), k ≤ n ∧ i = .int .i64 k ∧ wr.ownsRow w.heap.size 21 1 (.slice (some ⟨w.heap.size, 0, none⟩) n n) n (cs.map (.int .i32)) ∧ Below w.heap.size w wr ∧ Hid (FilledBy (fun i => E (xs.getD i 0)) n k cs)) (fun i _ => n - (intOf i).toNat)
  case atStart =>
    have hown := World.ownsRow_lit (e := 21) (size := 1) w (madeCells #[Value.int .i32 0] n) n (Nat.le_refl _) (by unfold maxLen; omega) (by rw [size_madeCells, Nat.mul_one])
    refine ⟨0, List.replicate n 0, by omega, rfl, ?_, (Below.refl _ _).alloc (Nat.le_refl _) _, Lib.hid (filledBy_start _ n)⟩
    rw [← made_zeros .i32 n, Nat.mul_one]
    exact hown
  case round =>
    obtain ⟨k, cs, hk, rfl, hown, hbel, hfil⟩ := hrel
    by_cases hlt : k < n
    · have hE := h.below hbel
      obtain ⟨b, off, v, rfl, hc, hv, wv⟩ := hE.at_ hlt
      obtain ⟨v1, v2⟩ := wf64 wv
      have hf := hown.frozenAt k
      have hold : wr.cell? ⟨w.heap.size, k, none⟩ = some (.int .i32 (cs.getD k 0)) := by
        have hl := hfil.out.1
        rw [hown.cellAt k (by omega), List.getElem?_map, List.getD_eq_getElem?_getD, List.getElem?_eq_getElem (by omega)]; rfl
      obtain ⟨c, hcc⟩ : ∃ c, cs.getD k 0 = c := ⟨_, rfl⟩
      rw [hcc] at hold
      clear hcc
      have hq := exp v v1 v2 wr (hT.below hbel)
      have hfil' : Hid (FilledBy (fun i => E (xs.getD i 0)) n (k + 1) (cs.set k (E v))) := Lib.hid (by have := filledBy_step hfil.out hlt; rwa [hv.out] at this)
      have hnew : ∀ d, ((wr.drewN d).setCell ⟨w.heap.size, k, none⟩ (.int .i32 (E v))).ownsRow w.heap.size 21 1 (.slice (some ⟨w.heap.size, 0, none⟩) n n) n ((cs.set k (E v)).map (.int .i32)) := fun d => by
        have hown' : (wr.drewN d).ownsRow w.heap.size 21 1 (.slice (some ⟨w.heap.size, 0, none⟩) n n) n (cs.map (.int .i32)) := hown
        have := (hown'.stored k (.int .i32 (E v))).1
        rwa [← List.map_set] at this
      have hbel' : ∀ d, Below w.heap.size w ((wr.drewN d).setCell ⟨w.heap.size, k, none⟩ (.int .i32 (E v))) := fun d => (below_drewN hbel d).setCell (p := ⟨w.heap.size, k, none⟩) (Nat.le_refl _) _
      obtain ⟨y, hy⟩ : ∃ y, E v = y := ⟨_, rfl⟩
      rw [hy] at hq hfil' hnew hbel'
      clear hv hfil hE h hown hbel hT hy
      go_wp2_with fail
      refine hq.mono ?_
      rintro e w' ⟨rfl, d, rfl⟩
      go_wp2
      go_roundw
      case rel => exact ⟨k + 1, cs.set k y, by omega, by go_num, hnew d, hbel' d, hfil'⟩
      case measure => simp [intOf]; omega
    · obtain rfl : k = n := by omega
      have he := filledBy_end (g := E) hfil.out h.1 (fun i _ => rfl)
      have HE := Lib.hid he
      clear h he hT
      go_wp2
      go_ret
      exact ⟨w.heap.size, rfl, by rw [← HE.out]; exact own_elems hown (by omega) (by rw [HE.out]; intro c hc; obtain ⟨x, _, rfl⟩ := List.mem_map.1 hc; exact E_wf x), hbel⟩

end Go.Proofs.YthblniakghfchaaDoor
