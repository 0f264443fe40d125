/-
  Contract of total: the sum of the sides of a dozen grids.
-/
import Derived.Test.YtocjcfblpifdhaaCommon
namespace Go.Proofs.Ytocjcfblpifdhaa
open Go.RowKit
set_option linter.unusedVariables false

/-- the sum of the sides -/
def sumOf (p : Gr → Int) (gs : List Gr) : Int := (gs.map p).sum
theorem sumOf_step (p : Gr → Int) (gs : List Gr) (k : Nat) (hk : k < gs.length) (g : Gr) (hg : gs.getD k default = g) : sumOf p (gs.take (k + 1)) = sumOf p (gs.take k) + p g := by
  unfold sumOf
  rw [List.take_add_one, List.map_append, List.sum_append, ← hg]
  simp [List.getD, List.getElem?_eq_getElem hk]

set_option maxHeartbeats 800000 in
theorem total_any (fn : Nat) (p : Gr → Int) (hs : Sides fn p) (eg : ∀ args w, (callFunc fn args).run Try.prog w = .ok (.enter fn args) w) (a : Option Addr) (n cap : Nat) (gs : List Gr) (w : World) (h : Grids w a n gs) (h12 : n ≤ 12) (hp : ∀ g ∈ gs, 0 ≤ p g ∧ p g ≤ 4096) :
    Calls Try.prog 47 #[.func (.func fn) #[] #[], .slice a n cap] w fun e w' => e = .returned (.int .i64 (sumOf p gs)) ∧ Below w.heap.size w w' := by
  have hl := Lib.hid h.1
  have HS := Lib.hid hs
  have HP := Lib.hid hp
  clear hs hp
  go_enter Try.func47, Try.ntmps47
  go_wp2_with fail
  go_loopw [5, 10] (fun s i wr => ∃ (k : Nat) (t : Int), k ≤ n ∧ i = .int .i64 k ∧ s = .int .i64 t ∧ Hid (t = sumOf p (gs.take k)) ∧ 0 ≤ t ∧ t ≤ k * 4096 ∧ Below w.heap.size w wr) (fun _ i _ => n - (intOf i).toNat)
  case atStart => exact ⟨0, 0, by omega, rfl, rfl, Lib.hid (by simp [sumOf]), by omega, by omega, Below.refl _ _⟩
  case round =>
    obtain ⟨k, t, hk, rfl, rfl, ht, t0, t1, hbel⟩ := hrel
    by_cases hlt : k < n
    · obtain ⟨b, off, g, rfl, hbl, c0, c1, c2, hg, hin⟩ := (h.below hbel).at_ hlt
      have hst := sumOf_step p gs k (by rw [hl.out]; exact hlt) g hg.out
      have hpg := HP.out g (by
        rw [← hg.out, List.getD_eq_getElem?_getD, List.getElem?_eq_getElem (by rw [hl.out]; exact hlt)]
        exact List.getElem_mem _)
      have q := HS.out g
      obtain ⟨x, hx⟩ : ∃ x, x = p g := ⟨_, rfl⟩
      rw [← hx] at hst hpg q
      have HST : Hid (t + x = sumOf p (gs.take (k + 1))) := Lib.hid (by rw [hst, ht.out])
      obtain ⟨r, c, ga, m, gcap, v⟩ := g
      simp only at c0 c1 c2 q
      have hsz := hbel.size
      have hfin := hbel.alloc hsz (.cells #[.int .i64 r, .int .i64 c, .slice ga m gcap] 24)
      obtain ⟨x0, x1⟩ := hpg
      clear h hg hin hx hst ht
      go_wp2_with fail
      refine (q _).mono ?_
      rintro e wc ⟨rfl, hb⟩
      have hB := below_two hfin hb
      clear q
      go_wp2
      go_roundw
      case rel => exact ⟨k + 1, t + x, by omega, by go_num, rfl, HST, by omega, by push_cast; omega, hB⟩
      case measure => simp [intOf]; omega
    · obtain rfl : k = n := by omega
      have HR : Hid (t = sumOf p gs) := Lib.hid (by rw [ht.out, List.take_of_length_le (by rw [hl.out]; omega)])
      clear h ht
      go_wp2
      go_ret
      exact ⟨ret_int HR.out, hbel⟩

end Go.Proofs.Ytocjcfblpifdhaa
