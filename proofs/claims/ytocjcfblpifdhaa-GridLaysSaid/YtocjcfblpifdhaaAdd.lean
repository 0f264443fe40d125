/-
  Contract of Add.
-/
import Derived.Test.YtocjcfblpifdhaaStack
namespace Go.Proofs.Ytocjcfblpifdhaa
open Go.RowKit
set_option linter.unusedVariables false

/-- the k-th cells, together -/
def sumV (gs : List Gr) (i : Nat) : Int := (gs.map fun g => g.v.getD i 0).sum
theorem sumV_step (gs : List Gr) (k : Nat) (hk : k < gs.length) (g : Gr) (hg : gs.getD k default = g) (i : Nat) : sumV (gs.take (k + 1)) i = sumV (gs.take k) i + g.v.getD i 0 := by
  unfold sumV
  rw [List.take_add_one, List.map_append, List.sum_append, ← hg]
  simp [List.getD, List.getElem?_eq_getElem hk]

section
variable (a : Option Addr) (n cap : Nat) (gs : List Gr) (w : World) (h : Grids w a n gs)
include h

set_option maxHeartbeats 800000 in
theorem add_no (hf : (commonB (fun g => g.r) gs && (commonB (fun g => g.c) gs && fitAll gs)) = false) :
    Calls Try.prog 30 #[.slice a n cap] w fun e w' => NoGrid 30 e ∧ Below w.heap.size w w' := by
  have hr := fun W (hb : Below w.heap.size w W) => common_any 48 (fun g => g.r) sides_rows (enters_of Try.func48 (by kernel_rfl) rfl) a n cap gs W (h.below hb)
  have hc := fun W (hb : Below w.heap.size w W) => common_any 46 (fun g => g.c) sides_cols (enters_of Try.func46 (by kernel_rfl) rfl) a n cap gs W (h.below hb)
  have hal : ∀ o, Below w.heap.size w (w.alloc o) := fun o => (Below.refl _ _).alloc (Nat.le_refl _) o
  have hh := fun W (hb : Below w.heap.size w W) x hx => handy_c a n cap gs W (h.below hb) x hx
  clear h
  have fin : ∀ (p q : Int) (s t : Bool), CommonRes (fun g => g.r) gs (.returned (.tuple #[.int .i64 p, .bool s])) → CommonRes (fun g => g.c) gs (.returned (.tuple #[.int .i64 q, .bool t])) → (s && (t && fitAll gs)) = false →
      Calls Try.prog 30 #[.slice a n cap] w fun e w' => NoGrid 30 e ∧ Below w.heap.size w w' := by
    intro p q s t h1 h2 h3
    have hr' : ∀ W, Below w.heap.size w W → Calls Try.prog 45 #[.func (.func 48) #[] #[], .slice a n cap] W fun e w' => e = .returned (.tuple #[.int .i64 p, .bool s]) ∧ Below W.heap.size W w' := fun W hb => (hr W hb).mono fun e w' ⟨he, hb2⟩ => ⟨by unfold CommonRes at he h1; rw [he, ← h1], hb2⟩
    have hc' : ∀ W, Below w.heap.size w W → Calls Try.prog 45 #[.func (.func 46) #[] #[], .slice a n cap] W fun e w' => e = .returned (.tuple #[.int .i64 q, .bool t]) ∧ Below W.heap.size W w' := fun W hb => (hc W hb).mono fun e w' ⟨he, hb2⟩ => ⟨by unfold CommonRes at he h2; rw [he, ← h2], hb2⟩
    clear hr hc h1 h2 hf
    cases s with
    | false =>
      clear h3
      go_enter Try.func30, Try.ntmps30
      go_wp2_with fail
      refine (hr' _ (hal _)).mono ?_
      rintro e wb ⟨rfl, hb⟩
      have b1 := (box3_new w (.int .i64 0) (.int .i64 0) (.slice none 0 0) 24).below hb
      have hB := below_two (hal _) hb
      clear hr' hal hb
      go_wp2_with fail
      refine (hc' _ hB).mono ?_
      rintro e wc ⟨rfl, hbc⟩
      obtain ⟨k1, d0, d1, d2, e0, e1, e2⟩ := b1.below hbc
      have hB2 := below_two hB hbc
      clear hc' hbc b1 hB hh
      go_wp2
      exact bodyPost_ret (v := .tuple #[.agg #[.int .i64 0, .int .i64 0, .slice none 0 0], .int .i64 30]) (by simp [results, Try.results30, go_sem, d0, d1, d2]) rfl
        ⟨rfl, below_res hB2 (by omega) _ _ _⟩
    | true =>
      rw [Bool.true_and] at h3
      cases t with
      | false =>
        clear h3
        go_enter Try.func30, Try.ntmps30
        go_wp2_with fail
        refine (hr' _ (hal _)).mono ?_
        rintro e wb ⟨rfl, hb⟩
        have b1 := (box3_new w (.int .i64 0) (.int .i64 0) (.slice none 0 0) 24).below hb
        have hB := below_two (hal _) hb
        clear hr' hal hb
        go_wp2_with fail
        refine (hc' _ hB).mono ?_
        rintro e wc ⟨rfl, hbc⟩
        obtain ⟨k1, d0, d1, d2, e0, e1, e2⟩ := b1.below hbc
        have hB2 := below_two hB hbc
        clear hc' hbc b1 hB hh
        go_wp2
        exact bodyPost_ret (v := .tuple #[.agg #[.int .i64 0, .int .i64 0, .slice none 0 0], .int .i64 30]) (by simp [results, Try.results30, go_sem, d0, d1, d2]) rfl
          ⟨rfl, below_res hB2 (by omega) _ _ _⟩
      | true =>
        rw [Bool.true_and] at h3
        have hh' := fun W hb => hh W hb false h3
        clear h3 hh
        go_enter Try.func30, Try.ntmps30
        go_wp2_with fail
        refine (hr' _ (hal _)).mono ?_
        rintro e wb ⟨rfl, hb⟩
        have b1 := (box3_new w (.int .i64 0) (.int .i64 0) (.slice none 0 0) 24).below hb
        have hB := below_two (hal _) hb
        clear hr' hal hb
        go_wp2_with fail
        refine (hc' _ hB).mono ?_
        rintro e wc ⟨rfl, hbc⟩
        have b2 := b1.below hbc
        have hB2 := below_two hB hbc
        clear hc' hbc b1 hB
        go_wp2_with fail
        refine (hh' _ hB2).mono ?_
        rintro e wd ⟨rfl, hbd⟩
        obtain ⟨k1, d0, d1, d2, e0, e1, e2⟩ := b2.below hbd
        have hB3 := below_two hB2 hbd
        clear hh' hbd b2 hB2
        go_wp2
        exact bodyPost_ret (v := .tuple #[.agg #[.int .i64 0, .int .i64 0, .slice none 0 0], .int .i64 30]) (by simp [results, Try.results30, go_sem, d0, d1, d2]) rfl
          ⟨rfl, below_res hB3 (by omega) _ _ _⟩
  cases h1 : commonB (fun g => g.r) gs with
  | false =>
    cases h2 : commonB (fun g => g.c) gs with
    | false => exact fin 0 0 false false (commonRes_no h1) (commonRes_no h2) rfl
    | true => exact fin 0 _ false true (commonRes_no h1) (commonRes_yes h2 rfl) rfl
  | true =>
    cases h2 : commonB (fun g => g.c) gs with
    | false => exact fin _ 0 true false (commonRes_yes h1 rfl) (commonRes_no h2) rfl
    | true => exact fin _ _ true true (commonRes_yes h1 rfl) (commonRes_yes h2 rfl) (by rw [h1, h2] at hf; exact hf)

set_option maxHeartbeats 2000000 in
theorem add_yes (R C : Nat) (h1 : commonB (fun g => g.r) gs = true) (h2 : commonB (fun g => g.c) gs = true) (h3 : fitAll gs = true) (hR : side0 (fun g => g.r) gs = R) (hC : side0 (fun g => g.c) gs = C) (hR4 : R ≤ 4096) (hC4 : C ≤ 4096) (hle : R * C ≤ 1048576) :
    Calls Try.prog 30 #[.slice a n cap] w fun e w' => NewGrid w' R C (tab R C fun i j => wrap32 (sumV gs (i * C + j))) e ∧ Below w.heap.size w w' := by
  have hr := fun W (hb : Below w.heap.size w W) => common_any 48 (fun g => g.r) sides_rows (enters_of Try.func48 (by kernel_rfl) rfl) a n cap gs W (h.below hb)
  have hc := fun W (hb : Below w.heap.size w W) => common_any 46 (fun g => g.c) sides_cols (enters_of Try.func46 (by kernel_rfl) rfl) a n cap gs W (h.below hb)
  have hal : ∀ o, Below w.heap.size w (w.alloc o) := fun o => (Below.refl _ _).alloc (Nat.le_refl _) o
  have hh := fun W (hb : Below w.heap.size w W) => handy_c a n cap gs W (h.below hb) true h3
  have hmem : ∀ g ∈ gs, g.n = R * C := fun g hg => by
    obtain ⟨R', C', e1, e2, _, _, e3, _⟩ := fitB_yes (fit_mem h3 g hg)
    have f1 : g.r = side0 (fun g => g.r) gs := common_mem h1 g hg
    have f2 : g.c = side0 (fun g => g.c) gs := common_mem h2 g hg
    rw [hR] at f1
    rw [hC] at f2
    obtain rfl : R = R' := by omega
    obtain rfl : C = C' := by omega
    exact e3
  have HR := Lib.hid hR
  have HC := Lib.hid hC
  have HH := Lib.hid h
  have HM := Lib.hid hmem
  have hlen := h.1
  have HLEN := Lib.hid hlen
  have hnmax := h.2.1
  clear hR hC h hlen hmem h3
  go_enter Try.func30, Try.ntmps30
  go_wp2_with fail
  refine (hr _ (hal _)).mono ?_
  rintro e wb ⟨he, hb⟩
  unfold CommonRes at he
  rw [if_pos h1, HR.out] at he
  subst he
  have b1 := (box3_new w (.int .i64 0) (.int .i64 0) (.slice none 0 0) 24).below hb
  have hB := below_two (hal _) hb
  clear hr hal hb h1
  go_wp2_with fail
  refine (hc _ hB).mono ?_
  rintro e wc ⟨he, hbc⟩
  unfold CommonRes at he
  rw [if_pos h2, HC.out] at he
  subst he
  have b2 := b1.below hbc
  have hB2 := below_two hB hbc
  clear hc hbc b1 hB h2
  go_wp2_with fail
  refine (hh _ hB2).mono ?_
  rintro e wd ⟨rfl, hbd⟩
  have b3 := b2.below hbd
  have hB3 := below_two hB2 hbd
  clear hh hbd b2 hB2
  go_wp2_with fail
  refine (new_yes R C hR4 hC4 hle _).mono ?_
  rintro e we ⟨g, rfl, hg, hM, hbe⟩
  have b4 := b3.below hbe
  have hB4 := below_two hB3 hbe
  have hgs : w.heap.size < g := Nat.lt_of_lt_of_le b3.1 hg
  have hgl := hM.lt
  clear hbe b3 hB3 hg
  have b4' := fun o => b4.alloc o
  have hM' := fun o => hM.alloc o
  have hB' := fun o => hB4.alloc (by have := hB4.size; omega) o
  have b5' := box3_new we (.int .i64 R) (.int .i64 C) (.slice (some ⟨g, 0, none⟩) (R * C : Nat) (R * C : Nat)) 24
  obtain ⟨v5, c0, c1, c2, f0, f1, f2⟩ := b5'
  clear b4 hM hB4
  go_wp2_with fail
  go_loopw [48] (fun i wr => ∃ (k : Nat) (cs : List Int), k ≤ n ∧ i = .int .i64 k ∧ Hid (cs.length = R * C ∧ ∀ i, i < R * C → cs.getD i 0 = wrap32 (sumV (gs.take k) i)) ∧
      Mine wr g 21 cs ∧ Below w.heap.size w wr ∧ Box3 wr w.heap.size (.int .i64 0) (.int .i64 0) (.slice none 0 0) ∧ Box3 wr we.heap.size (.int .i64 R) (.int .i64 C) (.slice (some ⟨g, 0, none⟩) (R * C : Nat) (R * C : Nat))) (fun i _ => n - (intOf i).toNat)
  case atStart =>
    exact ⟨0, List.replicate (R * C) 0, by omega, rfl, Lib.hid ⟨by simp, fun i hi => by rw [List.getD_eq_getElem?_getD, List.getElem?_replicate, if_pos hi]; simp [sumV, wrap32]⟩, hM' _, hB' _, b4' _, ⟨v5, c0, c1, c2, f0, f1, f2⟩⟩
  case round =>
    clear hM' hB' b4' v5 c0 c1 c2 f0 f1 f2
    obtain ⟨k, cs, hk, rfl, hcs, hM, hB, b1, b2⟩ := hrel
    by_cases hlt : k < n
    · obtain ⟨b, off, gk, rfl, hbl, c0, c1, c2, hgk, hin⟩ := (HH.out.below hB).at_ hlt
      have hkl : k < gs.length := by rw [HLEN.out]; exact hlt
      have hstv := sumV_step gs k hkl gk hgk.out
      have hgm := getD_mem_gr hkl hgk.out
      have hgn := HM.out gk hgm
      have hE0 := (HH.out.2.2.1 gk hgm).1
      have hblk := hE0.blk
      obtain ⟨r, c, ga, m, gcap, v⟩ := gk
      simp only at c0 c1 c2 hgn hE0 hblk
      subst hgn
      have HSTV := Lib.hid hstv
      have HBLK := Lib.hid hblk
      have HE := Lib.hid (hE0.below hB)
      have hsz := hB.size
      have hM2 := fun o => hM.alloc o
      have hB2 := fun o => hB.alloc hsz o
      have b12 := fun o => b1.alloc o
      have b22 := fun o => b2.alloc o
      have hE2 := Lib.hid (fun o => hE0.below (hB.alloc hsz o))
      clear hstv hgm hE0 hblk hin hgk hM hB b1 b2
      obtain ⟨w0, hw0⟩ : ∃ w0, w0 = wr := ⟨_, rfl⟩
      subst hw0
      go_wp2_with fail
      go_loopw [55] (fun i wr => ∃ (m : Nat) (cs2 : List Int), m ≤ R * C ∧ i = .int .i64 m ∧ Hid (cs2.length = R * C ∧ ∀ i, i < R * C → cs2.getD i 0 = if i < m then wrap32 (sumV (gs.take (k + 1)) i) else wrap32 (sumV (gs.take k) i)) ∧
          Mine wr g 21 cs2 ∧ Below w.heap.size w wr ∧ Box3 wr w.heap.size (.int .i64 0) (.int .i64 0) (.slice none 0 0) ∧ Box3 wr we.heap.size (.int .i64 R) (.int .i64 C) (.slice (some ⟨g, 0, none⟩) (R * C : Nat) (R * C : Nat)) ∧ Hid (Elems .i32 wr ga (R * C) v)) (fun i _ => R * C - (intOf i).toNat)
      case atStart => exact ⟨0, cs, by omega, rfl, Lib.hid ⟨hcs.out.1, fun i hi => by rw [if_neg (by omega)]; exact hcs.out.2 i hi⟩, hM2 _, hB2 _, b12 _, b22 _, Lib.hid (hE2.out _)⟩
      case round =>
        clear hM2 hB2 b12 b22 hE2 c0 c1 c2 HE hcs
        obtain ⟨m, cs2, hm, rfl, hcs, hM, hB, b1, b2, HE⟩ := hrel
        by_cases hlt2 : m < R * C
        · obtain ⟨b3, off3, x, rfl, hx, hxv, wx⟩ := HE.out.at_ hlt2
          have hb3 : b3 < w.heap.size := HBLK.out ⟨b3, off3, none⟩ rfl (by omega)
          have hcl := hcs.out.1
          have hcell := hM.cell (k := m) (by omega)
          have hfrz := hM.frozen m
          have hcv := hcs.out.2 m hlt2
          rw [if_neg (by omega)] at hcv
          rw [hcv] at hcell
          have hst := HSTV.out m
          rw [hxv.out] at hst
          obtain ⟨S, hS⟩ : ∃ S, S = sumV (gs.take k) m := ⟨_, rfl⟩
          rw [← hS] at hcell hst
          have hM3 := hM.set m (wrap32 (wrap32 S + x))
          have hgs2 := grownBy_setCell wr g m (.int .i32 (wrap32 (wrap32 S + x)))
          have hnew : Hid ((cs2.set m (wrap32 (wrap32 S + x))).length = R * C ∧ ∀ i, i < R * C → (cs2.set m (wrap32 (wrap32 S + x))).getD i 0 = if i < m + 1 then wrap32 (sumV (gs.take (k + 1)) i) else wrap32 (sumV (gs.take k) i)) := Lib.hid ⟨by simpa using hcl, fun i hi => by
            rw [List.getD_eq_getElem?_getD, List.getElem?_set]
            by_cases e : m = i
            · subst e
              rw [if_pos rfl, if_pos (by omega), if_pos (by omega), hst, wrap32_add]; rfl
            · rw [if_neg e, ← List.getD_eq_getElem?_getD, hcs.out.2 i hi]
              by_cases e2 : i < m
              · rw [if_pos e2, if_pos (by omega)]
              · rw [if_neg e2, if_neg (by omega)]⟩
          have HE3 := Lib.hid (HE.out.other hgs2 (by omega))
          have hB3 := below_grown hB hgs2 (by omega)
          have b1f := b1.kept hgs2 (by simp <;> omega)
          have b2f := b2.kept hgs2 (by simp <;> omega)
          obtain ⟨_, k0, k1, k2, _, _, _⟩ := b2
          clear hcv hst hS hxv wx hcs hM hB b1 HE hcl hgs2
          go_wp2
          go_roundw
          case rel => exact ⟨m + 1, _, by omega, by go_num, hnew, hM3, hB3, b1f, b2f, HE3⟩
          case measure => simp [intOf]; omega
        · obtain rfl : m = R * C := by omega
          have hnew : Hid (cs2.length = R * C ∧ ∀ i, i < R * C → cs2.getD i 0 = wrap32 (sumV (gs.take (k + 1)) i)) := Lib.hid ⟨hcs.out.1, fun i hi => by rw [hcs.out.2 i hi, if_pos hi]⟩
          clear hcs HE
          go_wp2
          go_roundw
          case rel => exact ⟨k + 1, cs2, by omega, by go_num, hnew, hM, hB, b1, b2⟩
          case measure => simp [intOf]; omega
    · obtain rfl : k = n := by omega
      have hres : cs = tab R C fun i j => wrap32 (sumV gs (i * C + j)) := by
        rw [← tab_of R C cs hcs.out.1]
        refine tab_congr _ _ _ _ fun i j hi hj => ?_
        rw [hcs.out.2 _ (row_lt hi hj), show gs.take k = gs from List.take_of_length_le (by rw [HLEN.out]; omega)]
      have HRES := Lib.hid hres
      obtain ⟨k1, d0, d1, d2, e0, e1, e2⟩ := b1
      obtain ⟨h1, c0, c1, c2, f0, f1, f2⟩ := b2
      clear hcs hres
      go_wp2
      exact bodyPost_ret (v := .tuple #[.agg #[.int .i64 R, .int .i64 C, .slice (some ⟨g, 0, none⟩) (R * C : Nat) (R * C : Nat)], .int .i64 0]) (by simp [results, Try.results30, go_sem, d0, d1, d2]) rfl
        ⟨newGrid_res (by rw [← HRES.out]; exact hM) (tab_length _ _ _) hle (tab_wf fun i j _ _ => wrap32_wf _) (by omega), below_res hB (Nat.le_refl _) _ _ _⟩

end
end Go.Proofs.Ytocjcfblpifdhaa
