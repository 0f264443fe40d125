/-
  Contract of slices.DeleteFunc at grids, with what Beside asks of them.
-/
import Derived.Test.YtocjcfblpifdhaaWide
namespace Go.Proofs.Ytocjcfblpifdhaa
open Go.RowKit
set_option linter.unusedVariables false

/-- clear, of grids in a block that is known whole: what lies ahead stays -/
theorem run_clear_gr (w : World) (g : Nat) (cur : Array Value) (hg : w.heap[g]? = some (.cells cur 24 (0, 0))) (ty : TypeId) (o cnt c : Nat) (hfit : o + cnt * 3 ≤ cur.size) (hcnt : 0 < cnt) (hz : ∀ w, (zeroValue 24).run Try.prog w = .ok (.agg #[.int .i64 0, .int .i64 0, .slice none 0 0]) w) :
    ∃ w', Sem.run Try.prog (Builtin.clear_ #[36] ty #[.slice (some ⟨g, o, none⟩) cnt c]) w = .ok (.tuple #[]) w' ∧ w.grownBy w' (some g) ∧ ∀ j, j < o → w'.cell? ⟨g, j, none⟩ = w.cell? ⟨g, j, none⟩ := by
  have hlen : (Builtin.zeroCells (Value.agg #[.int .i64 0, .int .i64 0, .slice none 0 0]).cells cnt).toList.length = cnt * 3 := by
    have := size_zeroCells (Value.agg #[.int .i64 0, .int .i64 0, .slice none 0 0]).cells cnt
    rw [Array.length_toList, this]; rfl
  have h1 : ∀ v ∈ (Builtin.zeroCells (Value.agg #[.int .i64 0, .int .i64 0, .slice none 0 0]).cells cnt).toList, v.oneCell' = true := by
    intro v hv
    simp only [Builtin.zeroCells, Value.cells, Array.mem_toList_iff, Array.mem_map] at hv
    obtain ⟨i, _, rfl⟩ := hv
    have hi : i % 3 = 0 ∨ i % 3 = 1 ∨ i % 3 = 2 := by omega
    show ((#[Value.int .i64 0, .int .i64 0, .slice none 0 0] : Array Value)[i % 3]!).oneCell' = true
    rcases hi with e | e | e <;> rw [e] <;> rfl
  have hst := run_storeCells_at Try.prog g o 24 _ 0 cur w hg (by rw [hlen]; simpa using hfit) h1
  simp only [Nat.add_zero] at hst
  obtain ⟨X, hX⟩ : ∃ X, X = (List.take o cur.toList ++ (Builtin.zeroCells (Value.agg #[.int .i64 0, .int .i64 0, .slice none 0 0]).cells cnt).toList ++ List.drop (o + (Builtin.zeroCells (Value.agg #[.int .i64 0, .int .i64 0, .slice none 0 0]).cells cnt).toList.length) cur.toList).toArray := ⟨_, rfl⟩
  rw [← hX] at hst
  have hpre : ∀ j, j < o → X[j]? = cur[j]? := fun j hj => by
    rw [hX]
    rw [List.getElem?_toArray, List.append_assoc, List.getElem?_append_left (by rw [List.length_take, Array.length_toList]; omega), List.getElem?_take_of_lt hj]
    simp
  obtain ⟨m, rfl⟩ : ∃ m, cnt = m + 1 := ⟨cnt - 1, by omega⟩
  refine ⟨w.setRow g X, ?_, grownBy_setRow w g X, fun j hj => ?_⟩
  · simp [Builtin.clear_, run_underlying Try.underlying36, hz, hst]
  · rw [cell_of_row w g j cur _ _ hg, cell_setRow_same w g j cur X _ _ hg, hpre j hj]

/-- one grid of a row is set -/
theorem flat_set (gs : List Gr) (i : Nat) (g : Gr) (hi : i < gs.length) : (((gs.flatMap flat).set (i * 3) (.int .i64 g.r)).set (i * 3 + 1) (.int .i64 g.c)).set (i * 3 + 2) (.slice g.a g.n g.cap) = (gs.set i g).flatMap flat := by
  induction gs generalizing i with
  | nil => simp at hi
  | cons x xs ih =>
    cases i with
    | zero => simp [flat]
    | succ i =>
      have := ih i (by simpa using hi)
      rw [List.set_cons_succ, List.flatMap_cons, List.flatMap_cons, ← this]
      have e : ∀ (l : List Value) (k : Nat) (v : Value), (flat x ++ l).set ((i + 1) * 3 + k) v = flat x ++ l.set (i * 3 + k) v := fun l k v => by
        rw [List.set_append_right _ _ (by simp [flat]; omega)]
        congr 1
        congr 1
        simp [flat]; omega
      have e0 := e (xs.flatMap flat) 0 (.int .i64 g.r)
      rw [Nat.add_zero, Nat.add_zero] at e0
      rw [e0, e _ 1, e _ 2]
      rfl

theorem zero_grid (w : World) : (zeroValue 24).run Try.prog w = .ok (.agg #[.int .i64 0, .int .i64 0, .slice none 0 0]) w := by
  have h := info_grid
  cases hh : Try.prog.info? 24 with
  | none => rw [hh] at h; cases h
  | some i =>
    rw [hh] at h
    simp only [Option.map_some, Option.some.injEq, Prod.mk.injEq] at h
    simp [zeroValue, typeInfo, hh, h.1]

theorem own_grids {w : World} {base n : Nat} {v : Value} {gs : List Gr} (h : w.ownsRow base 24 3 v n (gs.flatMap flat)) (hl : gs.length = n) (hn : n ≤ 1000) (hin : ∀ g ∈ gs, g.In w) : ∃ a cap, v = .slice a n cap ∧ n ≤ cap ∧ cap ≤ 9223372036854775807 ∧ (0 < n → ∃ g, a = some ⟨g, 0, none⟩) ∧ Grids w a n gs := by
  rcases h.2 with ⟨rfl, rfl⟩ | ⟨g, cap, cur, rfl, hb, hg, hnc, hcm, hcs, ht⟩
  · exact ⟨none, 0, rfl, Nat.le_refl _, by omega, fun h => absurd h (by omega), hl, by omega, hin, fun hn => absurd hn (by omega)⟩
  · unfold maxLen at hcm
    refine ⟨some ⟨g, 0, none⟩, cap, rfl, hnc, hcm, fun _ => ⟨g, rfl⟩, hl, by omega, hin, fun hn => ⟨g, 0, rfl, fun i hi => ?_⟩⟩
    obtain ⟨e0, e1, e2⟩ := flat_at gs i (by omega)
    refine ⟨?_, ?_, ?_⟩
    · rw [Nat.zero_add, h.cellAt _ (by omega)]; exact e0
    · rw [Nat.zero_add, h.cellAt _ (by omega)]; exact e1
    · rw [Nat.zero_add, h.cellAt _ (by omega)]; exact e2

/-- the grids with columns -/
def wide (gs : List Gr) : List Gr := gs.filter fun g => decide (g.c ≠ 0)
theorem wide_all {gs : List Gr} (h : ∀ j, j < gs.length → (gs.getD j default).c ≠ 0) : wide gs = gs := by
  unfold wide
  rw [List.filter_eq_self]
  intro g hg
  obtain ⟨i, hi, rfl⟩ := List.mem_iff_getElem.1 hg
  have := h i hi
  rw [List.getD_eq_getElem?_getD, List.getElem?_eq_getElem hi] at this
  exact decide_eq_true this
theorem wide_take_step (gs : List Gr) (k : Nat) (hk : k < gs.length) (g : Gr) (hg : gs.getD k default = g) : wide (gs.take (k + 1)) = wide (gs.take k) ++ if g.c = 0 then [] else [g] := by
  unfold wide
  rw [List.take_add_one, List.filter_append, ← hg]
  congr 1
  rw [List.getD_eq_getElem?_getD, List.getElem?_eq_getElem hk]
  by_cases h : (gs[k]).c = 0 <;> simp [h]

set_option maxHeartbeats 2000000 in
theorem delete_any (w0 w : World) (v : Value) (n : Nat) (gs : List Gr) (hown : w.ownsRow w0.heap.size 24 3 v n (gs.flatMap flat)) (hB : Below w0.heap.size w0 w) (hin : ∀ g ∈ gs, g.In w0) (hl : gs.length = n) (h12 : n ≤ 12) :
    Calls Try.prog 49 #[v, .func (.func 51) #[] #[]] w fun e w' => (∃ a m cap, e = .returned (.slice a m cap) ∧ m ≤ n ∧ Grids w' a m (wide gs)) ∧ Below w0.heap.size w0 w' := by
  obtain ⟨a, cap, rfl, hcap, hcapm, hsome, hG⟩ := own_grids hown hl (by omega) (fun g hg => (hin g hg).below hB)
  have hidx := index_any a n cap gs w hG
  have HG := Lib.hid hG
  have HL := Lib.hid hl
  have HIN := Lib.hid hin
  have HOWN := Lib.hid hown
  clear hG hl hin hown
  go_enter Try.func49, Try.ntmps49
  go_wp2_with fail
  refine hidx.mono ?_
  rintro e wa ⟨hf, hba⟩
  have hB2 := below_two hB hba
  have HG2 := Lib.hid (HG.out.below hba)
  have HOWN2 := Lib.hid (own_below HOWN.out hba)
  rcases hf with ⟨rfl, hall⟩ | ⟨i, hi, rfl, hci, hlo⟩
  · have HW := Lib.hid (wide_all (gs := gs) (by rw [HL.out]; exact hall))
    clear hall hba hidx
    go_wp2
    go_ret
    exact ⟨⟨a, n, cap, rfl, Nat.le_refl _, by rw [HW.out]; exact HG2.out⟩, hB2⟩
  · obtain ⟨g, rfl⟩ := hsome (by omega)
    have hw1 : Hid (wide (gs.take (i + 1)) = gs.take i) := Lib.hid (by
      rw [wide_take_step gs i (by rw [HL.out]; exact hi) _ rfl, if_pos hci, List.append_nil]
      refine wide_all fun j hj => ?_
      have hji : j < i := by rw [List.length_take] at hj; omega
      have := hlo j hji
      rwa [List.getD_eq_getElem?_getD, List.getElem?_take_of_lt hji, ← List.getD_eq_getElem?_getD])
    have hgb : w0.heap.size ≤ g := (HOWN2.out.lt g rfl).1
    have hne1 : ((i : Int) == -1) = false := by simp
    have hne2 : ¬ (i : Int) = -1 := by omega
    clear hci hlo hba hidx
    go_wp2_with fail
    go_loopw [5, 6] (fun p q wr => ∃ (i' j' : Nat) (cur : List Gr), i' < j' ∧ j' ≤ n ∧ p = .int .i64 i' ∧ q = .int .i64 j' ∧ Hid (wr.ownsRow w0.heap.size 24 3 (.slice (some ⟨g, 0, none⟩) n cap) n (cur.flatMap flat) ∧ cur.length = n ∧ cur.take i' = wide (gs.take j') ∧ cur.drop j' = gs.drop j' ∧ ∀ x ∈ cur, x ∈ gs) ∧ Below w0.heap.size w0 wr) (fun _ q _ => n - (intOf q).toNat)
    case atStart => exact ⟨i, i + 1, gs, by omega, by omega, rfl, by go_num, Lib.hid ⟨HOWN2.out, HL.out, hw1.out.symm, rfl, fun x hx => hx⟩, hB2⟩
    case round =>
      clear hw1 HG2 HOWN2 hB2
      obtain ⟨i', j', cur, hij, hj, rfl, rfl, hinv, hB2⟩ := hrel
      have hsz := hB2.size
      by_cases hlt : j' < n
      · obtain ⟨hown, hcl, htk, hdr, hmem⟩ := hinv.out
        obtain ⟨x, hx⟩ : ∃ x, cur.getD j' default = x := ⟨_, rfl⟩
        have hxg : gs.getD j' default = x := by
          rw [← hx, List.getD_eq_getElem?_getD, List.getD_eq_getElem?_getD]
          have e1 : cur[j']? = (cur.drop j')[0]? := by rw [List.getElem?_drop, Nat.add_zero]
          have e2 : gs[j']? = (gs.drop j')[0]? := by rw [List.getElem?_drop, Nat.add_zero]
          rw [e1, e2, hdr]
        obtain ⟨e0, e1, e2⟩ := flat_at cur j' (by omega)
        rw [hx] at e0 e1 e2
        have c0 : wr.cell? ⟨g, j' * 3, none⟩ = some (.int .i64 x.r) := by rw [hown.cellAt _ (by omega)]; exact e0
        have c1 : wr.cell? ⟨g, j' * 3 + 1, none⟩ = some (.int .i64 x.c) := by rw [hown.cellAt _ (by omega)]; exact e1
        have c2 : wr.cell? ⟨g, j' * 3 + 2, none⟩ = some (.slice x.a x.n x.cap) := by rw [hown.cellAt _ (by omega)]; exact e2
        have hxm : x ∈ cur := by rw [← hx, List.getD_eq_getElem?_getD, List.getElem?_eq_getElem (by omega)]; exact List.getElem_mem _
        have hstep := wide_take_step gs j' (by rw [HL.out]; exact hlt) x hxg
        have hgl := (hown.lt g rfl).2
        have hq := fun W => nocols x W
        have HX := Lib.hid (And.intro htk (And.intro hdr (And.intro hmem (And.intro hxm (And.intro hstep hcl)))))
        have hBx := fun o => hB2.alloc hsz o
        have Z := box3_new wr (.int .i64 x.r) (.int .i64 x.c) (.slice x.a x.n x.cap) 24
        have hownA := fun o => hown.alloc o
        have hdrop1 : Hid (cur.drop (j' + 1) = gs.drop (j' + 1)) := Lib.hid (by rw [← List.drop_drop, ← List.drop_drop, hdr])
        obtain ⟨_, z0, z1, z2, _, _, _⟩ := Z
        have i0 : (0 : Int) ≤ (j' : Int) := by omega
        have i1 : (j' : Int) < (n : Int) := by omega
        have i2 : (0 : Int) ≤ (i' : Int) := by omega
        have i3 : (i' : Int) < (n : Int) := by omega
        clear e0 e1 e2 hx hxg htk hdr hmem hxm hstep hcl hinv
        by_cases hc : x.c = 0
        · rw [decide_eq_true hc] at hq
          have hst : Hid (cur.take i' = wide (gs.take (j' + 1))) := Lib.hid (by rw [HX.out.2.2.2.2.1, if_pos hc, List.append_nil]; exact HX.out.1)
          have HO := Lib.hid hownA
          clear hc hown hownA
          go_wp2_with fail
          refine (hq _).mono ?_
          rintro e wb ⟨rfl, hb⟩
          have hBb := below_two (hBx _) hb
          have HO2 := Lib.hid (own_below (HO.out _) hb)
          clear hq hBx HO hb c0 c1 c2 z0 z1 z2
          go_wp2
          go_roundw
          case rel => exact ⟨i', j' + 1, cur, by omega, by omega, rfl, by go_num, Lib.hid ⟨HO2.out, HX.out.2.2.2.2.2, hst.out, hdrop1.out, HX.out.2.2.1⟩, hBb⟩
          case measure => simp [intOf]; omega
        · rw [decide_eq_false hc] at hq
          have hst : Hid ((cur.set i' x).take (i' + 1) = wide (gs.take (j' + 1))) := Lib.hid (by
            rw [HX.out.2.2.2.2.1, if_neg hc, ← HX.out.1, List.take_add_one, List.take_set_of_le (Nat.le_refl _)]
            simp [show i' < cur.length by rw [HX.out.2.2.2.2.2]; omega])
          have HO := Lib.hid hownA
          clear hc hown hownA
          go_wp2_with fail
          refine (hq _).mono ?_
          rintro e wb ⟨rfl, hb⟩
          have hBb := below_two (hBx _) hb
          have hob := own_below (HO.out _) hb
          have Z2 := (box3_new wr (.int .i64 x.r) (.int .i64 x.c) (.slice x.a x.n x.cap) 24).below hb
          obtain ⟨_, y0, y1, y2, _, _, _⟩ := Z2
          have hcl := HX.out.2.2.2.2.2
          obtain ⟨f0, f1, f2⟩ := flat_at cur i' (by omega)
          have d0 : wb.cell? ⟨g, i' * 3, none⟩ = some (.int .i64 (cur.getD i' default).r) := by rw [hob.cellAt _ (by omega)]; exact f0
          have d1 : wb.cell? ⟨g, i' * 3 + 1, none⟩ = some (.int .i64 (cur.getD i' default).c) := by rw [hob.cellAt _ (by omega)]; exact f1
          have d2 : wb.cell? ⟨g, i' * 3 + 2, none⟩ = some (.slice (cur.getD i' default).a (cur.getD i' default).n (cur.getD i' default).cap) := by rw [hob.cellAt _ (by omega)]; exact f2
          have g0 := hob.frozenAt (i' * 3)
          have g1 := hob.frozenAt (i' * 3 + 1)
          have g2 := hob.frozenAt (i' * 3 + 2)
          have ho3 := (((hob.stored (i' * 3) (.int .i64 x.r)).1.stored (i' * 3 + 1) (.int .i64 x.c)).1.stored (i' * 3 + 2) (.slice x.a x.n x.cap)).1
          rw [flat_set cur i' x (by omega)] at ho3
          have hB3 : Below w0.heap.size w0 (((wb.setCell ⟨g, i' * 3, none⟩ (.int .i64 x.r)).setCell ⟨g, i' * 3 + 1, none⟩ (.int .i64 x.c)).setCell ⟨g, i' * 3 + 2, none⟩ (.slice x.a x.n x.cap)) := ((hBb.setCell (p := ⟨g, _, none⟩) hgb _).setCell (p := ⟨g, _, none⟩) hgb _).setCell (p := ⟨g, _, none⟩) hgb _
          have hnew : Hid ((cur.set i' x).length = n ∧ (cur.set i' x).drop (j' + 1) = gs.drop (j' + 1) ∧ ∀ y ∈ cur.set i' x, y ∈ gs) := Lib.hid ⟨by rw [List.length_set]; exact hcl, by rw [List.drop_set_of_lt (by omega)]; exact hdrop1.out, fun y hy => by
            rcases List.mem_or_eq_of_mem_set hy with h | rfl
            · exact HX.out.2.2.1 y h
            · exact HX.out.2.2.1 _ HX.out.2.2.2.1⟩
          have HO3 := Lib.hid ho3
          clear hq hBx HO hb c0 c1 c2 z0 z1 z2 f0 f1 f2 ho3 hcl hob
          go_wp2
          go_roundw
          case rel => exact ⟨i' + 1, j' + 1, cur.set i' x, by omega, by omega, by go_num, by go_num, Lib.hid ⟨HO3.out, hnew.out.1, hst.out, hnew.out.2.1, hnew.out.2.2⟩, hB3⟩
          case measure => simp [intOf]; omega
      · obtain rfl : j' = n := by omega
        obtain ⟨hown, hcl, htk, hdr, hmem⟩ := hinv.out
        rw [show gs.take j' = gs from List.take_of_length_le (by rw [HL.out]; omega)] at htk
        obtain ⟨g', cp, arr, he, hbs, hg, hnc, hcm, hcs, htake⟩ : ∃ g' cp arr, (Value.slice (some ⟨g, 0, none⟩) j' cap) = .slice (some ⟨g', 0, none⟩) j' cp ∧ w0.heap.size ≤ g' ∧ wr.heap[g']? = some (.cells arr 24 (0, 0)) ∧ j' ≤ cp ∧ cp ≤ maxLen ∧ arr.size = cp * 3 ∧ arr.toList.take (j' * 3) = cur.flatMap flat := by
          rcases hown.2 with ⟨h, _⟩ | h
          · cases h
          · exact h
        simp only [Value.slice.injEq, Option.some.injEq, Addr.mk.injEq, and_true, true_and] at he
        obtain ⟨rfl, rfl⟩ := he
        have hrun := fun ty => run_clear_gr wr g arr hg ty (i' * 3) (j' - i') (cap - i') (by omega) (by omega) zero_grid
        obtain ⟨wz, hrun0, hgz, hcz⟩ := hrun 0
        have hBz := hB2.grown hgz hsz (fun k hk => by cases hk; exact hgb)
        have hlw : (wide gs).length = i' := by rw [← htk, List.length_take]; omega
        have hG : Grids wz (some ⟨g, 0, none⟩) i' (wide gs) := by
          refine ⟨hlw, by omega, fun x hx => ?_, fun hn => ⟨g, 0, rfl, fun k hk => ?_⟩⟩
          · exact (HIN.out x (by unfold wide at hx; exact (List.mem_filter.1 hx).1)).below hBz
          · obtain ⟨e0, e1, e2⟩ := flat_at cur k (by omega)
            have hd : (wide gs).getD k default = cur.getD k default := by
              rw [← htk, List.getD_eq_getElem?_getD, List.getElem?_take_of_lt hk, ← List.getD_eq_getElem?_getD]
            rw [hd]
            refine ⟨?_, ?_, ?_⟩
            · rw [Nat.zero_add, hcz _ (by omega), hown.cellAt _ (by omega)]; exact e0
            · rw [Nat.zero_add, hcz _ (by omega), hown.cellAt _ (by omega)]; exact e1
            · rw [Nat.zero_add, hcz _ (by omega), hown.cellAt _ (by omega)]; exact e2
        have HGZ := Lib.hid hG
        have i0 : (0 : Int) ≤ (i' : Int) := by omega
        have i1 : (i' : Int) ≤ (j' : Int) := by omega
        have i2 : (j' : Int) ≤ (cap : Int) := by omega
        have i3 : (i' : Int) < (cap : Int) := by omega
        have i4 : (i' : Int) ≤ (cap : Int) := by omega
        clear hrun hG hown hcl htk hdr hmem hg hcs htake hinv hcz hlw hgz
        go_wp2
        go_ret
        exact ⟨⟨some ⟨g, 0, none⟩, i', cap, rfl, by omega, HGZ.out⟩, hBz⟩

end Go.Proofs.Ytocjcfblpifdhaa
