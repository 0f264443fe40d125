/-
  slices.Delete of the first k bodies, in their own block.
-/
import Derived.Test.YtkinbngikmcpeaaTickM16
namespace Go.Proofs.Ytkinbngikmcpeaa
open Go.RowKit Go.Maps
set_option linter.unusedVariables false

theorem zero_wait (w : World) : (zeroValue 82).run Try.prog w = .ok (.agg #[.slice none 0 0, .int .i64 0]) w := by
  have h := info_wait
  cases hh : Try.prog.info? 82 with
  | none => rw [hh] at h; cases h
  | some i =>
    rw [hh] at h
    simp only [Option.map_some, Option.some.injEq, Prod.mk.injEq] at h
    simp [zeroValue, typeInfo, hh, h.1]
def zw16 (cnt : Nat) : List Value := (Builtin.zeroCells (Value.agg #[.slice none 0 0, .int .i64 0]).cells cnt).toList
theorem zw_len (cnt : Nat) : (zw16 cnt).length = cnt * 2 := by
  have := size_zeroCells (Value.agg #[.slice none 0 0, .int .i64 0]).cells cnt
  unfold zw16
  rw [Array.length_toList, this]; rfl
theorem zw_in (cnt : Nat) : ∀ v ∈ zw16 cnt, v.oneCell' = true ∧ NoU v := by
  intro v hv
  simp only [zw16, Builtin.zeroCells, Value.cells, Array.mem_toList_iff, Array.mem_map] at hv
  obtain ⟨i, _, rfl⟩ := hv
  have hi : i % 2 = 0 ∨ i % 2 = 1 := by omega
  show ((#[Value.slice none 0 0, .int .i64 0] : Array Value)[i % 2]!).oneCell' = true ∧ NoU ((#[Value.slice none 0 0, .int .i64 0] : Array Value)[i % 2]!)
  rcases hi with e | e <;> rw [e]
  · exact ⟨rfl, noU_slice _ _ _⟩
  · exact ⟨rfl, noU_i64 _⟩
/-- clear, of bodies in a block that is known whole -/
theorem run_clear16 (w : World) (g : Nat) (cur : Array Value) (hg : Box w g 82 cur) (ty : TypeId) (o cnt c : Nat) (hfit : o + cnt * 2 ≤ cur.size) (hcnt : 0 < cnt) :
    Sem.run Try.prog (Builtin.clear_ #[74] ty #[.slice (some ⟨g, o, none⟩) cnt c]) w = .ok (.tuple #[]) (w.setRow g (List.take o cur.toList ++ zw16 cnt ++ List.drop (o + cnt * 2) cur.toList).toArray) := by
  have hst := run_storeCells_at Try.prog g o 82 (zw16 cnt) 0 cur w hg (by rw [zw_len]; simpa using hfit) (fun v hv => (zw_in cnt v hv).1)
  simp only [Nat.add_zero] at hst
  rw [zw_len] at hst
  obtain ⟨m, rfl⟩ : ∃ m, cnt = m + 1 := ⟨cnt - 1, by omega⟩
  unfold zw16 at hst ⊢
  simp [Builtin.clear_, run_underlying Try.underlying74, hst]

theorem size_wait : ∃ i, Try.prog.info? 82 = some i ∧ i.size = 2 := by
  have h := info_wait
  cases hh : Try.prog.info? 82 with
  | none => rw [hh] at h; cases h
  | some i =>
    rw [hh] at h
    simp only [Option.map_some, Option.some.injEq, Prod.mk.injEq] at h
    exact ⟨i, rfl, h.2.1⟩
set_option maxHeartbeats 1600000 in
set_option maxRecDepth 100000 in
theorem delete16 (w : World) (g n k vc : Nat) (cur : Array Value) (hX : Box w g 82 cur) (hU : ∀ u ∈ cur.toList, NoU u) (h1 : ∀ u ∈ cur.toList.take (n * 2), u.oneCell' = true) (hk : 1 ≤ k ∧ k ≤ n) (hc : n ≤ vc) (hvc : vc ≤ 9223372036854775807) (hs : cur.size = vc * 2) :
    Calls Try.prog 41 #[.slice (some ⟨g, 0, none⟩) n vc, .int .i64 0, .int .i64 k] w fun e w' => e = .returned (.slice (some ⟨g, 0, none⟩) (n - k) vc) ∧ w.grownBy w' (some g) ∧ ∃ cur', Box w' g 82 cur' ∧ cur'.size = vc * 2 ∧ (∀ u ∈ cur'.toList, NoU u) ∧ cur'.toList.take ((n - k) * 2) = (cur.toList.take (n * 2)).drop (k * 2) := by
  have i1 : (0 : Int) ≤ (k : Int) := by omega
  have i2 : (k : Int) ≤ (n : Int) := by omega
  have i3 : (n : Int) ≤ (vc : Int) := by omega
  have i4 : (k : Int) ≤ (vc : Int) := by omega
  have i5 : ((n - k : Nat) : Int) ≤ (n : Int) := by omega
  have i6 : ((n - k : Nat) : Int) < (vc : Int) := by omega
  have i7 : ((n - k : Nat) : Int) ≤ (vc : Int) := by omega
  have i8 : ((0 : Int) == (k : Int)) = false := by simp; omega
  obtain ⟨i0, hi0, hsz⟩ := size_wait
  obtain ⟨news, hnews⟩ : ∃ news, (cur.toList.take (n * 2)).drop (k * 2) = news := ⟨_, rfl⟩
  have hnl : news.length = (n - k) * 2 := by rw [← hnews, List.length_drop, List.length_take, Array.length_toList, hs]; omega
  have hn1 : ∀ u ∈ news, u.oneCell' = true := fun u hu => h1 u (by rw [← hnews] at hu; exact List.mem_of_mem_drop hu)
  obtain ⟨c1, hc1⟩ : ∃ c1, (cur.toList.take (0 * i0.size) ++ news ++ cur.toList.drop (0 * i0.size + news.length)).toArray = c1 := ⟨_, rfl⟩
  have hc1l : c1.toList = news ++ cur.toList.drop news.length := by rw [← hc1]; simp
  have hcl : cur.toList.length = vc * 2 := by simp [hs]
  have hc1s : c1.size = vc * 2 := by
    rw [← Array.length_toList, hc1l, List.length_append, List.length_drop, hcl, hnl]; omega
  obtain ⟨wA, hwA⟩ : ∃ wA, w.drew.setRow g c1 = wA := ⟨_, rfl⟩
  have hXA : Box wA g 82 c1 := by rw [← hwA]; exact Box.setRow hX.drew
  have hrun : ∀ b : Addr, (k < vc → b = ⟨g, k * 2, none⟩) → Sem.run Try.prog (Builtin.append_ #[74, 74] 74 #[.slice (some ⟨g, 0, none⟩) 0 vc, .slice (some b) (n - k) (vc - k)]) w.drew = .ok (.slice (some ⟨g, 0, none⟩) (n - k) vc) wA := fun b hb => by
    have := run_append_room (P := Try.prog) (w := w.drew) 74 74 82 i0 Try.underlying74 hi0 g 0 vc cur hX.drew b (n - k) (vc - k) news (by rw [hnl, hsz]) (fun j u hju => by
      have hj : j < (n - k) * 2 := by rw [← hnl]; exact (List.getElem?_eq_some_iff.1 hju).1
      obtain rfl := hb (by omega)
      rw [← hnews, List.getElem?_drop, List.getElem?_take_of_lt (by omega), Array.getElem?_toList] at hju
      have e : Addr.add ⟨g, k * 2, none⟩ j = ⟨g, k * 2 + j, none⟩ := by unfold Addr.add; split <;> (try rfl); rename_i h; subst h; rfl
      rw [e]
      exact (hX.drew.cell _).trans hju) hn1 (by omega) (by rw [hnl, hs]; omega)
    rw [hc1, Nat.zero_add, hwA] at this
    exact this
  have hU1 : ∀ u ∈ c1.toList, NoU u := fun u hu => by
    rw [hc1l] at hu
    rcases List.mem_append.1 hu with hu | hu
    · rw [← hnews] at hu; exact hU u (List.mem_of_mem_take (List.mem_of_mem_drop hu))
    · exact hU u (List.mem_of_mem_drop hu)
  obtain ⟨c2, hc2⟩ : ∃ c2, (List.take ((n - k) * 2) c1.toList ++ zw16 k ++ List.drop ((n - k) * 2 + k * 2) c1.toList).toArray = c2 := ⟨_, rfl⟩
  obtain ⟨wB, hwB⟩ : ∃ wB, wA.setRow g c2 = wB := ⟨_, rfl⟩
  have hclr : ∀ ty, Sem.run Try.prog (Builtin.clear_ #[74] ty #[.slice (some ⟨g, (n - k) * 2, none⟩) k (vc - (n - k))]) wA = .ok (.tuple #[]) wB := fun ty => by
    rw [← hwB, ← hc2]
    exact run_clear16 wA g c1 hXA ty _ _ _ (by rw [hc1s]; have := Nat.mul_le_mul_right 2 (show n ≤ vc from hc); omega) (by omega)
  have hXB : Box wB g 82 c2 := by rw [← hwB]; exact hXA.setRow
  have hc2l : c2.toList = List.take ((n - k) * 2) c1.toList ++ zw16 k ++ List.drop ((n - k) * 2 + k * 2) c1.toList := by rw [← hc2]
  have HFIN : Hid (w.grownBy wB (some g) ∧ ∃ cur', Box wB g 82 cur' ∧ cur'.size = vc * 2 ∧ (∀ u ∈ cur'.toList, NoU u) ∧ cur'.toList.take ((n - k) * 2) = (cur.toList.take (n * 2)).drop (k * 2)) := Lib.hid ⟨by
    have g1 := grownBy_setRow w.drew g c1
    have g2 := grownBy_setRow wA g c2
    rw [hwA] at g1
    rw [hwB] at g2
    exact ⟨g2.os.trans g1.os, g2.tape.trans g1.tape, g2.output.trans g1.output, Nat.le_trans g1.size g2.size, fun j hj hne => (g2.block j (Nat.lt_of_lt_of_le hj g1.size) hne).trans (g1.block j hj hne)⟩, c2, hXB, by
      rw [← Array.length_toList, hc2l, List.length_append, List.length_append, List.length_take, List.length_drop, zw_len, Array.length_toList, hc1s]; omega, fun u hu => by
      rw [hc2l] at hu
      rcases List.mem_append.1 hu with hu | hu
      · rcases List.mem_append.1 hu with hu | hu
        · exact hU1 u (List.mem_of_mem_take hu)
        · exact (zw_in k u hu).2
      · exact hU1 u (List.mem_of_mem_drop hu), by
      rw [hnews, hc2l, List.append_assoc, List.take_append_of_le_length (by rw [List.length_take, Array.length_toList, hc1s]; omega), List.take_take, Nat.min_self, hc1l, List.take_append_of_le_length (by omega), List.take_of_length_le (by omega)]⟩
  clear hc2l hXB hU1 hc1l hc1s hXA hn1 hnl hwB hc2 hU h1 hX hc1
  have HFIN2 : Hid (k < vc ∨ n - k = 0 ∧ vc = k ∧ n = k) := Lib.hid (by omega)
  by_cases hv : k < vc
  · have hr := hrun _ (fun _ => rfl)
    have hne : ¬ vc = k := by omega
    have j1 : n - k ≠ vc := by omega
    have j2 : ¬ vc = n - k := by omega
    clear hrun hs hvc hc hnews hwA hi0 hsz hcl
    go_enter Try.func41, Try.ntmps41
    go_upto_region 5 with fail
    refine wp_region_held_drew (S := (fun _ => True)) (by kernel_rfl) ?_ (fun hHeld => ?_)
    · (first | done | exact True.intro)
    refine wpAnyH_take (i := 0) (oi := ⟨some 20, _, _, _, _, _⟩) (v := ?_) rfl (by kernel_rfl) (by kernel_rfl) (by kernel_rfl) (fun _ _ _ h => h) (Or.inl ⟨by rfl, ?hy1⟩) hHeld ?rest1
    case hy1 => (intro W hSw; (try dsimp only at hSw); go_simp; (try with_reducible rfl))
    simp only [Act.put, List.setIfInBounds_toArray, List.set_cons_zero, List.set_cons_succ]
    refine wpAnyH_take (i := 1) (oi := ⟨some 21, _, _, _, _, _⟩) (v := ?_) rfl (by kernel_rfl) (by kernel_rfl) (by kernel_rfl) (fun _ _ _ h => h) (Or.inl ⟨by rfl, ?hy2⟩) hHeld ?rest2
    case hy2 => (intro W hSw; (try dsimp only at hSw); go_simp; (try with_reducible rfl))
    simp only [Act.put, List.setIfInBounds_toArray, List.set_cons_zero, List.set_cons_succ]
    refine wpAnyH_take (i := 2) (oi := ⟨some 22, _, _, _, _, _⟩) (v := ?_) rfl (by kernel_rfl) (by kernel_rfl) (by kernel_rfl) (fun _ _ _ h => h) (Or.inl ⟨by rfl, ?hy3⟩) hHeld ?rest3
    case hy3 => (intro W hSw; (try dsimp only at hSw); go_simp; (try with_reducible rfl))
    simp only [Act.put, List.setIfInBounds_toArray, List.set_cons_zero, List.set_cons_succ]
    refine wpAnyH_take (i := 3) (oi := ⟨some 23, _, _, _, _, _⟩) (v := ?_) rfl (by kernel_rfl) (by kernel_rfl) (by kernel_rfl) (fun _ _ _ h => h) (Or.inl ⟨by rfl, ?hy4⟩) hHeld ?rest4
    case hy4 => (intro W hSw; (try dsimp only at hSw); go_simp; (try with_reducible rfl))
    simp only [Act.put, List.setIfInBounds_toArray, List.set_cons_zero, List.set_cons_succ]
    refine wpAnyH_take (i := 4) (oi := ⟨some 24, _, _, _, _, _⟩) (v := ?_) rfl (by kernel_rfl) (by kernel_rfl) (by kernel_rfl) (fun _ _ _ h => h) (Or.inl ⟨by rfl, ?hy5⟩) hHeld ?rest5
    case hy5 => (intro W hSw; (try dsimp only at hSw); go_simp; (try with_reducible rfl))
    simp only [Act.put, List.setIfInBounds_toArray, List.set_cons_zero, List.set_cons_succ]
    refine wpAnyH_take (i := 5) (oi := ⟨some 25, _, _, _, _, _⟩) (v := ?_) rfl (by kernel_rfl) (by kernel_rfl) (by kernel_rfl) (fun _ _ _ h => h) (Or.inl ⟨by rfl, ?hy6⟩) hHeld ?rest6
    case hy6 => (intro W hSw; (try dsimp only at hSw); go_simp; (try with_reducible rfl))
    simp only [Act.put, List.setIfInBounds_toArray, List.set_cons_zero, List.set_cons_succ]
    refine wpAnyH_ready (rs := [6]) (by kernel_rfl) (by simp) ?_
    refine AllReadyH.cons (o := ⟨some 26, _, _, _, _, _⟩) rfl (fun K hK => ?_) AllReadyH.nil
    ((with_reducible refine step_append_run ?_ (.tmp 22) (.tmp 25) 74 ?_ _ _ ?_ ?_ hr ?_); rfl; rfl; rfl; rfl)
    refine hK.out _ _ ?_ (fun hNew => ?_)
    · ((try dsimp only); (first | done | exact True.intro))
    clear hK K hHeld
    have hHeld := hNew
    clear hNew
    try simp only [Act.put, List.setIfInBounds_toArray, List.set_cons_zero, List.set_cons_succ]
    refine wpAnyH_take (i := 7) (oi := ⟨some 0, _, _, _, _, _⟩) (v := ?_) rfl (by kernel_rfl) (by kernel_rfl) (by kernel_rfl) (fun _ _ _ h => h) (Or.inl ⟨by rfl, ?hy8⟩) hHeld ?rest8
    case hy8 => (intro W hSw; (try dsimp only at hSw); go_simp; (try with_reducible rfl))
    simp only [Act.put, List.setIfInBounds_toArray, List.set_cons_zero]
    refine wpAnyH_done (by kernel_rfl) ?_ _
    go_upto_region 6 with fail
    have hcl2 : ∀ ty, Sem.run Try.prog (Builtin.clear_ #[74] ty #[.slice (some ⟨g, (n - k) * 2, none⟩) (n - (n - k)) (vc - (n - k))]) wA = .ok (.tuple #[]) wB := fun ty => by rw [show n - (n - k) = k by omega]; exact hclr ty
    clear hr hclr
    go_wp2_with fail
    go_ret
    exact ⟨rfl, HFIN.out⟩
  · obtain ⟨e1, rfl, rfl⟩ := HFIN2.out.resolve_left hv
    have hr := hrun ⟨g, 0, none⟩ (fun h => absurd h hv)
    rw [Nat.sub_self] at hr hclr HFIN ⊢
    rw [Nat.sub_zero, Nat.zero_mul] at hclr
    clear hrun hs hvc hc hnews hwA hi0 hsz hcl HFIN2 hv e1
    go_enter Try.func41, Try.ntmps41
    go_upto_region 5 with fail
    refine wp_region_held_drew (S := (fun _ => True)) (by kernel_rfl) ?_ (fun hHeld => ?_)
    · (first | done | exact True.intro)
    refine wpAnyH_take (i := 0) (oi := ⟨some 20, _, _, _, _, _⟩) (v := ?_) rfl (by kernel_rfl) (by kernel_rfl) (by kernel_rfl) (fun _ _ _ h => h) (Or.inl ⟨by rfl, ?hy9⟩) hHeld ?rest9
    case hy9 => (intro W hSw; (try dsimp only at hSw); go_simp; (try with_reducible rfl))
    simp only [Act.put, List.setIfInBounds_toArray, List.set_cons_zero, List.set_cons_succ]
    refine wpAnyH_take (i := 1) (oi := ⟨some 21, _, _, _, _, _⟩) (v := ?_) rfl (by kernel_rfl) (by kernel_rfl) (by kernel_rfl) (fun _ _ _ h => h) (Or.inl ⟨by rfl, ?hy10⟩) hHeld ?rest10
    case hy10 => (intro W hSw; (try dsimp only at hSw); go_simp; (try with_reducible rfl))
    simp only [Act.put, List.setIfInBounds_toArray, List.set_cons_zero, List.set_cons_succ]
    refine wpAnyH_take (i := 2) (oi := ⟨some 22, _, _, _, _, _⟩) (v := ?_) rfl (by kernel_rfl) (by kernel_rfl) (by kernel_rfl) (fun _ _ _ h => h) (Or.inl ⟨by rfl, ?hy11⟩) hHeld ?rest11
    case hy11 => (intro W hSw; (try dsimp only at hSw); go_simp; (try with_reducible rfl))
    simp only [Act.put, List.setIfInBounds_toArray, List.set_cons_zero, List.set_cons_succ]
    refine wpAnyH_take (i := 3) (oi := ⟨some 23, _, _, _, _, _⟩) (v := ?_) rfl (by kernel_rfl) (by kernel_rfl) (by kernel_rfl) (fun _ _ _ h => h) (Or.inl ⟨by rfl, ?hy12⟩) hHeld ?rest12
    case hy12 => (intro W hSw; (try dsimp only at hSw); go_simp; (try with_reducible rfl))
    simp only [Act.put, List.setIfInBounds_toArray, List.set_cons_zero, List.set_cons_succ]
    refine wpAnyH_take (i := 4) (oi := ⟨some 24, _, _, _, _, _⟩) (v := ?_) rfl (by kernel_rfl) (by kernel_rfl) (by kernel_rfl) (fun _ _ _ h => h) (Or.inl ⟨by rfl, ?hy13⟩) hHeld ?rest13
    case hy13 => (intro W hSw; (try dsimp only at hSw); go_simp; (try with_reducible rfl))
    simp only [Act.put, List.setIfInBounds_toArray, List.set_cons_zero, List.set_cons_succ]
    refine wpAnyH_take (i := 5) (oi := ⟨some 25, _, _, _, _, _⟩) (v := ?_) rfl (by kernel_rfl) (by kernel_rfl) (by kernel_rfl) (fun _ _ _ h => h) (Or.inl ⟨by rfl, ?hy14⟩) hHeld ?rest14
    case hy14 => (intro W hSw; (try dsimp only at hSw); go_simp; (try with_reducible rfl))
    simp only [Act.put, List.setIfInBounds_toArray, List.set_cons_zero, List.set_cons_succ]
    refine wpAnyH_ready (rs := [6]) (by kernel_rfl) (by simp) ?_
    refine AllReadyH.cons (o := ⟨some 26, _, _, _, _, _⟩) rfl (fun K hK => ?_) AllReadyH.nil
    ((with_reducible refine step_append_run ?_ (.tmp 22) (.tmp 25) 74 ?_ _ _ ?_ ?_ hr ?_); rfl; rfl; rfl; rfl)
    refine hK.out _ _ ?_ (fun hNew => ?_)
    · ((try dsimp only); (first | done | exact True.intro))
    clear hK K hHeld
    have hHeld := hNew
    clear hNew
    try simp only [Act.put, List.setIfInBounds_toArray, List.set_cons_zero, List.set_cons_succ]
    refine wpAnyH_take (i := 7) (oi := ⟨some 0, _, _, _, _, _⟩) (v := ?_) rfl (by kernel_rfl) (by kernel_rfl) (by kernel_rfl) (fun _ _ _ h => h) (Or.inl ⟨by rfl, ?hy16⟩) hHeld ?rest16
    case hy16 => (intro W hSw; (try dsimp only at hSw); go_simp; (try with_reducible rfl))
    simp only [Act.put, List.setIfInBounds_toArray, List.set_cons_zero]
    refine wpAnyH_done (by kernel_rfl) ?_ _
    go_upto_region 6 with fail
    clear hr
    go_wp2_with fail
    go_ret
    exact ⟨rfl, HFIN.out⟩

end Go.Proofs.Ytkinbngikmcpeaa
