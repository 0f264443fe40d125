/-
  A store filled in turns: what is there behind each Put.
-/
import Derived.Test.YtglolgbicgmcpaaAwake12
namespace Go.Proofs.Ytglolgbicgmcpaa
open Go.RowKit Go.Maps
set_option linter.unusedVariables false

def fillEnt (m j : Nat) : Ent := ⟨((j % m : Nat) : Int), 2, ((j / m : Nat) : Int), [(j : Int)], [1]⟩
def fillL (m c : Nat) : List Ent := (List.range c).map (fillEnt m)
theorem fillL_len (m c : Nat) : (fillL m c).length = c := by simp [fillL]
theorem fillL_succ (m c : Nat) : fillL m (c + 1) = fillL m c ++ [fillEnt m c] := by simp [fillL, List.range_succ]
theorem split_nat {m j r p : Nat} (hm : 0 < m) (h1 : j % m = r) (h2 : j / m = p) : j = p * m + r := by
  have := Nat.div_add_mod j m
  rw [h1, h2, Nat.mul_comm] at this
  exact this.symm
theorem fill_has {m c r p : Nat} (hm : 0 < m) (hr : r < m) : hasE (fillL m c) (r : Int) 2 (p : Int) = decide (p * m + r < c) := by
  rw [Bool.eq_iff_iff, hasE_iff, decide_eq_true_iff]
  constructor
  · rintro ⟨x, hx, h1, h2, h3⟩
    obtain ⟨j, hj, rfl⟩ := List.mem_map.1 hx
    have hj := List.mem_range.1 hj
    simp only [fillEnt] at h1 h3
    have := split_nat hm (show j % m = r by omega) (show j / m = p by omega)
    omega
  · intro h
    refine ⟨fillEnt m (p * m + r), List.mem_map.2 ⟨_, List.mem_range.2 h, rfl⟩, ?_, rfl, ?_⟩
    · simp only [fillEnt]
      congr 1
      rw [Nat.add_comm, Nat.add_mul_mod_self_right, Nat.mod_eq_of_lt hr]
    · simp only [fillEnt]
      congr 1
      rw [Nat.add_comm, Nat.add_mul_div_right _ _ hm, Nat.div_eq_of_lt hr, Nat.zero_add]
theorem fill_at {m c i : Nat} (hm : 0 < m) : hasE (fillL m c) ((i % m : Nat) : Int) 2 ((i / m : Nat) : Int) = decide (i < c) := by
  rw [fill_has hm (Nat.mod_lt _ hm)]
  have := split_nat hm (show i % m = i % m from rfl) (show i / m = i / m from rfl)
  rw [← this]
theorem fill_ahead {m c i : Nat} (hm : 0 < m) : aheadE (fillL m c) ((i % m : Nat) : Int) 2 ((i / m : Nat) : Int) = (decide (i < m) || decide (i < c + m)) := by
  have hs := split_nat hm (show i % m = i % m from rfl) (show i / m = i / m from rfl)
  have hlt := Nat.mod_lt i hm
  unfold aheadE
  by_cases h0 : i / m = 0
  · rw [if_pos (by omega)]
    have : i < m := by rw [h0] at hs; omega
    rw [decide_eq_true this]; rfl
  · rw [if_neg (by omega)]
    have e : ((i / m : Nat) : Int) - 1 = ((i / m - 1 : Nat) : Int) := by
      generalize i / m = d at h0 ⊢
      omega
    rw [e, fill_has hm hlt]
    have h2 : (i / m - 1) * m + i % m + m = i := by
      obtain ⟨d, hd⟩ : ∃ d, i / m = d + 1 := ⟨i / m - 1, by omega⟩
      rw [hd] at hs ⊢
      rw [Nat.succ_mul] at hs
      simp only [Nat.add_sub_cancel]
      omega
    have h3 : ¬ i < m := fun h => h0 (Nat.div_eq_of_lt h)
    rw [decide_eq_false h3, Bool.false_or]
    congr 1
    apply propext
    omega
theorem fill_find {m c i : Nat} (hm : 0 < m) (h : c ≤ i) : findE (fillL m c) ((i % m : Nat) : Int) 2 ((i / m : Nat) : Int) = none := by
  cases hf : findE (fillL m c) ((i % m : Nat) : Int) 2 ((i / m : Nat) : Int) with
  | none => rfl
  | some y =>
    obtain ⟨h1, h2⟩ := findE_some hf
    have : hasE (fillL m c) ((i % m : Nat) : Int) 2 ((i / m : Nat) : Int) = true := hasE_iff.2 ⟨y, h1, h2⟩
    rw [fill_at hm] at this
    simp at this
    omega
theorem fill_nn (m i : Nat) : 0 ≤ (fillEnt m i).r ∧ 0 ≤ (fillEnt m i).l ∧ 0 ≤ (fillEnt m i).p := ⟨Int.natCast_nonneg _, by simp [fillEnt], Int.natCast_nonneg _⟩
theorem fill_put {m k i : Nat} (hm : 0 < m) (hi : i < k) : putE k (fillL m i) (fillEnt m i) = (0, fillL m (i + 1)) := by
  have ha := fill_ahead (c := i) (i := i) hm
  rw [decide_eq_true (show i < i + m by omega), Bool.or_true] at ha
  rw [putE_on (fill_nn m i) rfl (by simpa [fillEnt] using ha)]
  have hf := fill_find (c := i) (i := i) hm (Nat.le_refl _)
  simp only [fillEnt] at hf ⊢
  rw [hf]
  simp only
  rw [if_neg (by rw [fillL_len]; omega), fillL_succ]
  rfl
theorem fill_full {m k i : Nat} (hm : 0 < m) (hi : k ≤ i) : ∃ x : Int, putE k (fillL m k) (fillEnt m i) = (x, fillL m k) ∧ (x = 80 ∨ x = 120) := by
  cases ha : aheadE (fillL m k) (fillEnt m i).r (fillEnt m i).l (fillEnt m i).p with
  | false => exact ⟨120, putE_gap (fill_nn m i) rfl ha, .inr rfl⟩
  | true =>
    refine ⟨80, ?_, .inl rfl⟩
    rw [putE_on (fill_nn m i) rfl ha]
    have hf := fill_find (c := k) (i := i) hm hi
    simp only [fillEnt] at hf ⊢
    rw [hf]
    simp only
    rw [if_pos (by rw [fillL_len]; exact Nat.le_refl _)]
theorem fill_line {m i : Nat} (hm : 0 < m) : LineN (fillL m (i + 1)) ((i % m : Nat) : Int) 2 (i / m + 1) := by
  have hs := split_nat hm (show i % m = i % m from rfl) (show i / m = i / m from rfl)
  refine ⟨fun p hp => ?_, ?_⟩
  · rw [fill_has hm (Nat.mod_lt _ hm)]
    have : p * m ≤ i / m * m := Nat.mul_le_mul_right _ (by omega)
    exact decide_eq_true (by omega)
  · have e : ((i / m + 1 : Nat) : Int) = ((i / m + 1 : Nat) : Int) := rfl
    rw [fill_has hm (Nat.mod_lt _ hm)]
    have : (i / m + 1) * m = i / m * m + m := Nat.succ_mul _ _
    exact decide_eq_false (by omega)
theorem fill_count : ∀ k, k < 40 → ∀ m, m < 6 → 0 < m → ((List.range k).filter fun j => !(j % m == 0)).length + (k + m - 1) / m = k := by decide +kernel
theorem fill_drop {k m : Nat} (hk : k < 40) (hm : m < 6) (h0 : 0 < m) : ((fillL m k).filter fun x => !(x.r == 0)).length + (k + m - 1) / m = k := by
  have := fill_count k hk m hm h0
  have e : ((fillL m k).filter fun x => !(x.r == 0)).length = ((List.range k).filter fun j => !(j % m == 0)).length := by
    rw [fillL, List.filter_map, List.length_map]
    congr 1
    refine List.filter_congr fun j _ => ?_
    simp only [fillEnt, Function.comp]
    congr 1
    rw [Bool.eq_iff_iff]
    simp only [beq_iff_eq]
    generalize j % m = d
    omega
  rw [e]
  exact this

theorem rw_nil (w : World) (kd : IntKind) : Rw.In kd w ⟨none, 0, 0, []⟩ := ⟨Elems.nil_ _ _ _, Nat.le_refl _, by simp, ⟨(fun _ => rfl), (fun x hx => by cases hx)⟩⟩
theorem fill_put0 {k m : Nat} (hm : 0 < m) (hk : 0 < k) (hf : ((fillL m k).filter fun x => !(x.r == 0)).length < k) : (putE k ((fillL m k).filter fun x => !(x.r == 0)) ⟨0, 0, 0, [], []⟩).1 = 0 := by
  rw [putE_on ⟨by simp, by simp, by simp⟩ rfl (by simp [aheadE])]
  have hn : findE ((fillL m k).filter fun x => !(x.r == 0)) 0 0 0 = none := by
    cases hf : findE ((fillL m k).filter fun x => !(x.r == 0)) 0 0 0 with
    | none => rfl
    | some y =>
      obtain ⟨h1, _, h2, _⟩ := findE_some hf
      obtain ⟨h3, _⟩ := List.mem_filter.1 h1
      obtain ⟨j, _, rfl⟩ := List.mem_map.1 h3
      simp [fillEnt] at h2
  simp only
  rw [hn]
  simp only
  rw [if_neg (by omega)]
theorem nil_put (k : Nat) : (putE k [] ⟨9, 9, 0, [], []⟩).1 = if k = 0 then 80 else 0 := by
  rw [putE_on ⟨by simp, by simp, by simp⟩ rfl (by simp [aheadE])]
  simp only [findE, List.find?_nil, List.length_nil]
  by_cases h : k = 0
  · rw [if_pos (by omega), if_pos h]
  · rw [if_neg (by omega), if_neg h]

end Go.Proofs.Ytglolgbicgmcpaa
