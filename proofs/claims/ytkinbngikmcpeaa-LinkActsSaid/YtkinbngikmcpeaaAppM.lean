/-
  An append of some elements, wherever they lie, to a row of the call's own; of rows to a list of rows.
-/
import Derived.Test.YtkinbngikmcpeaaListR
namespace Go.Proofs.Ytkinbngikmcpeaa
open Go.RowKit
set_option linter.unusedVariables false

/-- some elements more, wherever they lie, behind a row of the call's own of such -/
theorem append_m {P : Program} {ok : Value → Prop} (w : World) (base : Nat) (t e : TypeId) (z : Value) (size bytes : Nat) (ht : P.underlying t = some (.slice e)) (hinfo : (P.info? e).map (fun i => (i.zero, i.size, i.bytes)) = some (some z, size, bytes)) (hzs : z.cells.size = size) (hsz : 0 < size) (hs10 : size ≤ 40) (hb100 : bytes ≤ 400)
    (hzc : ∀ u ∈ z.cells.toList, ok u) (lv : Value) (p : Nat) (xs news : List Value) (h : w.ownsRow base e size lv p xs) (hsl : ∀ g, lv.ownBlock = some g → AllC ok w e g) (hp : p ≤ 2000000) (ad : Addr) (m sc : Nat) (hm : 1 ≤ m ∧ m ≤ 1000000) (hl : news.length = m * size) (hnews : ∀ j u, news[j]? = some u → w.cell? (ad.add j) = some u) (hsn : ∀ u ∈ news, ok u) (hone : ∀ u ∈ news, u.oneCell' = true) (hbase : base ≤ w.heap.size) :
    ∃ g cap w', Sem.run P (Builtin.append_ #[t, t] t #[lv, .slice (some ad) m sc]) w = .ok (.slice (some ⟨g, 0, none⟩) (p + m) cap) w' ∧
      w'.ownsRow base e size (.slice (some ⟨g, 0, none⟩) (p + m) cap) (p + m) (xs ++ news) ∧ AllC ok w' e g ∧ w.grownBy w' lv.ownBlock ∧ (lv.ownBlock = some g ∨ g = w.heap.size) ∧ p + m ≤ cap ∧ cap ≤ 9223372036854775807 := by
  obtain ⟨i, hi, hz, hsize, hby⟩ : ∃ i, P.info? e = some i ∧ i.zero = some z ∧ i.size = size ∧ i.bytes = bytes := by
    cases hh : P.info? e with
    | none => rw [hh] at hinfo; cases hinfo
    | some i => rw [hh] at hinfo; simp only [Option.map_some, Option.some.injEq, Prod.mk.injEq] at hinfo; exact ⟨i, rfl, hinfo.1, hinfo.2.1, hinfo.2.2⟩
  have hpb : (p + m) * bytes ≤ 3000000 * 400 := Nat.mul_le_mul (by omega) hb100
  obtain ⟨v', w', hr, h2, h3, _, h4⟩ := run_append_own_at (P := P) w base t t e i z size bytes ht hi hz hsize hby hzs hsz lv p _ h
    ad m sc news hl hnews hone (by unfold maxLen; omega) (by omega) hbase
  have hg := h3
  have hv : ∃ g cap, v' = .slice (some ⟨g, 0, none⟩) (p + m) cap ∧ p + m ≤ cap ∧ cap ≤ 9223372036854775807 := by
    rcases h2.2 with ⟨_, e⟩ | ⟨g, cap, cur, e, _, _, h5, h6, _⟩
    · omega
    · unfold maxLen at h6
      exact ⟨g, cap, e, h5, by omega⟩
  obtain ⟨g, cap, rfl, hc1, hc2⟩ := hv
  simp only [Value.ownBlock, Option.some.injEq] at h4
  refine ⟨g, cap, w', hr, h2, ?_, hg, h4.imp (fun e => e.symm) id, hc1, hc2⟩
  clear h4 hg h3 hc1 hc2
  obtain ⟨wl, rfl⟩ : ∃ wl, w = wl := ⟨_, rfl⟩
  have hnews' := hnews
  have hzero := zeros_ok z.cells hzc (by omega)
  subst hsize hby
  rcases h.2 with ⟨rfl, rfl⟩ | ⟨g0, cap0, cur, rfl, hb0, hg0, hnc, hcm, hcs, htk⟩
  · have hpb2 : m * i.bytes ≤ 3000000 * 400 := by rw [Nat.zero_add] at hpb; exact hpb
    have e := run_append_nil (P := P) (w := w) t t e i _ ht hi hz ad m sc news (by omega) hnews' (by omega) (by omega) (by omega)
    rw [hr] at e
    simp only [Result.ok.injEq, Value.slice.injEq, Option.some.injEq, Addr.mk.injEq] at e
    obtain ⟨⟨⟨rfl, _⟩, _⟩, rfl⟩ := e
    refine ⟨_, box_new w.drew _ _, fun u hu => ?_⟩
    rw [Array.toList_append] at hu
    rcases List.mem_append.1 hu with h5 | h5
    · exact hsn u h5
    · exact hzero _ u h5
  · obtain ⟨cs2, hB, h64⟩ := hsl g0 rfl
    have hcur : cs2 = cur := by
      have := hB.symm.trans hg0
      simpa using this
    subst hcur
    have hBl : Box w g0 e cs2 := hB
    by_cases hroom : p + m ≤ cap0
    · have hfit : p * i.size + news.length ≤ cs2.size := by rw [hl, hcs]; have := Nat.mul_le_mul_right i.size hroom; rw [Nat.add_mul] at this; exact this
      have e := run_append_room (P := P) (w := w) t t e i ht hi g0 p cap0 cs2 hBl ad m sc news (by omega) hnews' hone hroom hfit
      rw [hr] at e
      simp only [Result.ok.injEq, Value.slice.injEq, Option.some.injEq, Addr.mk.injEq] at e
      obtain ⟨⟨⟨rfl, _⟩, _⟩, rfl⟩ := e
      refine ⟨_, hBl.setRow, fun u hu => ?_⟩
      rcases List.mem_append.1 hu with h5 | h5
      · rcases List.mem_append.1 h5 with h6 | h6
        · exact h64 u (List.mem_of_mem_take h6)
        · exact hsn u h6
      · exact h64 u (List.mem_of_mem_drop h5)
    · have holds : ∀ j u, (cs2.toList.take (p * i.size))[j]? = some u → w.cell? ((⟨g0, 0, none⟩ : Addr).add j) = some u := by
        intro j u hu
        rw [List.getElem?_take] at hu
        split at hu
        · have := hBl.cell j
          simp only [Addr.add_lit, Nat.zero_add]
          rw [this, ← Array.getElem?_toList]; exact hu
        · cases hu
      have hpc : p * i.size ≤ cs2.size := by rw [hcs]; exact Nat.mul_le_mul_right _ hnc
      have e := run_append_grow (P := P) (w := w) t t e i _ ht hi hz ⟨g0, 0, none⟩ p cap0 (cs2.toList.take (p * i.size)) (by simp; omega) holds ad m sc news (by omega) hnews' (by omega) (by omega)
        (by have h9 := nextslicecap_le (need := p + m) (old := cap0) (by omega); have := Nat.mul_le_mul h9 hb100; omega)
      rw [hr] at e
      simp only [Result.ok.injEq, Value.slice.injEq, Option.some.injEq, Addr.mk.injEq] at e
      obtain ⟨⟨⟨rfl, _⟩, _⟩, rfl⟩ := e
      refine ⟨_, box_new w.drew _ _, fun u hu => ?_⟩
      rw [Array.toList_append, Array.toList_append] at hu
      rcases List.mem_append.1 hu with h5 | h5
      · rcases List.mem_append.1 h5 with h6 | h6
        · exact h64 u (List.mem_of_mem_take h6)
        · exact hsn u h6
      · exact hzero _ u h5




/-- rows behind a list of rows -/
theorem ListR.apps {kd : IntKind} {T : TypeId} {w : World} {base base2 n m : Nat} {v v2 : Value} {qs rs : List Rw} {P : Program} {TT : TypeId} (ht : P.underlying TT = some (.slice T)) (hinfo : (P.info? T).map (fun i => (i.zero, i.size, i.bytes)) = some (some (.slice none 0 0), 1, 24))
    (h : ListR kd T w base v n qs) (h2 : ListR kd T w base2 v2 m rs) (hn : n ≤ 1000000) (hm : 1 ≤ m ∧ m ≤ 1000000) (hbase : base ≤ w.heap.size) :
    ∃ g cap w', Sem.run P (Builtin.append_ #[TT, TT] TT #[v, v2]) w = .ok (.slice (some ⟨g, 0, none⟩) (n + m) cap) w' ∧
      ListR kd T w' base (.slice (some ⟨g, 0, none⟩) (n + m) cap) (n + m) (qs ++ rs) ∧ (∀ r : Rw, r.In kd w → r.In kd w') ∧ w.grownBy w' v.ownBlock := by
  obtain ⟨g2, c2, q2, rfl, _⟩ := h2.at_ (i := 0) (by omega)
  have hl2 := h2.len
  obtain ⟨g, cap, w', hr, ho, hA, hg, _, _, _⟩ := append_m (P := P) (ok := NoK kd) w base TT T (.slice none 0 0) 1 24 ht hinfo rfl (by omega) (by omega) (by omega)
    (by intro u hu; have : u = .slice none 0 0 := by simpa [Value.cells] using hu
        subst this; exact noK_slice kd _ _ _) v n (rowV qs) (rowV rs) h.own h.all (by omega) ⟨g2, 0, none⟩ m c2 hm (by rw [rowV_len]; omega) (fun j u hj => by
      have hjl : j < m := by have := (List.getElem?_eq_some_iff.1 hj).1; rw [rowV_len] at this; omega
      obtain ⟨g3, c3, q3, hv, _, _, hq3, hc3, _⟩ := h2.at_ hjl
      cases hv
      have e : Addr.add ⟨g2, 0, none⟩ j = ⟨g2, j, none⟩ := by unfold Addr.add; split <;> simp_all
      rw [e, hc3, ← hj, rowV_at rs (by omega), hq3])
    (by intro u hu; obtain ⟨q, _, rfl⟩ := List.mem_map.1 hu; exact noK_slice kd _ _ _) (by intro u hu; obtain ⟨q, _, rfl⟩ := List.mem_map.1 hu; rfl) hbase
  have hst : ∀ r : Rw, r.In kd w → r.In kd w' := fun r hr => by
    cases hb : v.ownBlock with
    | none =>
      rw [hb] at hg
      exact hr.below ((Below.refl _ _).grown hg (Nat.le_refl _) (fun k hk => by cases hk))
    | some b =>
      rw [hb] at hg
      exact rw_noK hr (h.all b hb) hg
  refine ⟨g, cap, w', hr, ⟨by simpa [rowV] using ho, fun k hk => ?_, fun r hr => ?_⟩, hst, hg⟩
  · simp only [Value.ownBlock, Option.some.injEq] at hk
    subst hk
    exact hA
  · rcases List.mem_append.1 hr with h1 | h1
    · exact hst r (h.rows r h1)
    · exact hst r (h2.rows r h1)

end Go.Proofs.Ytkinbngikmcpeaa
