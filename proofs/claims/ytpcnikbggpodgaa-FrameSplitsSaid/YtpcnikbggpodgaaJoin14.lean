/-
  Contract of the code's Join; bytes appended behind what it answers.
-/
import Derived.Test.YtpcnikbggpodgaaParse14
import Derived.Test.YtpcnikbggpodgaaListR
import Derived.Lib.SlBuf
import Derived.Laws.IdiomCopy
namespace Go.Proofs.Ytpcnikbggpodgaa
open Go.RowKit
set_option linter.unusedVariables false

theorem toNat_u8 {z : Int} (h : (Lit.int .u8 z).wf = true) : ((UInt8.ofNat z.toNat).toNat : Int) = z := by
  have := wfu8 h
  rw [UInt8.toNat_ofNat']
  omega
theorem bytes_flat (xss : List (List Int)) : Lib.join (xss.map Lib.bytesOf) [] = Lib.bytesOf xss.flatten := by
  have h : ∀ (yss : List (List UInt8)), Lib.join yss [] = yss.flatten := by
    intro yss
    induction yss with
    | nil => rfl
    | cons y ys ih =>
      cases ys with
      | nil => simp [Lib.join, List.intercalate]
      | cons z zs =>
        rw [List.flatten_cons, ← ih]
        simp [Lib.join, List.intercalate]
  rw [h]
  simp [Lib.bytesOf, List.map_flatten]
  rfl
theorem holds_rw {w : World} {q : Rw} (h : q.In .u8 w) : Lib.HoldsBytes w (.slice q.a q.n q.cap) (Lib.bytesOf q.v) := by
  have hl : (Lib.bytesOf q.v).length = q.n := by rw [Lib.bytesOf_length]; exact h.1.1
  refine ⟨q.a, q.cap, by rw [hl], fun hn => ?_, fun a ha i x hx => ?_⟩
  · apply List.length_eq_zero_iff.1
    rw [hl]
    apply Classical.byContradiction
    intro h0
    obtain ⟨b, off, he, _⟩ := h.1.2.2.2 (by omega)
    rw [hn] at he
    cases he
  · have hi : i < q.n := by rw [← hl]; exact (List.getElem?_eq_some_iff.1 hx).1
    obtain ⟨b, off, z, he, hc, hz, wz⟩ := h.1.at_ hi
    rw [ha] at he
    cases he
    have e : Addr.add ⟨b, off, none⟩ i = ⟨b, off + i, none⟩ := by unfold Addr.add; split <;> (try rfl); rename_i h; subst h; rfl
    rw [e, hc]
    have hx2 : x = UInt8.ofNat z.toNat := by
      have hlt : i < q.v.length := by have : q.v.length = q.n := h.1.1; omega
      simp only [Lib.bytesOf, List.getElem?_map, List.getElem?_eq_getElem hlt, Option.map_some, Option.some.injEq] at hx
      rw [← hx, ← hz.out]
      simp [List.getD, hlt]
    rw [hx2, toNat_u8 wz]

set_option maxHeartbeats 1600000 in
/-- rows that hold a byte or more each, one behind the other -/
theorem join14 {w : World} {base n : Nat} {v : Value} {qs : List Rw} (h : ListR .u8 22 w base v n qs) (hne : ∀ q ∈ qs, 0 < q.n) (hn : n ≤ 1000) (hlen : Lib.lens (qs.map fun q => Lib.bytesOf q.v) ≤ 140737488355328) :
    Calls Try.prog 13 #[v] w fun e w' => ∃ v', e = .returned v' ∧ Lib.FreshBytes w.heap.size w' v' (Lib.bytesOf (qs.map fun q => q.v).flatten) ∧ Below w.heap.size w w' := by
  have key : Calls Try.prog 24 #[v, .slice none 0 0] w fun e w' => ∃ v', e = .returned v' ∧ Lib.FreshBytes w.heap.size w' v' (Lib.bytesOf (qs.map fun q => q.v).flatten) ∧ Below w.heap.size w w' := by
    have hl := h.len
    obtain ⟨a, c, rfl, hc1, hc2, _⟩ := h.shape
    match qs, hl with
    | [], hl =>
      simp only [List.length_nil] at hl
      subst hl
      refine (Try.bytes_Join_none a c (.slice none 0 0) w).mono ?_
      rintro e w' ⟨rfl, rfl⟩
      exact ⟨_, rfl, ⟨w.heap.size, 0, [], rfl, Nat.le_refl _, by simp [Lib.bytesOf], by unfold maxLen; omega, rfl, by simp, rfl, fun i hi => absurd hi (by omega), fun i hi => absurd hi (by omega)⟩, (Below.refl _ _).alloc (Nat.le_refl _) _⟩
    | [q], hl =>
      simp only [List.length_singleton] at hl
      subst hl
      have h0 := hne q (by simp)
      obtain ⟨g, c2, q2, hv, _, _, hq, hcell, hin⟩ := h.at_ (show 0 < 1 by omega)
      cases hv
      obtain rfl : q = q2 := by simpa using hq
      obtain ⟨b, off, _, ha, _, _, _⟩ := hin.1.at_ h0
      have hl2 : (Lib.bytesOf q.v).length = q.n := by rw [Lib.bytesOf_length]; exact hin.1.1
      obtain ⟨p, cap, he, _, hcs⟩ := holds_rw hin
      simp only [Value.slice.injEq] at he
      obtain ⟨rfl, _, rfl⟩ := he
      have hcell2 : w.cell? ⟨g, 0, none⟩ = some (.slice (some ⟨b, off, none⟩) (Lib.bytesOf q.v).length q.cap) := by rw [hl2, ← ha]; exact hcell
      refine (Try.bytes_Join_one g 0 c ⟨b, off, none⟩ q.cap (Lib.bytesOf q.v) (.slice none 0 0) w hcell2 (fun i x hx => hcs _ ha i x hx) (by rw [hl2]; exact h0) (by simpa [Lib.lens] using hlen)).mono ?_
      rintro e w' ⟨v', rfl, hf, hb⟩
      exact ⟨v', rfl, by simpa using hf, hb⟩
    | q :: q' :: rest, hl =>
      have h2 : 2 ≤ n := by rw [← hl]; simp
      obtain ⟨g, c2, q2, hv, _, _, _, _, _⟩ := h.at_ (show 0 < n by omega)
      cases hv
      refine (Try.bytes_Join_many g 0 n c (rowV (q :: q' :: rest)) ((q :: q' :: rest).map fun q => Lib.bytesOf q.v) (.slice none 0 0) [] w (by rw [List.length_map]; exact hl) h2 ⟨?_, ?_, ?_⟩ hc1 ⟨none, 0, rfl, fun _ => rfl, fun a ha => by cases ha⟩ (by omega) (by simpa using hlen)).mono ?_
      · rw [rowV_len, List.length_map]
      · intro i v hv
        have hi : i < n := by have := (List.getElem?_eq_some_iff.1 hv).1; rw [rowV_len] at this; omega
        obtain ⟨g2, c3, q3, hv2, _, _, hq3, hcell, _⟩ := h.at_ hi
        cases hv2
        rw [rowV_at _ (by omega), hq3] at hv
        cases hv
        have e : Addr.add ⟨g, 0, none⟩ i = ⟨g, i, none⟩ := by unfold Addr.add; split; · rename_i h; subst h; rfl
                                                              · rw [Nat.zero_add]
        rw [e]
        exact hcell
      · intro i v l hv hl3
        have hi : i < n := by have := (List.getElem?_eq_some_iff.1 hv).1; rw [rowV_len] at this; omega
        obtain ⟨g2, c3, q3, hv2, _, _, hq3, hcell, hin⟩ := h.at_ hi
        rw [rowV_at _ (by omega), hq3] at hv
        cases hv
        have : l = Lib.bytesOf q3.v := by
          have hlt : i < (q :: q' :: rest).length := by omega
          rw [List.getElem?_map, List.getElem?_eq_getElem hlt] at hl3
          simp only [Option.map_some, Option.some.injEq] at hl3
          rw [← hl3, ← hq3, List.getD_eq_getElem?_getD, List.getElem?_eq_getElem hlt]
          rfl
        rw [this]
        exact holds_rw hin
      · rintro e w' ⟨v', rfl, hf, hb⟩
        refine ⟨v', rfl, ?_, hb⟩
        have e2 := bytes_flat ((q :: q' :: rest).map fun q => q.v)
        rw [List.map_map] at e2
        rw [← e2]
        exact hf
  go_enter Try.func13, Try.ntmps13
  go_wp2_with fail
  refine key.mono ?_
  rintro e w' ⟨v', rfl, hf, hb⟩
  have HF := Lib.hid hf
  have HB := Lib.hid hb
  clear hf hb key
  go_wp2_with fail
  go_ret
  exact ⟨v', rfl, HF.out, HB.out⟩

/-- bytes appended behind such a row -/
theorem fresh_append {W : World} {B : Nat} {v : Value} {xs : List Int} (hx : ∀ x ∈ xs, (Lit.int .u8 x).wf = true) (h : Lib.FreshBytes B W v (Lib.bytesOf xs)) (q : Rw) (hq : q.In .u8 W) (hl : xs.length ≤ 16777216) (hn : q.n ≤ 16777216) (hB : B ≤ W.heap.size) :
    ∃ (g : Rw) (W' : World), Sem.run Try.prog (Builtin.append_ #[22, 22] 22 #[v, .slice q.a q.n q.cap]) W = .ok (.slice g.a g.n g.cap) W' ∧ g.In .u8 W' ∧ g.v = xs ++ q.v ∧ g.n = xs.length + q.n ∧ (∃ b, g.a = some ⟨b, 0, none⟩) ∧ ∀ w0 : World, Below B w0 W → Below B w0 W' := by
  obtain ⟨i0, hi, hz0, hz1, hz2⟩ := info_u8
  obtain ⟨g, cap, zs, rfl, hBg, hLc, hcm, hzl, hzr, hzb, hcell, hfz⟩ := h
  rw [Lib.bytesOf_length] at hLc hzb ⊢
  have hzx : zs.take xs.length = xs := bytes_back _ _ (fun z hz => hzr z (List.mem_of_mem_take hz)) (fun x hm => by have := wfu8 (hx x hm); omega) hzb
  obtain ⟨L, hL⟩ : ∃ L, xs.length = L := ⟨_, rfl⟩
  rw [hL] at hLc hzx hl ⊢
  have hcell2 : ∀ i, i < L → W.cell? ⟨g, i, none⟩ = some (.int .u8 (xs.getD i 0)) := fun i hi => by
    rw [hcell i (by omega), ← hzx]
    simp [List.getD, hi]
  unfold maxLen at hcm
  obtain ⟨qa, m, qc, ys⟩ := q
  simp only at hn ⊢
  have hE : Elems .u8 W qa m ys := hq.1
  have hself : Elems .u8 W (some ⟨g, 0, none⟩) L xs := ⟨hL, by omega, hx, fun _ => ⟨g, 0, rfl, fun i hi => by rw [Nat.zero_add]; exact hcell2 i hi⟩⟩
  have hw : ∀ x ∈ xs ++ ys, (Lit.int .u8 x).wf = true := fun x hm => by
    rcases List.mem_append.1 hm with h1 | h1
    · exact hx x h1
    · exact hE.2.2.1 x h1
  cases qa with
  | none =>
    have hc0 : qc = 0 := hq.2.2.2.1 rfl
    have hm0 : m = 0 := by have : m ≤ qc := hq.2.1; omega
    subst hc0 hm0
    obtain rfl : ys = [] := List.length_eq_zero_iff.1 hE.1
    refine ⟨⟨some ⟨g, 0, none⟩, L, cap, xs⟩, W, ?_, ⟨hself, hLc, hcm, ⟨fun e => (by cases e), fun x e _ => (by cases e; rfl)⟩⟩, by simp, rfl, ⟨g, rfl⟩, fun _ h => h⟩
    simp [Builtin.append_, run_underlying Try.underlying22, sizeOf, typeInfo, hi, Builtin.lenOf, Builtin.firstCells, hLc, storeCells]
  | some ad =>
    have hnews : ∀ j u, (ys.map (Value.int .u8))[j]? = some u → W.cell? (ad.add j) = some u := by
      intro j u hu
      have hl := hE.1
      have hj : j < ys.length := by have := (List.getElem?_eq_some_iff.1 hu).1; simpa using this
      obtain ⟨b, off, he, _⟩ := hE.2.2.2 (by omega)
      cases he
      exact hE.news j u hu
    by_cases hroom : L + m ≤ cap
    · have hr := run_append_room_cells (P := Try.prog) (w := W) 22 22 5 i0 Try.underlying22 hi g 0 L cap ad m qc (ys.map (Value.int .u8)) (by rw [List.length_map, hE.1, hz1, Nat.mul_one]) hnews (ints_one ys) hroom
        (fun j hj => by
          rw [List.length_map, hE.1] at hj
          rw [hz1, Nat.mul_one, Nat.zero_add, hcell (L + j) (by omega)]; rfl)
        (fun j hj => by
          rw [List.length_map, hE.1] at hj
          rw [hz1, Nat.mul_one, Nat.zero_add]; exact hfz (L + j) (by omega))
      rw [hz1, Nat.mul_one, Nat.zero_add] at hr
      refine ⟨⟨some ⟨g, 0, none⟩, L + m, cap, xs ++ ys⟩, _, hr, ⟨⟨by rw [List.length_append, hL, hE.1], by show L + m ≤ _; omega, hw, fun _ => ⟨g, 0, rfl, fun i hi => ?_⟩⟩, hroom, hcm, ⟨fun e => (by cases e), fun x e _ => (by cases e; rfl)⟩⟩, rfl, rfl, ⟨g, rfl⟩, fun w0 hb => Lib.below_setCells g hBg _ _ hb⟩
      show (W.setCells g L (ys.map (Value.int .u8))).cell? ⟨g, 0 + i, none⟩ = _
      rw [Nat.zero_add]
      simp only at hi
      by_cases hiL : i < L
      · rw [World.cell?_setCells_out _ _ _ _ _ (fun _ _ => Or.inl (by simpa using hiL)), hcell2 i hiL]
        simp only [List.getD, List.getElem?_append_left (show i < xs.length by omega)]
      · obtain ⟨j, rfl⟩ : ∃ j, i = L + j := ⟨i - L, by omega⟩
        have hj : j < (ys.map (Value.int .u8)).length := by rw [List.length_map, hE.1]; omega
        rw [World.cell?_setCells_in g (ys.map (Value.int .u8)) L W (fun j hj => by
          rw [List.length_map, hE.1] at hj
          rw [hcell (L + j) (by omega)]; rfl) j hj]
        have hj2 : j < ys.length := by simpa using hj
        simp [List.getD, hL, hj2]
    · obtain ⟨v', w', hr, ho, hg⟩ := run_append_arg_grows (P := Try.prog) W 22 22 5 i0 _ 1 1 Try.underlying22 hi hz0 hz1 hz2 rfl (by omega)
        ⟨g, 0, none⟩ L cap (xs.map (.int .u8)) (by rw [List.length_map, hL, Nat.mul_one]) hself.news ad m qc (ys.map (.int .u8)) (by rw [List.length_map, hE.1, Nat.mul_one]) hnews (by omega) (by unfold maxLen; omega) (by omega)
      rw [← List.map_append] at ho
      obtain ⟨q2, rfl, h1, h2, h3, h4⟩ := own_row8 ho hw (by omega)
      exact ⟨q2, w', hr, h3, h2, h1, (let ⟨b, hb, _⟩ := h4 (by omega); ⟨b, hb⟩), fun w0 hb => hb.grown hg hB (fun k hk => by cases hk)⟩

end Go.Proofs.Ytpcnikbggpodgaa
