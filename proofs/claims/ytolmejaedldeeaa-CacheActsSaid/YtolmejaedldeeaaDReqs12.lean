/-
  The document's store: Requests.
-/
import Derived.Test.YtolmejaedldeeaaDDrop12
import Derived.Deep.CutRange
namespace Go.Proofs.Ytolmejaedldeeaa
open Go.RowKit Go.Maps
set_option linter.unusedVariables false

/-- the loop of Requests, k entries through -/
structure DReqI (w0 : World) (D : List De) (k m : Nat) (v : Value) (zs : List Int) (wr : World) : Prop where
  bel : Below w0.heap.size w0 wr
  own : wr.ownsRow w0.heap.size 3 1 v m (zs.map (.int .i64))
  once : Once zs
  mem : ∀ z, z ∈ zs ↔ ∃ x ∈ D.take k, x.e.r = z
  len : zs.length ≤ k
theorem DReqI.m {w0 wr : World} {D : List De} {k m : Nat} {v : Value} {zs : List Int} (h : DReqI w0 D k m v zs wr) : zs.length = m := by have := h.own.1; simpa using this
theorem take_mem {D : List De} {k : Nat} (hk : k < D.length) (z : Int) : (∃ x ∈ D.take (k + 1), x.e.r = z) ↔ (∃ x ∈ D.take k, x.e.r = z) ∨ D[k].e.r = z := by
  rw [List.take_add_one, List.getElem?_eq_getElem hk]
  constructor
  · rintro ⟨x, hx, e⟩
    rcases List.mem_append.1 hx with hx | hx
    · exact .inl ⟨x, hx, e⟩
    · simp at hx; subst hx; exact .inr e
  · rintro (⟨x, hx, e⟩ | e)
    · exact ⟨x, List.mem_append_left _ hx, e⟩
    · exact ⟨_, List.mem_append_right _ (by simp), e⟩
/-- where x stands already -/
theorem DReqI.skip {w0 wr : World} {D : List De} {k m j : Nat} {v : Value} {zs : List Int} (h : DReqI w0 D k m v zs wr) (hk : k < D.length) (hj : j < m) (he : zs.getD j 0 = D[k].e.r) : DReqI w0 D (k + 1) m v zs wr := by
  refine ⟨h.bel, h.own, h.once, fun z => ?_, Nat.le_succ_of_le h.len⟩
  rw [take_mem hk, h.mem]
  refine ⟨.inl, fun hz => ?_⟩
  rcases hz with hz | rfl
  · exact hz
  · rw [← h.mem, ← he]
    exact getD_mem (by rw [h.m]; exact hj)
/-- a number put between those below it and those above it -/
theorem once_put {zs : List Int} (h : Once zs) {j : Nat} {x : Int} (hj : j ≤ zs.length) (hlo : ∀ i, i < j → zs.getD i 0 < x) (hhi : j < zs.length → x < zs.getD j 0) : Once (zs.take j ++ [x] ++ zs.drop j) := by
  have hg : ∀ i (hi : i < zs.length), zs.getD i 0 = zs[i] := fun i hi => by simp [List.getD, List.getElem?_eq_getElem hi]
  have hp := List.pairwise_iff_getElem.1 h
  have lo : ∀ y ∈ zs.take j, y < x := fun y hy => by
    obtain ⟨i, hi, rfl⟩ := List.mem_take_iff_getElem.1 hy
    have := hlo i (by omega)
    rw [hg i (by omega)] at this
    exact this
  have hi : ∀ y ∈ zs.drop j, x < y := fun y hy => by
    obtain ⟨i, hi, rfl⟩ := List.mem_drop_iff_getElem.1 hy
    have h1 := hhi (by omega)
    rw [hg j (by omega)] at h1
    rcases Nat.eq_zero_or_pos i with e | e
    · subst e; simpa using h1
    · have := hp j (j + i) (by omega) (by omega) (by omega)
      exact Int.lt_trans h1 this
  unfold Once
  rw [List.append_assoc, List.pairwise_append]
  refine ⟨h.sublist (List.take_sublist _ _), ?_, fun a ha b hb => ?_⟩
  · rw [List.singleton_append, List.pairwise_cons]
    exact ⟨hi, h.sublist (List.drop_sublist _ _)⟩
  · rw [List.singleton_append] at hb
    rcases List.mem_cons.1 hb with rfl | hb
    · exact lo a ha
    · exact Int.lt_trans (lo a ha) (hi b hb)
theorem DReqI.wf {w0 wr : World} {D : List De} {k m : Nat} {v : Value} {zs : List Int} (h : DReqI w0 D k m v zs wr) (hG : GoodE (docL D)) : ∀ x ∈ zs, (Lit.int .i64 x).wf = true := fun x hx => by
  obtain ⟨y, hy, rfl⟩ := (h.mem x).1 hx
  exact (hG.bd y.e (List.mem_map.2 ⟨y, List.mem_of_mem_take hy, rfl⟩)).2.1
theorem addr_zero (x : Addr) : x.add 0 = x := by
  unfold Addr.add
  split
  · rfl
  · rename_i h; exact absurd rfl h
set_option maxRecDepth 100000 in
/-- the two halves of a row of integers -/
theorem slice_two {w : World} {a : Option Addr} {m c j : Nat} {zs : List Int} (hE : Elems .i64 w a m zs) (hc : m ≤ c) (hc2 : c ≤ 9223372036854775807) (hj : j ≤ m) (ha : a = none → c = 0) :
    ∃ a3, (∀ W, (Instr.slice 50 (.slice a m c) none (some (.int .i64 (j : Int))) none).run Try.prog W = .ok (.slice a j c) W) ∧ (∀ W, (Instr.slice 50 (.slice a m c) (some (.int .i64 (j : Int))) none none).run Try.prog W = .ok (.slice a3 (m - j) (c - j)) W) ∧
      Elems .i64 w a j (zs.take j) ∧ Elems .i64 w a3 (m - j) (zs.drop j) ∧ (a3 = none → c - j = 0) := by
  have hu : Try.prog.underlying 50 = some (.slice (Try.prog.elem 50)) := by kernel_rfl
  have hsz : ∀ W, (sizeOf (Try.prog.elem 50)).run Try.prog W = .ok 1 W := fun W => by kernel_rfl
  refine ⟨if c = j then a else a.map (·.add j), fun W => ?_, fun W => ?_, hE.take j hj, ?_, ?_⟩
  · rw [run_slice_h (P := Try.prog) W _ a m c hu .i64 (j : Int) (by omega) (by omega), hsz]
    simp only [Result.andThen, sliced, Int.toNat_natCast, Nat.zero_mul, Nat.sub_zero]
    cases a with
    | none => simp
    | some x => simp [addr_zero]
  · rw [run_slice_l (P := Try.prog) W _ a m c hu .i64 (j : Int) (by omega) (by omega), hsz]
    simp only [Result.andThen, sliced, Int.toNat_natCast, Nat.mul_one]
  · split
    · exact Elems.empty _ (by rw [List.length_drop, hE.1]) (by omega)
    · exact hE.cut j hj
  · split
    · intro e; omega
    · cases a with
      | none => intro _; have := ha rfl; omega
      | some x => intro e; simp at e
/-- three appends: what lies below, the number, what lies above -/
theorem DReqI.put {w0 wr : World} {D : List De} {k m j : Nat} {a : Option Addr} {c : Nat} {zs : List Int} (h : DReqI w0 D k m (.slice a m c) zs wr) (hG : GoodE (docL D)) (hD : D.length ≤ 1048576) (hk : k < D.length) (hj : j ≤ m) (hlo : ∀ i, i < j → zs.getD i 0 < D[k].e.r) (hhi : j < m → D[k].e.r < zs.getD j 0) :
    ∃ a3 v1 w1 v2 w2 v3 w3, (∀ W, (Instr.slice 50 (.slice a m c) none (some (.int .i64 (j : Int))) none).run Try.prog W = .ok (.slice a j c) W) ∧ (∀ W, (Instr.slice 50 (.slice a m c) (some (.int .i64 (j : Int))) none none).run Try.prog W = .ok (.slice a3 (m - j) (c - j)) W) ∧
      Sem.run Try.prog (Builtin.append_ #[50, 50] 50 #[.slice none 0 0, .slice a j c]) wr = .ok v1 w1 ∧
      Sem.run Try.prog (Builtin.append_ #[50, 50] 50 #[v1, .slice (some ⟨w1.heap.size, 0, none⟩) 1 1]) (w1.alloc (.cells #[.int .i64 D[k].e.r] 3)) = .ok v2 w2 ∧
      Sem.run Try.prog (Builtin.append_ #[50, 50] 50 #[v2, .slice a3 (m - j) (c - j)]) w2 = .ok v3 w3 ∧
      (∃ a4 c4, v3 = .slice a4 (m + 1) c4) ∧ DReqI w0 D (k + 1) (m + 1) v3 (zs.take j ++ [D[k].e.r] ++ zs.drop j) w3 := by
  have hm := h.m
  have hml := h.len
  obtain ⟨a', c2, ev, hE, hcc, hcm, hca⟩ := own_reads h.own (h.wf hG) (by omega)
  simp only [Value.slice.injEq] at ev
  obtain ⟨rfl, -, rfl⟩ := ev
  obtain ⟨a3, s1, s2, E1, E2, ha3⟩ := slice_two hE hcc hcm hj hca
  have hB0 := h.bel
  obtain ⟨v1, w1, r1, o1, g1, b1⟩ := run_append_elems (P := Try.prog) .i64 wr w0.heap.size 50 3 8 (by omega) Try.underlying50 info_int (.slice none 0 0) 0 [] (own_nil _ _ _) a j c _ E1 hca (by omega) (by omega) hB0.size
  have hb1 : Below wr.heap.size wr w1 := ⟨g1.os, g1.tape, g1.output, g1.size, fun i hi => g1.block i hi (by simp [Value.ownBlock])⟩
  obtain ⟨v2, w2, r2, o2, g2, b2⟩ := run_append_val 50 3 (.int .i64 0) 8 Try.underlying50 infoInt12 rfl (by omega) w1 w0.heap.size v1 (0 + j) _ (.int .i64 D[k].e.r) rfl o1 (by omega) (Nat.le_trans hB0.size hb1.size)
  have hnew : ∀ g, v1.ownBlock = some g → wr.heap.size ≤ g := fun g e => by
    rcases b1 with b1 | b1
    · rw [e] at b1; simp [Value.ownBlock] at b1
    · rw [e] at b1; have := Option.some.inj b1; omega
  have hb2 : Below wr.heap.size wr w2 := hb1.grown g2 hb1.size hnew
  obtain ⟨v3, w3, r3, o3, g3, b3⟩ := run_append_elems (P := Try.prog) .i64 w2 w0.heap.size 50 3 8 (by omega) Try.underlying50 info_int v2 (0 + j + 1) (zs.take j ++ [D[k].e.r]) (by rw [List.map_append]; simpa using o2) a3 (m - j) (c - j) _ (E2.below hb2) ha3 (by omega) (by omega) (Nat.le_trans hB0.size hb2.size)
  have hn : 0 + j + 1 + (m - j) = m + 1 := by omega
  rw [hn] at o3
  have hb3 : Below wr.heap.size wr w3 := hb2.grown g3 hb2.size (fun g e => by
    rcases b2 with b2 | b2
    · exact hnew g (by rw [← b2]; exact e)
    · rw [e] at b2; have := Option.some.inj b2; have := hb1.size; omega)
  refine ⟨a3, v1, w1, v2, w2, v3, w3, s1, s2, r1, r2, r3, ?_, hB0.trans (hb3.mono hB0.size), by simpa using o3, once_put h.once (by omega) hlo (by rw [hm]; exact hhi), fun z => ?_, ?_⟩
  · rcases o3.2 with ⟨_, e⟩ | ⟨g, cap, cur, rfl, _⟩
    · omega
    · exact ⟨_, _, rfl⟩
  · rw [take_mem hk, ← h.mem]
    simp only [List.mem_append, List.mem_singleton]
    have : z ∈ zs ↔ z ∈ zs.take j ∨ z ∈ zs.drop j := by rw [← List.mem_append, List.take_append_drop]
    rw [this]
    constructor
    · rintro ((h | h) | h)
      · exact .inl (.inl h)
      · exact .inr h.symm
      · exact .inl (.inr h)
    · rintro ((h | h) | h)
      · exact .inl (.inl h)
      · exact .inr h
      · exact .inl (.inr h.symm)
  · simp; omega

set_option maxHeartbeats 3200000 in
set_option maxRecDepth 100000 in
theorem dreqs12 {w : World} {db room base : Nat} {v : Value} {D : List De} (h : DocAt w db room base v D) (hG : GoodE (docL D)) (hn : D.length ≤ 1048576) :
    Calls Try.prog 19 #[.pointer (some ⟨db, 0, none⟩)] w fun e w' => ReqR (docL D) w e w' := by
  obtain ⟨va, vc, rfl⟩ := h.row.shape
  have HDB : Hid (∀ W, Below w.heap.size w W → DocAt W db room base (.slice va D.length vc) D) := Lib.hid (fun W hW => h.bel hW)
  have HN := Lib.hid hn
  have HG := Lib.hid hG
  have HI0 : Hid (DReqI w D 0 0 (.slice none 0 0) [] w) := Lib.hid ⟨Below.refl _ _, own_nil _ _ _, List.Pairwise.nil, by simp, by simp⟩
  clear h hn hG
  go_enter Try.func19, Try.ntmps19
  go_wp2_with fail
  go_loopw [3, 4, 5, 6, 7] (fun ov kv _ _ _ wr => ∃ (k m : Nat) (a : Option Addr) (c : Nat) (zs : List Int), k ≤ D.length ∧ ov = .slice a m c ∧ kv = .int .i64 k ∧ Hid (DReqI w D k m (.slice a m c) zs wr)) (fun _ kv _ _ _ _ => D.length - (intOf kv).toNat)
  case atStart => exact ⟨0, 0, none, 0, [], by omega, rfl, rfl, HI0⟩
  case round =>
    obtain ⟨k, m, a, c, zs, hk, rfl, rfl, HJ⟩ := hrel
    clear HI0
    have hDr := HDB.out wr HJ.out.bel
    have s1 : wr.cell? ⟨db, 1, none⟩ = some (.slice va D.length vc) := hDr.box.cell 1
    by_cases hlt : k < D.length
    · have hlt2 : (k : Int) < (D.length : Int) := by omega
      have hlen := HN.out
      have hk1 : IntKind.i64.wrap ((k : Int) + 1) = ((k + 1 : Nat) : Int) := by rw [IntWalk.i64_in _ (by omega)]; rfl
      obtain ⟨g, c', e, hc1, hc2, hg, hcells⟩ := hDr.cells (by omega)
      obtain ⟨z0, -, -, -, -⟩ := hcells k hlt
      simp only [Value.slice.injEq] at e
      obtain ⟨rfl, -, rfl⟩ := e
      obtain ⟨x, hx⟩ : ∃ x, D[k].e.r = x := ⟨_, rfl⟩
      rw [hx] at z0
      have HX := Lib.hid hx
      have hm1 : m ≤ 1048576 := by have h1 := HJ.out.m; have h2 := HJ.out.len; omega
      clear hDr hcells hc1 hc2 hg hx
      go_upto_region 7 with (fail)
      go_loopw [6] (fun jv wx => ∃ j : Nat, j ≤ m ∧ jv = .int .i64 j ∧ wx = wr ∧ Hid (∀ i, i < j → zs.getD i 0 < x)) (fun jv _ => m - (intOf jv).toNat)
      case atStart => exact ⟨0, by omega, rfl, rfl, Lib.hid (fun i hi => by omega)⟩
      case round =>
        obtain ⟨j, hj, rfl, rfl, HLO⟩ := hrel
        obtain ⟨a', c2, ev, hE, hcc, hcm, hca⟩ := own_reads HJ.out.own (HJ.out.wf HG.out) (by omega)
        simp only [Value.slice.injEq] at ev
        obtain ⟨rfl, -, rfl⟩ := ev
        have HEL := Lib.hid hE
        by_cases hjm : j < m
        · have hjm2 : (j : Int) < (m : Int) := by omega
          have hj1 : IntKind.i64.wrap ((j : Int) + 1) = ((j + 1 : Nat) : Int) := by rw [IntWalk.i64_in _ (by omega)]; rfl
          obtain ⟨b, off, y, rfl, hyc, hyv, -⟩ := hE.at_ hjm
          clear hE
          by_cases hyx : y < x
          · have hd : decide (y < x) = true := by simpa using hyx
            have HLO2 : Hid (∀ i, i < j + 1 → zs.getD i 0 < x) := Lib.hid (fun i hi => by
              rcases Nat.lt_succ_iff_lt_or_eq.1 hi with h | rfl
              · exact HLO.out i h
              · rw [hyv.out]; exact hyx)
            clear hyx
            go_wp2
            go_roundw
            case rel => exact ⟨j + 1, by omega, rfl, trivial, HLO2⟩
            case measure => simp [intOf]; omega
          · have hd : decide (y < x) = false := by simpa using hyx
            by_cases hye : y = x
            · have hb : (y == x) = true := by simpa using hye
              have HN2 : Hid (DReqI w D (k + 1) m (.slice (some ⟨b, off, none⟩) m c) zs wr) := Lib.hid (HJ.out.skip hlt hjm (by rw [hyv.out, HX.out]; exact hye))
              clear hye hyx
              go_wp2
              go_roundw
              case rel => exact ⟨k + 1, m, some ⟨b, off, none⟩, c, zs, by omega, rfl, rfl, HN2⟩
              case measure => simp [intOf]; omega
            · have hb : (y == x) = false := by simpa using hye
              have HHI : Hid (x < y) := Lib.hid (by omega)
              clear hye hyx
              have hput := HJ.out.put HG.out HN.out hlt hj (by rw [HX.out]; exact HLO.out) (by rw [HX.out]; exact fun _ => by rw [hyv.out]; exact HHI.out)
              rw [HX.out] at hput
              obtain ⟨a3, v1, w1, v2, w2, v3, w3, q1, q2, r1, r2, r3, ⟨a4, c4, rfl⟩, hN⟩ := hput
              have HN2 := Lib.hid hN
              have q1w := q1 wr
              have q2w := q2 w2
              clear hN q1 q2
              clear HHI hyv
              go_upto_region 12 with (at_builtin; (with_reducible refine wpList_append_run ?_ (.tmp 52) (.tmp 55) 50 ?_ _ _ ?_ ?_ r1 ?_); rfl; rfl; rfl; rfl)
              go_upto_region 13 with (at_builtin; (with_reducible refine wpList_append_run ?_ (.tmp 57) (.tmp 59) 50 ?_ _ _ ?_ ?_ r2 ?_); rfl; rfl; rfl; rfl)
              go_wp2_with (at_builtin; (with_reducible refine wpList_append_run ?_ (.tmp 61) (.tmp 64) 50 ?_ _ _ ?_ ?_ r3 ?_); rfl; rfl; rfl; rfl)
              go_roundw
              case rel => exact ⟨k + 1, _, a4, c4, _, by omega, rfl, rfl, HN2⟩
              case measure => simp [intOf]; omega
        · obtain rfl : j = m := by omega
          clear hjm hE
          have hput := HJ.out.put HG.out HN.out hlt hj (by rw [HX.out]; exact HLO.out) (by rw [HX.out]; exact fun h => by omega)
          rw [HX.out] at hput
          obtain ⟨a3, v1, w1, v2, w2, v3, w3, q1, q2, r1, r2, r3, ⟨a4, c4, rfl⟩, hN⟩ := hput
          rw [Nat.sub_self] at q2 r3
          have HN2 := Lib.hid hN
          have q1w := q1 wr
          have q2w := q2 w2
          clear hN q1 q2
          go_upto_region 12 with (at_builtin; (with_reducible refine wpList_append_run ?_ (.tmp 52) (.tmp 55) 50 ?_ _ _ ?_ ?_ r1 ?_); rfl; rfl; rfl; rfl)
          go_upto_region 13 with (at_builtin; (with_reducible refine wpList_append_run ?_ (.tmp 57) (.tmp 59) 50 ?_ _ _ ?_ ?_ r2 ?_); rfl; rfl; rfl; rfl)
          go_wp2_with (at_builtin; (with_reducible refine wpList_append_run ?_ (.tmp 61) (.tmp 64) 50 ?_ _ _ ?_ ?_ r3 ?_); rfl; rfl; rfl; rfl)
          go_roundw
          case rel => exact ⟨k + 1, _, a4, c4, _, by omega, rfl, rfl, HN2⟩
          case measure => simp [intOf]; omega
    · obtain rfl : k = D.length := by omega
      have HF : Hid (ReqR (docL D) w (.returned (.slice a m c)) wr) := Lib.hid (by
        obtain ⟨a', c2, ev, hE, -⟩ := own_reads HJ.out.own (HJ.out.wf HG.out) (by have := HJ.out.m; have := HJ.out.len; have := HN.out; omega)
        simp only [Value.slice.injEq] at ev
        obtain ⟨rfl, -, rfl⟩ := ev
        refine ⟨⟨a, m, c, zs, rfl, hE, HJ.out.once, fun z => ?_, by rw [docL_len, ← HJ.out.m]; exact HJ.out.len⟩, HJ.out.bel⟩
        rw [HJ.out.mem, List.take_length]
        constructor
        · rintro ⟨x, hx, e⟩; exact ⟨x.e, List.mem_map.2 ⟨x, hx, rfl⟩, e⟩
        · rintro ⟨x, hx, e⟩
          obtain ⟨y, hy, rfl⟩ := List.mem_map.1 hx
          exact ⟨y, hy, e⟩)
      clear hlt hDr
      go_wp2
      go_ret
      exact HF.out

end Go.Proofs.Ytolmejaedldeeaa
