/-
  The document's link under way in a Hear: its parts; appends to lists of bodies and of early bodies; find.
-/
import Derived.Test.YtkinbngikmcpeaaDRaw16
import Derived.Test.YtkinbngikmcpeaaDSend16
import Derived.Test.YtkinbngikmcpeaaDSmall16
namespace Go.Proofs.Ytkinbngikmcpeaa
open Go.RowKit Go.Maps
set_option linter.unusedVariables false

theorem listAt_base {ok : Value → Prop} {w : World} {base base2 : Nat} {e : TypeId} {size : Nat} {v : Value} {n : Nat} {xs : List Value} (h : ListAt ok w base2 e size v n xs) (hb : base ≤ base2) : ListAt ok w base e size v n xs := by
  refine ⟨⟨h.own.1, ?_⟩, h.all⟩
  rcases h.own.2 with hn | ⟨g, cap, cur, e, h1, rest⟩
  · exact .inl hn
  · exact .inr ⟨g, cap, cur, e, by omega, rest⟩
/-- the document's link, its own cells whatever they are -/
structure DPart (w : World) (db base : Nat) (vo ve : Value) (cs : Array Value) (a : Nat) (xs : List Db16) (ys : List Dy16) : Prop where
  box : Box w db 35 cs
  noU : ∀ u ∈ cs.toList, NoU u
  out : ListAt NoU w base 84 3 vo xs.length (dbFlat a xs)
  ear : ListAt NoU w base 93 2 ve ys.length (ys.flatMap dyCells)
  rx : ∀ x ∈ xs, x.q.In .u8 w ∧ x.q.n ≤ 65536
  ry : ∀ y ∈ ys, y.q.In .u8 w ∧ y.q.n ≤ 65536
  lt : db < base ∧ base ≤ w.heap.size
section
variable {w w' : World} {db base a : Nat} {vo ve : Value} {cs : Array Value} {W Sp R : Nat} {st : Lk16} {xs : List Db16} {ys : List Dy16}
theorem DLkAt.part (h : DLkAt w db base vo ve W Sp R st xs ys) : DPart w db base vo ve (dCells W Sp R st vo ve) st.acked xs ys := by
  obtain ⟨⟨a, c, e⟩, a2, c2, e2⟩ := h.shape
  exact ⟨h.box, dCells_noU (by rw [e]; exact noU_slice _ _ _) (by rw [e2]; exact noU_slice _ _ _), h.out, h.ear, h.rx, h.ry, h.lt⟩
theorem DPart.done (h : DPart w db base vo ve (dCells W Sp R st vo ve) st.acked xs ys) (ho : dOut xs = st.out) (he : dEarly ys = st.early) (hg : Good16 W Sp R st) : DLkAt w db base vo ve W Sp R st xs ys :=
  ⟨h.box, h.out, ho, h.ear, he, h.rx, h.ry, hg, h.lt⟩
theorem DPart.kept (h : DPart w db base vo ve cs a xs ys) {row : Option Nat} (hg : w.grownBy w' row) (hne : ∀ b, row = some b → db ≠ b ∧ vo.ownBlock ≠ some b ∧ ve.ownBlock ≠ some b) (hq : ∀ q : Rw, q.In .u8 w → q.In .u8 w') : DPart w' db base vo ve cs a xs ys :=
  ⟨h.box.kept hg (fun e => (hne db e.symm).1 rfl), h.noU, h.out.kept hg (fun g e x => (hne g x).2.1 e), h.ear.kept hg (fun g e x => (hne g x).2.2 e), fun x hx => ⟨hq _ (h.rx x hx).1, (h.rx x hx).2⟩, fun x hx => ⟨hq _ (h.ry x hx).1, (h.ry x hx).2⟩, h.lt.1, Nat.le_trans h.lt.2 hg.size⟩
theorem DPart.bel (h : DPart w db base vo ve cs a xs ys) (hb : Below w.heap.size w w') : DPart w' db base vo ve cs a xs ys :=
  ⟨h.box.bel hb, h.noU, h.out.bel hb, h.ear.bel hb, fun x hx => ⟨(h.rx x hx).1.below hb, (h.rx x hx).2⟩, fun x hx => ⟨(h.ry x hx).1.below hb, (h.ry x hx).2⟩, h.lt.1, Nat.le_trans h.lt.2 hb.size⟩
/-- its blocks lie below whatever is made from now on -/
theorem DPart.away (h : DPart w db base vo ve cs a xs ys) {b : Nat} (hb : w.heap.size ≤ b) : db ≠ b ∧ vo.ownBlock ≠ some b ∧ ve.ownBlock ≠ some b := by
  refine ⟨by have := h.box.lt; omega, fun e => ?_, fun e => ?_⟩
  · have := (h.out.all b e).lt; omega
  · have := (h.ear.all b e).lt; omega
/-- the link's own block stored into -/
theorem DPart.store (h : DPart w db base vo ve cs a xs ys) (j : Nat) {u : Value} (hu : NoU u) : DPart (w.setCell ⟨db, j, none⟩ u) db base vo ve (cs.setIfInBounds j u) a xs ys ∧ MovesD w (w.setCell ⟨db, j, none⟩ u) db := by
  have hg : w.grownBy (w.setCell ⟨db, j, none⟩ u) (some db) := grown_set _ _ _ _
  have hA : AllC NoU w 35 db := ⟨_, h.box, h.noU⟩
  have hm : MovesD w (w.setCell ⟨db, j, none⟩ u) db := MovesD.of_row hg (by have := h.lt; omega) (fun b e => by cases e; exact ⟨Nat.le_refl _, _, hA, .inl rfl⟩)
  refine ⟨⟨h.box.set j u, fun x hx => ?_, h.out.kept hg (fun g e x => ?_), h.ear.kept hg (fun g e x => ?_), fun x hx => ⟨hm.rows _ (h.rx x hx).1, (h.rx x hx).2⟩, fun x hx => ⟨hm.rows _ (h.ry x hx).1, (h.ry x hx).2⟩, h.lt.1, Nat.le_trans h.lt.2 hm.size⟩, hm⟩
  · rw [Array.toList_setIfInBounds] at hx
    rcases List.mem_or_eq_of_mem_set hx with hx | hx
    · exact h.noU x hx
    · rw [hx]; exact hu
  · have := (h.out.own.lt g e).1; have := h.lt.1; have := Option.some.inj x; omega
  · have := (h.ear.own.lt g e).1; have := h.lt.1; have := Option.some.inj x; omega
theorem DPart.set (h : DPart w db base vo ve cs a xs ys) {cs' : Array Value} {j : Nat} {u : Value} (hu : NoU u) (hc : cs.setIfInBounds j u = cs') : DPart (w.setCell ⟨db, j, none⟩ u) db base vo ve cs' a xs ys ∧ MovesD w (w.setCell ⟨db, j, none⟩ u) db := by
  rw [← hc]; exact h.store j hu
/-- another list of bodies; of early bodies -/
theorem DPart.outs {base2 : Nat} {vo2 : Value} {a2 : Nat} {xs2 : List Db16} (h : DPart w db base vo ve cs a xs ys) (hb : base ≤ base2) (hL : ListAt NoU w base2 84 3 vo2 xs2.length (dbFlat a2 xs2)) (hx : ∀ x ∈ xs2, x ∈ xs) : DPart w db base vo2 ve cs a2 xs2 ys :=
  ⟨h.box, h.noU, listAt_base hL hb, h.ear, fun x h2 => h.rx x (hx x h2), h.ry, h.lt⟩
theorem DPart.ears {base2 : Nat} {ve2 : Value} {ys2 : List Dy16} (h : DPart w db base vo ve cs a xs ys) (hb : base ≤ base2) (hL : ListAt NoU w base2 93 2 ve2 ys2.length (ys2.flatMap dyCells)) (hx : ∀ y ∈ ys2, y.q.In .u8 w ∧ y.q.n ≤ 65536) : DPart w db base vo ve2 cs a xs ys2 :=
  ⟨h.box, h.noU, h.out, listAt_base hL hb, h.rx, hx, h.lt⟩
end

/-- a body more -/
theorem body_next {wz : World} {base n : Nat} {v : Value} {L : List Value} (h : ListAt NoU wz base 84 3 v n L) (hn : n ≤ 1000000) (hbase : base ≤ wz.heap.size) (z s : Int) (q : Rw) :
    ∃ g cap w3, Sem.run Try.prog (Builtin.append_ #[32, 32] 32 #[v, .slice (some ⟨wz.heap.size, 0, none⟩) 1 1]) (wz.alloc (.cells #[.int .i64 z, .int .i64 s, .slice q.a q.n q.cap] 84)) =
      .ok (.slice (some ⟨g, 0, none⟩) (n + 1) cap) w3 ∧ ListAt NoU w3 base 84 3 (.slice (some ⟨g, 0, none⟩) (n + 1) cap) (n + 1) (L ++ [.int .i64 z, .int .i64 s, .slice q.a q.n q.cap]) ∧ wz.grownBy w3 v.ownBlock ∧ (∀ b, v.ownBlock = some b → base ≤ b ∧ AllC NoU wz 84 b) ∧ ∀ q : Rw, q.In .u8 wz → q.In .u8 w3 := by
  obtain ⟨g, cap, w3, hrun, ho, hA, hg, hv, hc1, hc2⟩ := append_c (P := Try.prog) (ok := NoU) wz base 32 84 _ 3 40 Try.underlying32 info_dbody rfl (by omega) (by omega) (by omega)
    (by intro u hu; simp [Value.cells] at hu; rcases hu with rfl | rfl <;> first | exact noU_i64 _ | exact noU_slice _ _ _) v n _ [.int .i64 z, .int .i64 s, .slice q.a q.n q.cap] h.own h.all (by omega) rfl (by intro u hu; simp only [List.mem_cons, List.not_mem_nil, or_false] at hu; rcases hu with rfl | rfl | rfl <;> first | exact noU_i64 _ | exact noU_slice _ _ _)
    (by intro u hu; simp only [List.mem_cons, List.not_mem_nil, or_false] at hu; rcases hu with rfl | rfl | rfl <;> rfl) hbase
  refine ⟨g, cap, w3, hrun, ⟨ho, fun g' e => by simp only [Value.ownBlock, Option.some.injEq] at e; subst e; exact hA⟩, hg, fun b e => ⟨(h.own.lt b e).1, h.all b e⟩, fun q hq => ?_⟩
  cases hvb : v.ownBlock with
  | none => rw [hvb] at hg; exact hq.below ⟨hg.os, hg.tape, hg.output, hg.size, fun i hi => hg.block i hi (by simp)⟩
  | some b => rw [hvb] at hg; exact rw_noK hq (h.all b hvb) hg
theorem info_dearly : (Try.prog.info? 93).map (fun i => (i.zero, i.size, i.bytes)) = some (some (.agg #[.int .i64 0, .slice none 0 0]), 2, 32) := by kernel_rfl
/-- an early body more -/
theorem early_next {wz : World} {base n : Nat} {v : Value} {L : List Value} (h : ListAt NoU wz base 93 2 v n L) (hn : n ≤ 1000000) (hbase : base ≤ wz.heap.size) (z : Int) (q : Rw) :
    ∃ g cap w3, Sem.run Try.prog (Builtin.append_ #[33, 33] 33 #[v, .slice (some ⟨wz.heap.size, 0, none⟩) 1 1]) (wz.alloc (.cells #[.int .i64 z, .slice q.a q.n q.cap] 93)) =
      .ok (.slice (some ⟨g, 0, none⟩) (n + 1) cap) w3 ∧ ListAt NoU w3 base 93 2 (.slice (some ⟨g, 0, none⟩) (n + 1) cap) (n + 1) (L ++ [.int .i64 z, .slice q.a q.n q.cap]) ∧ wz.grownBy w3 v.ownBlock ∧ (∀ b, v.ownBlock = some b → base ≤ b ∧ AllC NoU wz 93 b) ∧ ∀ q : Rw, q.In .u8 wz → q.In .u8 w3 := by
  obtain ⟨g, cap, w3, hrun, ho, hA, hg, hv, hc1, hc2⟩ := append_c (P := Try.prog) (ok := NoU) wz base 33 93 _ 2 32 Try.underlying33 info_dearly rfl (by omega) (by omega) (by omega)
    (by intro u hu; simp [Value.cells] at hu; rcases hu with rfl | rfl <;> first | exact noU_i64 _ | exact noU_slice _ _ _) v n _ [.int .i64 z, .slice q.a q.n q.cap] h.own h.all (by omega) rfl (by intro u hu; simp only [List.mem_cons, List.not_mem_nil, or_false] at hu; rcases hu with rfl | rfl <;> first | exact noU_i64 _ | exact noU_slice _ _ _)
    (by intro u hu; simp only [List.mem_cons, List.not_mem_nil, or_false] at hu; rcases hu with rfl | rfl <;> rfl) hbase
  refine ⟨g, cap, w3, hrun, ⟨ho, fun g' e => by simp only [Value.ownBlock, Option.some.injEq] at e; subst e; exact hA⟩, hg, fun b e => ⟨(h.own.lt b e).1, h.all b e⟩, fun q hq => ?_⟩
  cases hvb : v.ownBlock with
  | none => rw [hvb] at hg; exact hq.below ⟨hg.os, hg.tape, hg.output, hg.size, fun i hi => hg.block i hi (by simp)⟩
  | some b => rw [hvb] at hg; exact rw_noK hq (h.all b hvb) hg

set_option maxHeartbeats 1600000 in
set_option maxRecDepth 100000 in
/-- find, whatever is early -/
theorem dfindP {w : World} {db base a : Nat} {vo ve : Value} {cs : Array Value} {xs : List Db16} {ys : List Dy16} (h : DPart w db base vo ve cs a xs ys) (hve : cs[9]? = some ve) (hsm : ys.length ≤ 1000) (n : Nat) :
    Calls Try.prog 39 #[.pointer (some ⟨db, 0, none⟩), .int .i64 n] w fun e w' => (∃ z, e = .returned (.int .i64 z) ∧ FindQ (dEarly ys) n z) ∧ w' = w := by
  obtain ⟨ea, ec, rfl⟩ := h.ear.shape
  have c9 : w.cell? ⟨db, 9, none⟩ = some (.slice ea ys.length ec) := (h.box.cell 9).trans hve
  have H0 := Lib.hid h
  clear h
  obtain ⟨L, hL⟩ : ∃ L, ys.length = L := ⟨_, rfl⟩
  have HLL := Lib.hid hL
  rw [hL] at c9 hsm
  clear hL
  go_enter Try.func39, Try.ntmps39
  go_wp2_with fail
  go_loopw [5] (fun i wr => ∃ k : Nat, k ≤ L ∧ i = .int .i64 k ∧ Hid (∀ j (hj : j < ys.length), j < k → ys[j].n ≠ n) ∧ wr = w) (fun i _ => L - (intOf i).toNat)
  case atStart => exact ⟨0, by omega, rfl, Lib.hid (fun j hj h => by omega), rfl⟩
  case round =>
    obtain ⟨k, hk, rfl, HJ, rfl⟩ := hrel
    by_cases hlt : k < L
    · have hlt2 : (k : Int) < (L : Int) := by omega
      have hky : k < ys.length := by rw [HLL.out]; exact hlt
      obtain ⟨g, c, hv, _, _, hg, _, hc⟩ := H0.out.ear.cells (by omega)
      rw [HLL.out] at hv
      simp only [Value.slice.injEq] at hv
      obtain ⟨rfl, -, rfl⟩ := hv
      have z0 : wr.cell? ⟨g, k * 2, none⟩ = some (.int .i64 (ys[k].n : Nat)) := by
        have := hc (k * 2) (by omega)
        rw [this, show k * 2 = k * 2 + 0 from rfl, flat_at dyCells 2 dyCells_len ys k 0 hky (by omega)]; rfl
      obtain ⟨m, hm⟩ : ∃ m, ys[k].n = m := ⟨_, rfl⟩
      rw [hm] at z0
      have HM := Lib.hid hm
      clear hc hg hm
      by_cases he : m = n
      · have he2 : ((m : Int) == (n : Int)) = true := by simp; omega
        have HF : Hid (FindQ (dEarly ys) n (k : Int)) := Lib.hid (by
          have hd : dEarly ys = dEarly ys := rfl
          have hkE : k < (dEarly ys).length := by rw [dEarly_len]; exact hky
          have e1 : (dEarly ys)[k] = (ys[k].n, ys[k].q.v) := by simp only [dEarly, List.getElem_map]
          refine .inr ⟨k, hkE, rfl, ?_, by rw [e1]; exact HM.out.trans he⟩
          unfold findQ
          rw [List.find?_eq_some_iff_getElem]
          refine ⟨by rw [e1]; simp [HM.out, he], k, hkE, rfl, fun j hj => ?_⟩
          have e2 : (dEarly ys)[j] = (ys[j].n, ys[j].q.v) := by simp only [dEarly, List.getElem_map]
          rw [e2]
          have := HJ.out j (by omega) hj
          simpa using this)
        clear he
        go_wp2_with fail
        go_ret
        exact ⟨⟨_, rfl, HF.out⟩, rfl⟩
      · have he2 : ((m : Int) == (n : Int)) = false := by simp; omega
        have he3 : (m == n) = false := by simpa using he
        have HJ2 : Hid (∀ j (hj : j < ys.length), j < k + 1 → ys[j].n ≠ n) := Lib.hid (fun j hj h => by
          rcases Nat.lt_succ_iff_lt_or_eq.1 h with h | rfl
          · exact HJ.out j hj h
          · rw [HM.out]; exact he)
        clear he
        go_wp2_with fail
        go_roundw
        case rel => exact ⟨k + 1, by omega, by go_num, HJ2, trivial⟩
        case measure => simp [intOf]; omega
    · obtain rfl : k = L := by omega
      have HF : Hid (FindQ (dEarly ys) n (-1)) := Lib.hid (.inl ⟨rfl, findQ_none.2 (fun x hx => by
        obtain ⟨y, hy, rfl⟩ := List.mem_map.1 hx
        obtain ⟨j, hj, rfl⟩ := List.getElem_of_mem hy
        exact HJ.out j hj (by have := HLL.out; omega))⟩)
      go_wp2_with fail
      go_ret
      exact ⟨⟨_, rfl, HF.out⟩, rfl⟩

end Go.Proofs.Ytkinbngikmcpeaa
