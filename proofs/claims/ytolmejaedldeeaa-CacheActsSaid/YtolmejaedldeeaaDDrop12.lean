/-
  The document's store: Drop.
-/
import Derived.Test.YtolmejaedldeeaaDPut12
namespace Go.Proofs.Ytolmejaedldeeaa
open Go.RowKit Go.Maps
set_option linter.unusedVariables false

/-- those that stay -/
def keepD (q : Int) (D : List De) : List De := D.filter fun x => !(x.e.r == q)
theorem keepD_docL (q : Int) (D : List De) : docL (keepD q D) = (docL D).filter fun x => !(x.r == q) := by
  unfold docL keepD
  rw [List.filter_map]
  rfl
theorem keepD_step (q : Int) (D : List De) (k : Nat) (hk : k < D.length) : keepD q (D.take (k + 1)) = keepD q (D.take k) ++ (if D[k].e.r = q then [] else [D[k]]) := by
  unfold keepD
  rw [List.take_add_one, List.filter_append, List.getElem?_eq_getElem hk]
  by_cases h : D[k].e.r = q <;> simp [h]
theorem ListAt.base {ok : Value → Prop} {w : World} {b b' n size : Nat} {e : TypeId} {v : Value} {xs : List Value} (h : ListAt ok w b e size v n xs) (hb : b' ≤ b) : ListAt ok w b' e size v n xs := by
  refine ⟨⟨h.own.1, ?_⟩, h.all⟩
  rcases h.own.2 with hn | ⟨g, cap, cur, rfl, hg, rest⟩
  · exact .inl hn
  · exact .inr ⟨g, cap, cur, rfl, Nat.le_trans hb hg, rest⟩
/-- the loop of Drop, k entries through -/
structure DDropI (w0 : World) (D : List De) (q : Int) (k m : Nat) (v : Value) (wr : World) : Prop where
  bel : Below w0.heap.size w0 wr
  len : (keepD q (D.take k)).length = m
  row : ListAt No8 wr w0.heap.size 46 5 v m ((keepD q (D.take k)).flatMap deCells)
theorem deCells_one (x : De) : ∀ u ∈ deCells x, u.oneCell' = true := by
  intro u hu
  simp only [deCells, List.mem_cons, List.not_mem_nil, or_false] at hu
  rcases hu with rfl | rfl | rfl | rfl | rfl <;> rfl
theorem DDropI.next {w0 wr : World} {D : List De} {q : Int} {k m : Nat} {v : Value} (h : DDropI w0 D q k m v wr) (hk : k < D.length) (hn : D.length ≤ 1048576) (hq : D[k].e.r ≠ q) :
    ∃ g c w', Sem.run Try.prog (Builtin.append_ #[29, 29] 29 #[v, .slice (some ⟨wr.heap.size, 0, none⟩) 1 1]) (wr.alloc (.cells #[.int .i64 D[k].e.r, .int .i64 D[k].e.l, .int .i64 D[k].e.p, .slice D[k].k.a D[k].k.n D[k].k.cap, .slice D[k].v.a D[k].v.n D[k].v.cap] 46)) =
      .ok (.slice (some ⟨g, 0, none⟩) (m + 1) c) w' ∧ DDropI w0 D q (k + 1) (m + 1) (.slice (some ⟨g, 0, none⟩) (m + 1) c) w' := by
  have hm : m ≤ D.length := by rw [← h.len]; exact Nat.le_trans (List.length_filter_le _ _) (by rw [List.length_take]; omega)
  have h8 : ∀ u ∈ deCells D[k], No8 u := fun u hu => deCells_no8 [D[k]] u (by simpa using hu)
  obtain ⟨gr, cap, w3, hr, ho, hA, hg, hv, hc1, hc2⟩ := append_c (P := Try.prog) (ok := No8) wr w0.heap.size 29 46 _ 5 72 Try.underlying29 infoRowD rfl (by omega) (by omega) (by omega)
    (by intro u hu; simp [Value.cells] at hu; rcases hu with rfl | rfl <;> first | exact no8_i64 _ | exact no8_slice _ _ _) v m _ (deCells D[k]) h.row.own h.row.all (by omega) rfl h8 (deCells_one _) h.bel.size
  refine ⟨gr, cap, w3, hr, h.bel.grown hg h.bel.size (fun j hj => (h.row.own.lt j hj).1), ?_, ?_⟩
  · rw [keepD_step q D k hk, if_neg hq, List.length_append, h.len]; rfl
  · rw [keepD_step q D k hk, if_neg hq, List.flatMap_append]
    refine ⟨by simpa using ho, fun g e => by simp only [Value.ownBlock, Option.some.injEq] at e; subst e; exact hA⟩
theorem DDropI.skip {w0 wr : World} {D : List De} {q : Int} {k m : Nat} {v : Value} (h : DDropI w0 D q k m v wr) (hk : k < D.length) (hq : D[k].e.r = q) : DDropI w0 D q (k + 1) m v wr := by
  refine ⟨h.bel, ?_, ?_⟩
  · rw [keepD_step q D k hk, if_pos hq, List.append_nil]; exact h.len
  · rw [keepD_step q D k hk, if_pos hq, List.append_nil]; exact h.row
/-- what the document's Drop leaves -/
def DDropR (room base db : Nat) (D : List De) (q : Int) (w w' : World) : Prop :=
  (∃ v' D', DocAt w' db room base v' D' ∧ docL D' = (docL D).filter fun x => !(x.r == q)) ∧ KeptD w w' ∧ Below db w w'
theorem DDropI.fin {w0 wr : World} {db room base m : Nat} {D : List De} {q : Int} {v v0 : Value} (h : DDropI w0 D q D.length m v wr) (hD : DocAt w0 db room base v0 D) : DDropR room base db D q w0 (wr.setCell ⟨db, 1, none⟩ v) := by
  have hdl : db < w0.heap.size := Nat.lt_of_lt_of_le hD.lt hD.le
  have hdr := hD.bel h.bel
  obtain ⟨a, c, rfl⟩ := h.row.shape
  obtain ⟨w4, hw4⟩ : ∃ w4, wr.setCell ⟨db, 1, none⟩ (.slice a m c) = w4 := ⟨_, rfl⟩
  have hg4 : wr.grownBy w4 (some db) := by rw [← hw4]; exact ⟨rfl, rfl, rfl, by simp, fun i hi hne => by rw [heap_setCell_other wr ⟨db, 1, none⟩ i _ (fun e => hne (by rw [e]))]⟩
  have hK : KeptD w0 w4 := (KeptD.of_bel h.bel).trans (KeptD.of_row hg4 (fun g e => by cases e; exact .inr hdr.noBox))
  have hB : Below db w0 w4 := by rw [← hw4]; exact (h.bel.mono (Nat.le_of_lt hdl)).setCell (p := ⟨db, 1, none⟩) (Nat.le_refl _) _
  have ht : D.take D.length = D := List.take_length
  obtain ⟨E, hE⟩ : ∃ E, keepD q D = E := ⟨_, rfl⟩
  have hl := h.len
  have hr := h.row
  rw [ht, hE] at hl hr
  rw [hw4]
  subst hl
  have hfin : docL E = (docL D).filter fun x => !(x.r == q) := by rw [← hE]; exact keepD_docL q D
  have hdoc : DocAt w4 db room base (.slice a E.length c) E := by
   refine ⟨?_, ?_, fun x hx => ?_, hD.lt, Nat.le_trans hD.le hK.size⟩
   · rw [← hw4]; exact hdr.box.set 1 _
   · exact (hr.kept hg4 (fun g e x => by have := (hr.own.lt g e).1; cases x; omega)).base hD.le
   · have hx2 : x ∈ D := by rw [← hE] at hx; unfold keepD at hx; exact (List.mem_filter.1 hx).1
     have := hD.ent x hx2
     exact ⟨hK.rw _ this.1, hK.rw _ this.2.1, this.2.2⟩
  exact ⟨⟨_, E, hdoc, hfin⟩, hK, hB⟩

set_option maxHeartbeats 3200000 in
set_option maxRecDepth 100000 in
theorem ddrop12 {w : World} {db room base : Nat} {v : Value} {D : List De} (h : DocAt w db room base v D) (hn : D.length ≤ 1048576) (q : Int) :
    Calls Try.prog 10 #[.pointer (some ⟨db, 0, none⟩), .int .i64 q] w fun e w' => e = .returned (.int .i64 (((docL D).length : Int) - (((docL D).filter fun x => !(x.r == q)).length : Int))) ∧ DDropR room base db D q w w' := by
  obtain ⟨va, vc, rfl⟩ := h.row.shape
  have HD := Lib.hid h
  have HDB : Hid (∀ W, Below w.heap.size w W → DocAt W db room base (.slice va D.length vc) D) := Lib.hid (fun W hW => h.bel hW)
  have HN := Lib.hid hn
  have HI0 : Hid (DDropI w D q 0 0 (.slice none 0 0) w) := Lib.hid ⟨Below.refl _ _, by simp [keepD], by simpa [keepD] using listAt_nil No8 w w.heap.size 46 5⟩
  clear h hn
  go_enter Try.func10, Try.ntmps10
  go_wp2_with fail
  go_loopw [5, 6] (fun lv kv wr => ∃ (k m : Nat) (a : Option Addr) (c : Nat), k ≤ D.length ∧ lv = .slice a m c ∧ kv = .int .i64 k ∧ Hid (DDropI w D q k m (.slice a m c) wr)) (fun _ kv _ => D.length - (intOf kv).toNat)
  case atStart => exact ⟨0, 0, none, 0, by omega, rfl, rfl, HI0⟩
  case round =>
    obtain ⟨k, m, a, c, hk, rfl, rfl, HJ⟩ := hrel
    clear HI0
    have hDr := HDB.out wr HJ.out.bel
    have s1 : wr.cell? ⟨db, 1, none⟩ = some (.slice va D.length vc) := hDr.box.cell 1
    by_cases hlt : k < D.length
    · have hlt2 : (k : Int) < (D.length : Int) := by omega
      have hlen := HN.out
      have hk1 : IntKind.i64.wrap ((k : Int) + 1) = ((k + 1 : Nat) : Int) := by rw [IntWalk.i64_in _ (by omega)]; rfl
      obtain ⟨g, c', e, hc1, hc2, hg, hcells⟩ := hDr.cells (by omega)
      obtain ⟨z0, z1, z2, z3, z4⟩ := hcells k hlt
      simp only [Value.slice.injEq] at e
      obtain ⟨rfl, -, rfl⟩ := e
      have HCE : Hid (∀ W, Below wr.heap.size wr W → True) := Lib.hid (fun _ _ => trivial)
      by_cases hq : D[k].e.r = q
      · have HN2 := Lib.hid (HJ.out.skip hlt hq)
        rw [hq] at z0
        have hb : (q != q) = false := by simp
        clear hDr hcells hc1 hc2 hg hq z1 z2 z3 z4 hlen
        go_wp2
        go_roundw
        case rel => exact ⟨k + 1, m, a, c, by omega, rfl, rfl, HN2⟩
        case measure => simp [intOf]; omega
      · obtain ⟨gr, cr, w3, hrun, hN⟩ := HJ.out.next hlt hlen hq
        have HN2 := Lib.hid hN
        obtain ⟨x, hx⟩ : ∃ x, D[k] = x := ⟨_, rfl⟩
        rw [hx] at z0 z1 z2 z3 z4 hrun hq
        have hb : (x.e.r != q) = true := by simpa using hq
        clear hDr hcells hc1 hc2 hg hN hx hq hlen
        go_wp2_with (at_builtin; (with_reducible refine wpList_append_run ?_ (.tmp 28) (.tmp 36) 29 ?_ _ _ ?_ ?_ hrun ?_); rfl; rfl; rfl; rfl)
        go_roundw
        case rel => exact ⟨k + 1, m + 1, _, _, by omega, rfl, rfl, HN2⟩
        case measure => simp [intOf]; omega
    · obtain rfl : k = D.length := by omega
      have HF := Lib.hid (HJ.out.fin HD.out)
      have hle : m ≤ D.length := by rw [← HJ.out.len]; exact Nat.le_trans (List.length_filter_le _ _) (by rw [List.length_take]; omega)
      have hml : Hid (((docL D).length : Int) - (((docL D).filter fun x => !(x.r == q)).length : Int) = (D.length : Int) - (m : Int)) := Lib.hid (by
        rw [← keepD_docL, docL_len, docL_len]
        have := HJ.out.len
        rw [List.take_length] at this
        rw [this])
      have hlen := HN.out
      have hw : IntKind.i64.wrap ((D.length : Int) - (m : Int)) = (D.length : Int) - (m : Int) := IntWalk.i64_in _ (by omega)
      have sf : wr.frozen? ⟨db, 1, none⟩ = false := hDr.box.frozen 1
      clear hlt hDr hlen hle
      go_wp2
      go_ret
      rw [hml.out]
      exact ⟨rfl, HF.out⟩

end Go.Proofs.Ytolmejaedldeeaa
