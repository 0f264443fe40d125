import Derived.Test.YtoeihigdndkjeaaGreatDoorJ24
import Derived.Test.YtoeihigdndkjeaaGreatDoorJ36
/-
  A talk begun; the next token of a talk where there is no place.
-/
namespace Go.Proofs.YtoeihigdndkjeaaGreatDoor
open Go.RowKit Go.Shelf
set_option linter.unusedVariables false
attribute [local go_sem] Oper.semAt_some

/-- a number brought into 0 .. m + 2 -/
theorem brought3 (x : Int) (m : Nat) (hn : m ≤ 1000) : -((m : Int) + 3) ≤ x.tmod ((m : Int) + 3) ∧ x.tmod ((m : Int) + 3) ≤ (m : Int) + 3 ∧ ∃ k : Nat, k ≤ m + 2 ∧ (x.tmod ((m : Int) + 3) + m + 3) % ((m : Int) + 3) = (k : Int) := by
  have h3 : (x.tmod ((m : Int) + 3)).natAbs < m + 3 := by
    rw [show (m : Int) + 3 = ((m + 3 : Nat) : Int) by omega, Int.natAbs_tmod, Int.natAbs_natCast]
    exact Nat.mod_lt x.natAbs (show 0 < m + 3 by omega)
  generalize x.tmod ((m : Int) + 3) = r at *
  refine ⟨by omega, by omega, ?_⟩
  have h5 := Int.emod_nonneg (r + m + 3) (show (m : Int) + 3 ≠ 0 by omega)
  have h6 := Int.emod_lt_of_pos (r + m + 3) (show 0 < (m : Int) + 3 by omega)
  exact ⟨((r + m + 3) % ((m : Int) + 3)).toNat, by omega, by omega⟩

set_option maxHeartbeats 2000000 in
set_option maxRecDepth 100000 in
theorem begin9 (m : Nat) (s : Sz) (ok : s.Ok) (W : Wt7) (w : World) (hm : ModAt w m s W) (q : Rw) (hq : q.In .i64 w) (hn : q.n ≤ 1000) (hT : Tab w) (hS : STab w) (l1 : 1 < w.heap.size) (l2 : 0 < w.heap.size) (hc : check9 s.v s.p q.v 1 = 0) :
    Calls Tryz.prog 30 #[.pointer (some ⟨m, 0, none⟩), .slice q.a q.n q.cap] w fun e w' =>
      (∃ T r mb due, e = .returned (.tuple #[.pointer (some ⟨T, 0, none⟩), .int .i64 0]) ∧ w.heap.size ≤ T ∧ w.heap.size ≤ r ∧ w.heap.size ≤ mb ∧ TalkSt w' T r m mb s W ⟨[], 0, (runO (W.nums s) st09 []).K⟩ 0 due (.slice none 0 0) 0 [] w'.heap.size ∧ due.v = q.v ∧ due.n = q.n) ∧ Below w.heap.size w w' := by
  have cF := fault9 m s ok W w hm q.a q.n q.cap q.v 1 (by omega) hq.1 hn
  rw [hc] at cF
  have HM := Lib.hid hm
  have HQ := Lib.hid hq
  have HT := Lib.hid hT
  have HS := Lib.hid hS
  clear ok hm hq hT hS hc
  go_enter Tryz.func30, Tryz.ntmps30
  go_wp2_with fail
  refine cF.mono ?_
  rintro e wa ⟨rfl, hba⟩
  have cT := talk9 m s W wa (HM.out.bel hba) q (HQ.out.below hba) (by omega) ((runO (W.nums s) st09 []).K)
  have HBa := Lib.hid hba
  have HMa := Lib.hid (HM.out.bel hba)
  have HTa := Lib.hid (HT.out.below hba)
  have HSa := Lib.hid (HS.out.below hba)
  have hsa := hba.size
  clear cF hba
  go_wp2_with fail
  refine cT.mono ?_
  rintro e wb ⟨⟨T, r, mb, due, rfl, t1, t2, t3, t4, tR, tT, tv, tn, ta⟩, hbb⟩
  have hsb := hbb.size
  have hT0 : Hid (TalkSt wb T r m mb s W ⟨[], 0, (runO (W.nums s) st09 []).K⟩ 0 due (.slice none 0 0) 0 [] wb.heap.size) := Lib.hid
    ⟨tT.box, tT.due, fun b o hb => ta _ hb, saidR_nil _ _, tR, HMa.out.bel hbb, HTa.out.below hbb, HSa.out.below hbb, Nat.le_refl _, by omega, by omega⟩
  have HBb := Lib.hid (below_two HBa.out hbb)
  have HDV : Hid (due.v = q.v ∧ due.n = q.n) := Lib.hid ⟨tv, tn⟩
  clear cT tR tT tv tn ta hbb HMa HTa HSa HBa
  go_wp2
  go_ret2
  exact ⟨⟨T, r, mb, due, rfl, by omega, by omega, by omega, hT0.out, HDV.out.1, HDV.out.2⟩, HBb.out⟩
set_option maxHeartbeats 2000000 in
set_option maxRecDepth 100000 in
theorem begin_no (m : Nat) (s : Sz) (ok : s.Ok) (W : Wt7) (w : World) (hm : ModAt w m s W) (q : Rw) (hq : q.In .i64 w) (hn : q.n ≤ 1000) (hc : check9 s.v s.p q.v 1 ≠ 0) :
    Calls Tryz.prog 30 #[.pointer (some ⟨m, 0, none⟩), .slice q.a q.n q.cap] w fun e w' => e = .returned (.tuple #[.pointer none, .int .i64 (check9 s.v s.p q.v 1)]) ∧ Below w.heap.size w w' := by
  have cF := fault9 m s ok W w hm q.a q.n q.cap q.v 1 (by omega) hq.1 hn
  obtain ⟨c, hcc⟩ : ∃ c, check9 s.v s.p q.v 1 = c := ⟨_, rfl⟩
  rw [hcc] at cF hc ⊢
  have hcne : (c != 0) = true := by simpa using hc
  clear ok hm hq hc hcc
  go_enter Tryz.func30, Tryz.ntmps30
  go_wp2_with fail
  refine cF.mono ?_
  rintro e wa ⟨rfl, hba⟩
  have HB := Lib.hid hba
  clear cF hba
  go_wp2
  go_ret2
  exact ⟨rfl, HB.out⟩

section
variable {w w' : World} {T r m mb N n base : Nat} {s : Sz} {W : Wt7} {st : St8} {due : Rw} {v : Value} {said : List Int}
theorem TalkSt.bel (h : TalkSt w T r m mb s W st N due v n said base) (hb : Below w.heap.size w w') : TalkSt w' T r m mb s W st N due v n said base :=
  ⟨h.box.bel hb, h.dueIn.below hb, h.away, h.saidR.away (fun g hg => hb.block g (h.saidR.own.lt g hg).2), h.run.bel hb, h.mod.bel hb, h.tab.below hb, h.stab.below hb, Nat.le_trans h.le hb.size, h.ptab, h.pstab⟩
theorem TalkSt.rebase (h : TalkSt w T r m mb s W st N due (.slice none 0 0) 0 [] base) (l1 : 1 < w.heap.size) (l2 : 0 < w.heap.size) : TalkSt w T r m mb s W st N due (.slice none 0 0) 0 [] w.heap.size :=
  ⟨h.box, h.dueIn, h.away, saidR_nil _ _, h.run, h.mod, h.tab, h.stab, Nat.le_refl _, l1, l2⟩
end
theorem AwayT.below {w0 w w' : World} {T r mb base : Nat} (h : AwayT w w' T r mb base) {B : Nat} (hb : Below B w0 w) (h1 : B ≤ T) (h2 : B ≤ r) (h3 : B ≤ mb) (h4 : B ≤ base) : Below B w0 w' :=
  ⟨h.os.trans hb.os, h.tape.trans hb.tape, h.output.trans hb.output, Nat.le_trans hb.size h.size, fun k hk => (h.block k (by omega) (by omega) (by omega) (by omega)).trans (hb.block k hk)⟩
set_option maxHeartbeats 8000000 in
set_option maxRecDepth 100000 in
theorem next_no (T r m mb N n base : Nat) (s : Sz) (ok : s.Ok) (W : Wt7) (st : St8) (due : Rw) (v : Value) (said : List Int) (w : World) (h : TalkSt w T r m mb s W st N due v n said base) (hp : st.p ≤ 1000) (hd : due.n ≤ 1000) (hf : faultO s st.p due.v ≠ 0) :
    Calls Tryz.prog 31 #[.pointer (some ⟨T, 0, none⟩)] w fun e w' => e = .returned (.tuple #[.int .i64 0, .bool false]) ∧ Below w.heap.size w w' := by
  have z0 : w.cell? ⟨T, 0, none⟩ = some (.pointer (some ⟨r, 0, none⟩)) := h.box.cell 0
  have z1 : w.cell? ⟨T, 1, none⟩ = some (.slice due.a due.n due.cap) := h.box.cell 1
  have hbd : Below w.heap.size w w.drew := (Below.refl _ _).drew
  have cF := feed_no r m mb st.p due.n N due.cap st.K s ok W w.drew (h.run.bel hbd) (h.mod.bel hbd) hp due.a due.v (h.dueIn.1.below hbd) hd (.inl hf)
  obtain ⟨f, hff⟩ : ∃ f, faultO s st.p due.v = f := ⟨_, rfl⟩
  rw [hff] at cF hf
  have hfne : (f != 0) = true := by simpa using hf
  have hTl := h.box.lt
  clear h ok hf hff
  go_enter Tryz.func31, Tryz.ntmps31
  go_upto_region 1 with (fail)
  go_region_held3 (fun w' => w'.cell? ⟨T, 0, none⟩ = some (.pointer (some ⟨r, 0, none⟩)) ∧ w'.cell? ⟨T, 1, none⟩ = some (.slice due.a due.n due.cap))
    (first | go_keep | (go_split_ands; refine ⟨?_, ?_⟩ <;> assumption))
    (first
      | (go_at_call 11; (with_reducible refine cF.mono ?_); rintro e w1 ⟨rfl, hb1⟩
         have k0 := (hb1.cell (p := ⟨T, 0, none⟩) hTl).trans z0
         have k1 := (hb1.cell (p := ⟨T, 1, none⟩) hTl).trans z1
         have HB1 := Lib.hid (below_two hbd hb1)
         clear hb1))
  clear cF
  go_wp2
  go_ret2
  exact ⟨rfl, HB1.out⟩

end Go.Proofs.YtoeihigdndkjeaaGreatDoor
