/-
  The code's store: New, Put (with what it asks), Len, Room, Clear.
-/
import Derived.Test.YtolmejaedldeeaaStore12
import Derived.Test.YtolmejaedldeeaaEqual8
import Derived.Deep.RegionHeld3
import Derived.Deep.CutRange
import Derived.BigQuiet
namespace Go.Proofs.Ytolmejaedldeeaa
open Go.RowKit Go.Maps
set_option linter.unusedVariables false

set_option maxRecDepth 100000 in
theorem new12_yes (room : Nat) (h : room ≤ 1048576) (w : World) :
    Calls Try.prog 6 #[.int .i64 room] w fun e w' => ∃ sb, e = .returned (.tuple #[.pointer (some ⟨sb, 0, none⟩), .int .i64 0]) ∧ ∃ mb, StoreAt w' sb mb room [] ∧ w.heap.size ≤ sb ∧ w.heap.size ≤ mb ∧ Below w.heap.size w w' := by
  have hmm := @run_makeMap Try.prog
  have h1 : ¬ (room : Int) < 0 := by omega
  have h2 : ¬ (1048576 : Int) < (room : Int) := by omega
  have h3 : ¬ 1048576 < room := by omega
  go_enter Try.func6, Try.ntmps6
  go_wp2
  refine bodyPost_ret (v := .tuple #[.pointer (some ⟨w.heap.size + 1, 0, none⟩), .int .i64 0]) (by simp [results, Try.results6, go_sem]) rfl ?_
  refine ⟨w.heap.size + 1, rfl, w.heap.size, ⟨?_, goodE_nil, ⟨Nat.zero_le _, h⟩, fun _ => none, ?_, ?_⟩, Nat.le_succ _, Nat.le_refl _, ?_⟩
  · exact box_at (by simp) _ _
  · exact (mapAt_made w _ rfl).kept (World.grownBy_alloc _ _ none) (by simp)
  · exact ⟨fun r l p _ _ _ => rfl, by simp⟩
  · exact ((Below.refl _ _).alloc (Nat.le_refl _) _).alloc (by simp) _
set_option maxRecDepth 100000 in
theorem new12_no (x : Int) (h : x < 0 ∨ 1048576 < x) (w : World) :
    Calls Try.prog 6 #[.int .i64 x] w fun e w' => e = .returned (.tuple #[.pointer none, .int .i64 2]) ∧ w' = w := by
  rcases h with h | h
  · go_enter Try.func6, Try.ntmps6
    go_wp2
    exact bodyPost_ret (v := .tuple #[.pointer none, .int .i64 2]) (by simp [results, Try.results6, go_sem]) rfl ⟨rfl, rfl⟩
  · have h1 : ¬ x < 0 := by omega
    go_enter Try.func6, Try.ntmps6
    go_wp2
    exact bodyPost_ret (v := .tuple #[.pointer none, .int .i64 2]) (by simp [results, Try.results6, go_sem]) rfl ⟨rfl, rfl⟩

set_option maxRecDepth 100000 in
theorem len12 {w : World} {sb mb room : Nat} {L : List Ent} (h : StoreAt w sb mb room L) :
    Calls Try.prog 12 #[.pointer (some ⟨sb, 0, none⟩)] w fun e w' => e = .returned (.int .i64 L.length) ∧ w' = w := by
  have c1 : w.cell? ⟨sb, 1, none⟩ = some (.map (some mb)) := h.box.cell 1
  obtain ⟨F, h1, _⟩ := h.map
  have hl := h1.len Try.underlying58
  clear h h1
  go_enter Try.func12, Try.ntmps12
  go_wp2
  go_ret
  exact ⟨rfl, rfl⟩
set_option maxRecDepth 100000 in
theorem room12 {w : World} {sb mb room : Nat} {L : List Ent} (h : StoreAt w sb mb room L) :
    Calls Try.prog 13 #[.pointer (some ⟨sb, 0, none⟩)] w fun e w' => e = .returned (.int .i64 room) ∧ w' = w := by
  have c1 : w.cell? ⟨sb, 0, none⟩ = some (.int .i64 room) := h.box.cell 0
  clear h
  go_enter Try.func13, Try.ntmps13
  go_wp2
  go_ret
  exact ⟨rfl, rfl⟩
set_option maxRecDepth 100000 in
theorem clear12 {w : World} {sb mb room : Nat} {L : List Ent} (h : StoreAt w sb mb room L) :
    Calls Try.prog 11 #[.pointer (some ⟨sb, 0, none⟩)] w fun e w' => e = .returned (.tuple #[]) ∧ StoreAt w' sb mb room [] ∧ w.grownBy w' (some mb) := by
  have c1 : w.cell? ⟨sb, 1, none⟩ = some (.map (some mb)) := h.box.cell 1
  obtain ⟨F, h1, _⟩ := h.map
  obtain ⟨w', hr, hm, ht⟩ := h1.clear Try.underlying58 0
  have hg := ht.grown
  have hS : StoreAt w' sb mb room [] := ⟨h.box.kept hg (fun e => h.lt.2.2 (by cases e; rfl)), goodE_nil, ⟨Nat.zero_le _, h.room.2⟩, _, hm, fun r l p _ _ _ => rfl, by simp⟩
  clear h h1 hm ht
  go_enter Try.func11, Try.ntmps11
  go_wp2
  exact bodyPost_end (v := .tuple #[]) (results_none rfl _ _ _) rfl ⟨rfl, hS, hg⟩

/-- is the place ahead there -/
def aheadE (L : List Ent) (r l p : Int) : Bool := if p = 0 then true else hasE L r l (p - 1)
set_option maxRecDepth 100000 in
theorem ahead12 {w : World} {sb mb room : Nat} {L : List Ent} (h : StoreAt w sb mb room L) {r l p : Int} (hr : w64 r) (hl : w64 l) (hp : w64 p) (h0 : 0 ≤ p) :
    Calls Try.prog 22 #[.pointer (some ⟨sb, 0, none⟩), spotV r l p] w fun e w' => e = .returned (.bool (aheadE L r l p)) ∧ Below w.heap.size w w' := by
  unfold spotV aheadE
  by_cases e0 : p = 0
  · subst e0
    clear h
    go_enter Try.func22, Try.ntmps22
    go_wp2
    go_ret
    exact ⟨rfl, (Below.refl _ _).alloc (Nat.le_refl _) _⟩
  · rw [if_neg e0]
    have hne : (p == 0) = false := by simpa using e0
    have hb := w64_bd.1 hp
    have hp1 : w64 (p - 1) := w64_bd.2 (by omega)
    have hwr : IntKind.i64.wrap (p - 1) = p - 1 := IntWalk.i64_in _ (by omega)
    obtain ⟨F, hM, hF⟩ := h.map
    obtain ⟨k0, v0, hg, hh, -⟩ := hF.get hr hl hp1
    have HG := Lib.hid hg
    have hk := keyT_mk hr hl hp1
    have c1 := h.box.cell 1
    have hlt := h.lt.1
    have HM := Lib.hid hM
    have HX := Lib.hid h.box
    have HW := Lib.hid hwr
    have HK := Lib.hid hk
    have HH := Lib.hid hh
    have c2 : w.cell? ⟨sb, 1, none⟩ = some (.map (some mb)) := c1
    clear c1 h hM hF e0 hb h0 hp hp1 hr hl hk hh hg
    go_enter Try.func22, Try.ntmps22
    have c3 : ∀ o, (w.alloc o).cell? ⟨sb, 1, none⟩ = some (.map (some mb)) := fun o => (HX.out.alloc o).cell 1
    have hlk : ∀ W, MapAt W 33 mb L.length F → (Instr.lookup 58 (.map (some mb)) (.agg #[.int .i64 r, .int .i64 l, .int .i64 (p - 1)]) true).run Try.prog W = .ok (.tuple #[.agg #[.slice k0.a k0.n k0.cap, .slice v0.a v0.n v0.cap], .bool (hasE L r l (p - 1))]) W := fun W hW =>
      hW.look spot12_law Try.underlying58 (zero_kept12 _) HK.out HG.out HH.out
    have hlk1 := fun o => hlk _ (HM.out.alloc o).drew
    have hlk2 := fun o o' => hlk _ ((HM.out.alloc o).alloc o').drew
    clear hlk
    go_upto_region 4 with (fail)
    go_region
    go_wp2
    go_ret
    exact ⟨rfl, (((Below.refl _ _).alloc (Nat.le_refl _) _).alloc (by simp) _).drew⟩

set_option maxRecDepth 100000 in
theorem same12 (k0 v0 k v : Rw) (w : World) (h1 : k0.In .i8 w) (h2 : v0.In .i8 w) (h3 : k.In .i8 w) (h4 : v.In .i8 w) :
    Calls Try.prog 23 #[kvR k0 v0, .slice k.a k.n k.cap, .slice v.a v.n v.cap] w fun e w' => e = .returned (.bool (decide (k0.v = k.v ∧ v0.v = v.v))) ∧ Below w.heap.size w w' := by
  have c1 : ∀ o, Calls Try.prog 29 #[.slice k0.a k0.n k0.cap, .slice k.a k.n k.cap] (w.alloc o) _ := fun o => equal8 k0.a k.a k0.n k.n k0.cap k.cap k0.v k.v (w.alloc o) (h1.below ((Below.refl _ _).alloc (Nat.le_refl _) _)).1 (h3.below ((Below.refl _ _).alloc (Nat.le_refl _) _)).1
  have c2 : ∀ W, Below w.heap.size w W → Calls Try.prog 29 #[.slice v0.a v0.n v0.cap, .slice v.a v.n v.cap] W _ := fun W hW => equal8 v0.a v.a v0.n v.n v0.cap v.cap v0.v v.v W (h2.below hW).1 (h4.below hW).1
  unfold kvR
  by_cases hk : k0.v = k.v
  · have hb1 : decide (k0.v = k.v) = true := by simpa using hk
    have hb2 : decide (k0.v = k.v ∧ v0.v = v.v) = decide (v0.v = v.v) := by simp [hk]
    rw [hb2]
    rw [hb1] at c1
    clear h1 h2 h3 h4 hk hb1 hb2
    go_enter Try.func23, Try.ntmps23
    go_wp2_with (refine (c1 _).mono ?_)
    rintro e wa ⟨rfl, hb⟩
    have HB := Lib.hid hb
    have X : Box wa w.heap.size 63 #[.slice k0.a k0.n k0.cap, .slice v0.a v0.n v0.cap] := (box_new w _ _).bel hb
    have x1 : wa.cell? ⟨w.heap.size, 1, none⟩ = some (.slice v0.a v0.n v0.cap) := X.cell 1
    have HB2 : Hid (Below w.heap.size w wa) := Lib.hid (((Below.refl _ _).alloc (Nat.le_refl _) _).trans (hb.mono (by simp)))
    have c3 := c2 wa HB2.out
    clear c1 c2 hb X
    go_wp2_with (refine c3.mono ?_)
    rintro e wb ⟨rfl, hb⟩
    have HB3 := Lib.hid (below_two HB2.out hb)
    clear c3 hb x1
    go_wp2
    go_ret
    exact ⟨rfl, HB3.out⟩
  · have hb1 : decide (k0.v = k.v) = false := by simpa using hk
    have hb2 : decide (k0.v = k.v ∧ v0.v = v.v) = false := by simp [hk]
    rw [hb2]
    rw [hb1] at c1
    clear h1 h2 h3 h4 hk hb1 hb2 c2
    go_enter Try.func23, Try.ntmps23
    go_wp2_with (refine (c1 _).mono ?_)
    rintro e wa ⟨rfl, hb⟩
    have HB2 : Hid (Below w.heap.size w wa) := Lib.hid (((Below.refl _ _).alloc (Nat.le_refl _) _).trans (hb.mono (by simp)))
    clear c1 hb
    go_wp2
    go_ret
    exact ⟨rfl, HB2.out⟩

theorem putE_arg {room : Nat} {L : List Ent} {e : Ent} (h : e.r < 0 ∨ e.l < 0 ∨ e.p < 0) : putE room L e = (2, L) := by unfold putE; rw [if_pos h]
theorem putE_shape {room : Nat} {L : List Ent} {e : Ent} (h : 0 ≤ e.r ∧ 0 ≤ e.l ∧ 0 ≤ e.p) (h2 : e.k.length ≠ e.v.length) : putE room L e = (30, L) := by unfold putE; rw [if_neg (by omega), if_pos h2]
theorem putE_gap {room : Nat} {L : List Ent} {e : Ent} (h : 0 ≤ e.r ∧ 0 ≤ e.l ∧ 0 ≤ e.p) (h2 : e.k.length = e.v.length) (h3 : aheadE L e.r e.l e.p = false) : putE room L e = (120, L) := by
  have : e.p ≠ 0 ∧ hasE L e.r e.l (e.p - 1) = false := by
    unfold aheadE at h3
    split at h3
    · cases h3
    · exact ⟨‹_›, h3⟩
  unfold putE; rw [if_neg (by omega), if_neg (by simpa using h2), if_pos this]
theorem putE_on {room : Nat} {L : List Ent} {e : Ent} (h : 0 ≤ e.r ∧ 0 ≤ e.l ∧ 0 ≤ e.p) (h2 : e.k.length = e.v.length) (h3 : aheadE L e.r e.l e.p = true) :
    putE room L e = match findE L e.r e.l e.p with | some y => if y.k = e.k ∧ y.v = e.v then (0, L) else (2, L) | none => if room ≤ L.length then (80, L) else (0, L ++ [e]) := by
  have : ¬ (e.p ≠ 0 ∧ hasE L e.r e.l (e.p - 1) = false) := by
    unfold aheadE at h3
    split at h3
    · omega
    · rw [h3]; simp
  unfold putE; rw [if_neg (by omega), if_neg (by simpa using h2), if_neg this]
  generalize findE L e.r e.l e.p = o
  cases o <;> rfl
/-- the store behind a spot that was laid anew -/
theorem StoreAt.put {w w1 w2 : World} {sb mb room : Nat} {L : List Ent} {F : Lit → Option Value} {e : Ent} {k v : Rw} (h : StoreAt w sb mb room L) (hb : Below w.heap.size w w1) (hm : MapAt w1 33 mb L.length F) (hF : FitE w1 L F) (hR : RowsE w1 e k v)
    (hw : w64 e.r ∧ w64 e.l ∧ w64 e.p) (hgd : GoodE (L ++ [e])) (hn : hasE L e.r e.l e.p = false) (hr : L.length < room) (hm2 : MapAt w2 33 mb (L.length + 1) (upF F (keyT e.r e.l e.p) (kvR k v))) (hg : w1.grownBy w2 (some mb)) : StoreAt w2 sb mb room (L ++ [e]) := by
  refine ⟨(h.box.bel hb).kept hg (fun e => h.lt.2.2 (by cases e; rfl)), hgd, ⟨by simp; omega, h.room.2⟩, _, by simpa using hm2, fun r l p hr hl hp => ?_, fun x hx => ?_⟩
  · rw [hasE_app]
    by_cases he : r = e.r ∧ l = e.l ∧ p = e.p
    · obtain ⟨rfl, rfl, rfl⟩ := he
      rw [upF_same, at_iff.2 ⟨rfl, rfl, rfl⟩]; simp
    · rw [upF_other _ (fun e1 => he (keyT_inj ⟨hr, hl, hp⟩ hw e1)), hF.1 r l p hr hl hp]
      have : e.at_ r l p = false := by
        rw [← Bool.not_eq_true, at_iff]
        exact fun h => he ⟨h.1.symm, h.2.1.symm, h.2.2.symm⟩
      rw [this]; simp
  · rcases List.mem_append.1 hx with hx | hx
    · obtain ⟨k1, v1, e1, r1, r2, r3⟩ := hF.2 x hx
      refine ⟨k1, v1, ?_, rw_map r1 hm hg, rw_map r2 hm hg, r3⟩
      rw [upF_other _ (fun e2 => ?_), e1]
      have := keyT_inj (h.good.bd x hx).2 hw e2
      exact hasE_no.1 hn x hx this
    · rw [List.mem_singleton] at hx
      subst hx
      exact ⟨k, v, upF_same _ _ _, rw_map hR.1 hm hg, rw_map hR.2.1 hm hg, hR.2.2⟩

set_option maxHeartbeats 1600000 in
set_option maxRecDepth 100000 in
theorem put12F {w : World} {sb mb room : Nat} {L : List Ent} (h : StoreAt w sb mb room L) (e : Ent) (k v : Rw) (hR : RowsE w e k v) (hw : w64 e.r ∧ w64 e.l ∧ w64 e.p) :
    Calls Try.prog 7 #[.pointer (some ⟨sb, 0, none⟩), spotV e.r e.l e.p, .slice k.a k.n k.cap, .slice v.a v.n v.cap] w fun en w' => en = .returned (.int .i64 (putE room L e).1) ∧ StoreAt w' sb mb room (putE room L e).2 ∧ w.grownBy w' (some mb) ∧ ∀ b, b < w.heap.size → StoreOff w sb mb L b → StoreOff w' sb mb (putE room L e).2 b := by
  have hno : ∀ w', Below w.heap.size w w' → StoreAt w' sb mb room L ∧ w.grownBy w' (some mb) ∧ ∀ b, b < w.heap.size → StoreOff w sb mb L b → StoreOff w' sb mb L b := fun w' hb => ⟨h.bel hb, ⟨hb.os, hb.tape, hb.output, hb.size, fun i hi _ => hb.block i hi⟩, fun b _ ho => ho.bel h hb⟩
  have hal : ∀ o, Below w.heap.size w (w.alloc o) := fun o => (Below.refl _ _).alloc (Nat.le_refl _) o
  by_cases ha : e.r < 0 ∨ e.l < 0 ∨ e.p < 0
  · rw [putE_arg ha]
    obtain ⟨r, l, p, K, V⟩ := e
    simp only at ha ⊢
    unfold spotV
    clear h hR hw
    by_cases a1 : r < 0
    · go_enter Try.func7, Try.ntmps7
      go_wp2
      go_ret
      exact ⟨rfl, hno _ (hal _)⟩
    · by_cases a2 : l < 0
      · go_enter Try.func7, Try.ntmps7
        go_wp2
        go_ret
        exact ⟨rfl, hno _ (hal _)⟩
      · have a3 : p < 0 := by omega
        go_enter Try.func7, Try.ntmps7
        go_wp2
        go_ret
        exact ⟨rfl, hno _ (hal _)⟩
  have h0 : 0 ≤ e.r ∧ 0 ≤ e.l ∧ 0 ≤ e.p := by omega
  clear ha
  have hkl : k.n = e.k.length := by rw [← hR.2.2.1]; exact hR.1.1.1.symm
  have hvl : v.n = e.v.length := by rw [← hR.2.2.2.1]; exact hR.2.1.1.1.symm
  by_cases hs : e.k.length = e.v.length
  rotate_left
  · rw [putE_shape h0 hs]
    obtain ⟨r, l, p, K, V⟩ := e
    simp only at h0 hs hkl hvl ⊢
    unfold spotV
    obtain ⟨a1, a2, a3⟩ := h0
    have b1 : ¬ r < 0 := by omega
    have b2 : ¬ l < 0 := by omega
    have b3 : ¬ p < 0 := by omega
    have b4 : ((k.n : Int) != (v.n : Int)) = true := by simp; omega
    clear h hR hw
    go_enter Try.func7, Try.ntmps7
    go_wp2
    go_ret
    exact ⟨rfl, hno _ (hal _)⟩
  have b4 : ((k.n : Int) != (v.n : Int)) = false := by simp; omega
  have cA : ∀ o, Calls Try.prog 22 #[.pointer (some ⟨sb, 0, none⟩), spotV e.r e.l e.p] (w.alloc o) _ := fun o => ahead12 (h.bel (hal o)) hw.1 hw.2.1 hw.2.2 h0.2.2
  have b1 : ¬ e.r < 0 := by omega
  have b2 : ¬ e.l < 0 := by omega
  have b3 : ¬ e.p < 0 := by omega
  cases hh : aheadE L e.r e.l e.p with
  | false =>
    rw [putE_gap h0 hs hh]
    rw [hh] at cA
    obtain ⟨r, l, p, K, V⟩ := e
    simp only at b1 b2 b3 cA ⊢
    unfold spotV at cA ⊢
    clear h hR hw h0 hs hkl hvl hh
    go_enter Try.func7, Try.ntmps7
    go_wp2_with (refine (cA _).mono ?_)
    rintro en wb rfl hb
    have HB : Hid (Below w.heap.size w wb) := Lib.hid ((hal _).trans (hb.mono (by simp)))
    clear cA hb
    go_wp2
    go_ret
    exact ⟨rfl, hno _ HB.out⟩
  | true =>
  rw [putE_on h0 hs hh]
  generalize hres : (match findE L e.r e.l e.p with | some y => if y.k = e.k ∧ y.v = e.v then (0, L) else (2, L) | none => if room ≤ L.length then (80, L) else (0, L ++ [e]) : Int × List Ent) = res
  have HRES := Lib.hid hres
  rw [hh] at cA
  have hh2 : e.p = 0 ∨ hasE L e.r e.l (e.p - 1) = true := by
    unfold aheadE at hh
    split at hh
    · exact .inl ‹_›
    · exact .inr hh
  obtain ⟨F, hM, hF⟩ := h.map
  have HK := Lib.hid (keyT_mk hw.1 hw.2.1 hw.2.2)
  obtain ⟨k0, v0, hg, hhas, hcase⟩ := hF.get hw.1 hw.2.1 hw.2.2
  have HG := Lib.hid hg
  have HH := Lib.hid hhas
  have HM := Lib.hid hM
  have HF := Lib.hid hF
  have HX := Lib.hid h.box
  have HST := Lib.hid h
  have HR := Lib.hid hR
  have HW := Lib.hid hw
  have HGD := Lib.hid h.good
  have HC := Lib.hid hcase
  have HH2 := Lib.hid (And.intro h0 hh2)
  have HRM := Lib.hid h.room
  have hlt := h.lt.1
  have HNE := Lib.hid (And.intro h.lt.2.2 hlt)
  clear h hR hw h0 hs hkl hvl hh hM hF hg hhas hcase hh2 hres
  obtain ⟨r, l, p, K, V⟩ := e
  simp only at b1 b2 b3 cA HK HG HH HW HC HH2 ⊢
  unfold spotV at cA ⊢
  go_enter Try.func7, Try.ntmps7
  go_wp2_with (refine (cA _).mono ?_)
  rintro en wb rfl hb
  have X : Box wb w.heap.size 33 #[.int .i64 r, .int .i64 l, .int .i64 p] := (box_new w _ _).below hb (by simp)
  have HB : Hid (Below w.heap.size w wb) := Lib.hid ((hal _).trans (hb.mono (by simp)))
  have hsz : w.heap.size < wb.heap.size := X.lt
  have HMb := Lib.hid (HM.out.bel HB.out HM.out.lt)
  have HXb := Lib.hid (HX.out.bel HB.out)
  have HXs := Lib.hid X
  have c1 : wb.cell? ⟨sb, 1, none⟩ = some (.map (some mb)) := HXb.out.cell 1
  have x0 : wb.cell? ⟨w.heap.size, 0, none⟩ = some (.int .i64 r) := X.cell 0
  have x1 : wb.cell? ⟨w.heap.size, 1, none⟩ = some (.int .i64 l) := X.cell 1
  have x2 : wb.cell? ⟨w.heap.size, 2, none⟩ = some (.int .i64 p) := X.cell 2
  have c1' : ∀ o, (wb.alloc o).cell? ⟨sb, 1, none⟩ = some (.map (some mb)) := fun o => (HXb.out.alloc o).cell 1
  have x0' : ∀ o, (wb.alloc o).cell? ⟨w.heap.size, 0, none⟩ = some (.int .i64 r) := fun o => (X.alloc o).cell 0
  have x1' : ∀ o, (wb.alloc o).cell? ⟨w.heap.size, 1, none⟩ = some (.int .i64 l) := fun o => (X.alloc o).cell 1
  have x2' : ∀ o, (wb.alloc o).cell? ⟨w.heap.size, 2, none⟩ = some (.int .i64 p) := fun o => (X.alloc o).cell 2
  have hlk : ∀ W, MapAt W 33 mb L.length F → (Instr.lookup 58 (.map (some mb)) (.agg #[.int .i64 r, .int .i64 l, .int .i64 p]) true).run Try.prog W = .ok (.tuple #[.agg #[.slice k0.a k0.n k0.cap, .slice v0.a v0.n v0.cap], .bool (hasE L r l p)]) W := fun W hW =>
    hW.look spot12_law Try.underlying58 (zero_kept12 _) HK.out HG.out HH.out
  have hlk0 := hlk _ HMb.out.drew
  have hlk1 := fun o => hlk _ (HMb.out.alloc o).drew
  clear hlk cA hb X
  go_upto_region 7 with (fail)
  go_region
  generalize hwc : World.drew (wb.alloc _) = wc
  have Y : Box wc wb.heap.size 63 #[.slice k0.a k0.n k0.cap, .slice v0.a v0.n v0.cap] := by rw [← hwc]; exact (box_new wb _ _).drew
  have hbc : Below wb.heap.size wb wc := by rw [← hwc]; exact ((Below.refl _ _).alloc (Nat.le_refl _) _).drew
  have HBc : Hid (Below w.heap.size w wc) := Lib.hid (below_two HB.out hbc)
  have Xc := HXs.out.bel hbc
  have HXs := Lib.hid Xc
  have HMc := Lib.hid (HMb.out.bel hbc HMb.out.lt)
  have HXc := Lib.hid (HXb.out.bel hbc)
  have HFc := Lib.hid (HF.out.bel HBc.out)
  have HRc := Lib.hid (HR.out.bel HBc.out)
  have hsz2 : w.heap.size < wc.heap.size := Xc.lt
  have y1 : wc.cell? ⟨sb, 1, none⟩ = some (.map (some mb)) := HXc.out.cell 1
  have y2 : wc.cell? ⟨sb, 0, none⟩ = some (.int .i64 room) := HXc.out.cell 0
  have z0 : wc.cell? ⟨w.heap.size, 0, none⟩ = some (.int .i64 r) := Xc.cell 0
  have z1 : wc.cell? ⟨w.heap.size, 1, none⟩ = some (.int .i64 l) := Xc.cell 1
  have z2 : wc.cell? ⟨w.heap.size, 2, none⟩ = some (.int .i64 p) := Xc.cell 2
  have k1 : wc.cell? ⟨wb.heap.size, 0, none⟩ = some (.slice k0.a k0.n k0.cap) := Y.cell 0
  have k2 : wc.cell? ⟨wb.heap.size, 1, none⟩ = some (.slice v0.a v0.n v0.cap) := Y.cell 1
  clear hwc hlk0 hlk1 c1 x0 x1 x2 c1' x0' x1' x2' hbc Xc Y HMb HXb HF HR HB
  cases hhs : hasE L r l p with
  | true =>
    have hfind : ∃ x, findE L r l p = some x ∧ Rw.In .i8 wc k0 ∧ Rw.In .i8 wc v0 ∧ k0.v = x.k ∧ v0.v = x.v := by
      rcases HC.out with ⟨x, hx, rfl, rfl, rfl, hr⟩ | ⟨hn, _⟩
      · have hr' := hr.bel HBc.out
        exact ⟨x, HGD.out.find hx, hr'.1, hr'.2.1, hr'.2.2.1, hr'.2.2.2.1⟩
      · rw [hn] at hhs; cases hhs
    obtain ⟨x, hf, i1, i2, e1, e2⟩ := hfind
    have cS := same12 k0 v0 k v wc i1 i2 HRc.out.1 HRc.out.2.1
    have hdec : decide (k0.v = k.v ∧ v0.v = v.v) = decide (x.k = K ∧ x.v = V) := by rw [e1, e2, HRc.out.2.2.1, HRc.out.2.2.2.1]
    rw [hdec] at cS
    have hres := HRES.out
    simp only [hf] at hres
    have HHS := Lib.hid hhs
    unfold kvR at cS
    clear hhs i1 i2 e1 e2 hf hdec z0 z1 z2
    by_cases hq : x.k = K ∧ x.v = V
    · have hq2 : decide (x.k = K ∧ x.v = V) = true := by simpa using hq
      rw [hq2] at cS
      rw [if_pos hq] at hres
      have HRES2 := Lib.hid hres
      clear hq hq2 hres HRES
      go_wp2_with (refine cS.mono ?_)
      rintro en wd ⟨rfl, hb⟩
      have HBd := Lib.hid (below_two HBc.out hb)
      clear cS hb k1 k2
      go_wp2
      go_ret
      rw [← HRES2.out]
      exact ⟨rfl, hno _ HBd.out⟩
    · have hq2 : decide (x.k = K ∧ x.v = V) = false := by simpa using hq
      rw [hq2] at cS
      rw [if_neg hq] at hres
      have HRES2 := Lib.hid hres
      clear hq hq2 hres HRES
      go_wp2_with (refine cS.mono ?_)
      rintro en wd ⟨rfl, hb⟩
      have HBd := Lib.hid (below_two HBc.out hb)
      clear cS hb k1 k2
      go_wp2
      go_ret
      rw [← HRES2.out]
      exact ⟨rfl, hno _ HBd.out⟩
  | false =>
    have hf : findE L r l p = none := by
      cases hf : findE L r l p with
      | none => rfl
      | some y => obtain ⟨h1, h2⟩ := findE_some hf; exact absurd h2 (hasE_no.1 hhs y h1)
    have hres := HRES.out
    simp only [hf] at hres
    have HHS := Lib.hid hhs
    clear hhs hf k1 k2
    have hl := HMc.out.drew.len Try.underlying58
    have hrm := HRM.out
    by_cases hfull : room ≤ L.length
    · have hfull2 : (room : Int) ≤ (L.length : Int) := by omega
      rw [if_pos hfull] at hres
      have HRES2 := Lib.hid hres
      clear hfull hrm hres HRES
      go_wp2
      go_region
      go_wp2
      go_ret
      rw [← HRES2.out]
      exact ⟨rfl, hno _ HBc.out.drew⟩
    · have hfull2 : ¬ (room : Int) ≤ (L.length : Int) := by omega
      rw [if_neg hfull] at hres
      have HRES2 := Lib.hid hres
      have hgd : GoodE (L ++ [⟨r, l, p, K, V⟩]) := HGD.out.snoc HH2.out.1 HW.out HH2.out.2 HHS.out
      have HGE := Lib.hid hgd
      have hroom : Hid (L.length < room) := Lib.hid (by omega)
      have HLM : Hid (L.length < maxLen) := Lib.hid (by unfold maxLen; omega)
      clear hfull hrm hgd hres HRES
      go_wp2
      go_region
      go_upto_region 14 with (fail)
      generalize hwd : World.drew wc = wd
      have hbd : Below wc.heap.size wc wd := by rw [← hwd]; exact (Below.refl _ _).drew
      have HBd := Lib.hid (below_two HBc.out hbd)
      have HMd := Lib.hid (HMc.out.bel hbd HMc.out.lt)
      have HXd := Lib.hid (HXc.out.bel hbd)
      have HZd := Lib.hid (HXs.out.bel hbd)
      have HFd := Lib.hid (HFc.out.bel hbd)
      have HRd := Lib.hid (HRc.out.bel hbd)
      have y1 : wd.cell? ⟨sb, 1, none⟩ = some (.map (some mb)) := HXd.out.cell 1
      have z0 : wd.cell? ⟨w.heap.size, 0, none⟩ = some (.int .i64 r) := HZd.out.cell 0
      have z1 : wd.cell? ⟨w.heap.size, 1, none⟩ = some (.int .i64 l) := HZd.out.cell 1
      have z2 : wd.cell? ⟨w.heap.size, 2, none⟩ = some (.int .i64 p) := HZd.out.cell 2
      have HD0 : Hid (Below wd.heap.size wd wd.drew) := Lib.hid (Below.refl _ _).drew
      have cA := clone8 k wd.drew HRd.out.1 HRd.out.2.2.2.2.1
      have cB := fun W (hW : Below wd.heap.size wd W) => clone8 v W (HRd.out.2.1.below hW) HRd.out.2.2.2.2.2
      clear hwd hbd HBc HMc HXc HXs HFc HRc y2 hl
      go_region_held3 (fun w' => w'.cell? ⟨sb, 1, none⟩ = some (.map (some mb)) ∧ w'.cell? ⟨w.heap.size, 0, none⟩ = some (.int .i64 r) ∧ w'.cell? ⟨w.heap.size, 1, none⟩ = some (.int .i64 l) ∧ w'.cell? ⟨w.heap.size, 2, none⟩ = some (.int .i64 p))
        (first | go_keep | (go_split_ands; refine ⟨?_, ?_, ?_, ?_⟩ <;> assumption))
        (first
          | (go_at_call 24; (with_reducible refine cA.mono ?_); rintro en w1 ⟨⟨g, rfl, hgi, hgv, hgn, hga⟩, hb1⟩
             have HGA := Lib.hid hga
             have HG1 := Lib.hid (And.intro hgi (And.intro hgv hgn))
             have HB1 := Lib.hid (below_two HD0.out hb1)
             have HX1 := Lib.hid (Box.bel HXd.out HB1.out)
             have HZ1 := Lib.hid (Box.bel HZd.out HB1.out)
             have v1 : w1.cell? ⟨sb, 1, none⟩ = some (.map (some mb)) := HX1.out.cell 1
             have v2 : w1.cell? ⟨w.heap.size, 0, none⟩ = some (.int .i64 r) := HZ1.out.cell 0
             have v3 : w1.cell? ⟨w.heap.size, 1, none⟩ = some (.int .i64 l) := HZ1.out.cell 1
             have v4 : w1.cell? ⟨w.heap.size, 2, none⟩ = some (.int .i64 p) := HZ1.out.cell 2
             clear hgi hgv hgn hga hb1)
          | (go_at_call 24; (with_reducible refine (cB _ ?h9).mono ?_); (case h9 => exact HB1.out); rintro en w2 ⟨⟨h, rfl, hhi, hhv, hhn, hha⟩, hb2⟩
             have HHA := Lib.hid hha
             have HB2 := Lib.hid (below_two HB1.out hb2)
             have HR2 : Hid (RowsE w2 ⟨r, l, p, K, V⟩ g h) := Lib.hid ⟨HG1.out.1.below hb2, hhi, HG1.out.2.1.trans HRd.out.2.2.1, hhv.trans HRd.out.2.2.2.1, by rw [HG1.out.2.2]; exact HRd.out.2.2.2.2.1, by rw [hhn]; exact HRd.out.2.2.2.2.2⟩
             have HX2 := Lib.hid (Box.bel HX1.out hb2)
             have HZ2 := Lib.hid (Box.bel HZ1.out hb2)
             have HM2 := Lib.hid (MapAt.bel (w := wd) HMd.out HB2.out HMd.out.lt)
             have HF2 := Lib.hid (FitE.bel (w := wd) HFd.out HB2.out)
             obtain ⟨w3, hr3, hm3, hg3⟩ := HM2.out.upd spot12_law Try.underlying58 HLM.out HK.out (.agg #[.slice g.a g.n g.cap, .slice h.a h.n h.cap]) (n' := L.length + 1) (by rw [HH.out, HHS.out]; rfl)
             have HM3 := Lib.hid (And.intro hm3 hg3)
             have u1 : w2.cell? ⟨sb, 1, none⟩ = some (.map (some mb)) := HX2.out.cell 1
             have u2 : w2.cell? ⟨w.heap.size, 0, none⟩ = some (.int .i64 r) := HZ2.out.cell 0
             have u3 : w2.cell? ⟨w.heap.size, 1, none⟩ = some (.int .i64 l) := HZ2.out.cell 1
             have u4 : w2.cell? ⟨w.heap.size, 2, none⟩ = some (.int .i64 p) := HZ2.out.cell 2
             have HX3 := Lib.hid (HX2.out.kept hg3 (fun e => HNE.out.1 (by cases e; rfl)))
             have HZ3 := Lib.hid (HZ2.out.kept hg3 (fun e => HM2.out.cells (by cases e; exact HZ2.out)))
             have t1 : w3.cell? ⟨sb, 1, none⟩ = some (.map (some mb)) := HX3.out.cell 1
             have t2 : w3.cell? ⟨w.heap.size, 0, none⟩ = some (.int .i64 r) := HZ3.out.cell 0
             have t3 : w3.cell? ⟨w.heap.size, 1, none⟩ = some (.int .i64 l) := HZ3.out.cell 1
             have t4 : w3.cell? ⟨w.heap.size, 2, none⟩ = some (.int .i64 p) := HZ3.out.cell 2
             unfold spotV at hr3
             clear hhi hhv hhn hha hb2 hm3 hg3))
      go_wp2
      go_ret
      rw [← HRES2.out]
      have hB2 := below_two HBd.out HB2.out
      refine ⟨rfl, HST.out.put hB2 HM2.out HF2.out HR2.out HW.out HGE.out HHS.out hroom.out HM3.out.1 HM3.out.2, ?_, fun b hb ho => ?_⟩
      · exact (hno _ hB2).2.1.andThen HM3.out.2 (fun j hj => .inr hj)
      · have hw2 := HBd.out.size
        have hw3 := HB1.out.size
        exact (ho.bel HST.out hB2).put HM2.out HM3.out.1 HGE.out (fun x hx _ e => by have := HGA.out x hx; simp only [World.drew] at this; omega) (fun x hx _ e => by have := HHA.out x hx; omega)
/-- the same, shorter -/
theorem put12 {w : World} {sb mb room : Nat} {L : List Ent} (h : StoreAt w sb mb room L) (e : Ent) (k v : Rw) (hR : RowsE w e k v) (hw : w64 e.r ∧ w64 e.l ∧ w64 e.p) :
    Calls Try.prog 7 #[.pointer (some ⟨sb, 0, none⟩), spotV e.r e.l e.p, .slice k.a k.n k.cap, .slice v.a v.n v.cap] w fun en w' => en = .returned (.int .i64 (putE room L e).1) ∧ StoreAt w' sb mb room (putE room L e).2 ∧ w.grownBy w' (some mb) :=
  (put12F h e k v hR hw).mono fun _ _ h => ⟨h.1, h.2.1, h.2.2.1⟩

end Go.Proofs.Ytolmejaedldeeaa
