/-
  The code's store: Drop of one request.
-/
import Derived.Test.YtolmejaedldeeaaDel12
namespace Go.Proofs.Ytolmejaedldeeaa
open Go.RowKit Go.Maps
set_option linter.unusedVariables false

set_option maxHeartbeats 1600000 in
set_option maxRecDepth 100000 in
theorem drop12 {w : World} {sb mb room : Nat} {L : List Ent} (hS : StoreAt w sb mb room L) {a : Option Addr} {c : Nat} {q : Int} (hE : Elems .i64 w a 1 [q]) :
    Calls Try.prog 9 #[.pointer (some ⟨sb, 0, none⟩), .slice a 1 c] w fun e w' =>
      e = .returned (.int .i64 ((L.length : Int) - ((L.filter fun x => !(x.r == q)).length : Int))) ∧ StoreAt w' sb mb room (L.filter fun x => !(x.r == q)) ∧ w.grownBy w' (some mb) := by
  have hmm := @run_makeMap Try.prog
  obtain ⟨b0, off, y, rfl, hc0, hy, hwy⟩ := hE.at_ (i := 0) (by omega)
  have hyq : y = q := by rw [← hy.out]; rfl
  subst hyq
  have HS := Lib.hid hS
  have HE := Lib.hid hE
  have HW : Hid (w64 y) := Lib.hid hwy
  have hfl : ((L.filter fun x => !(x.r == y)).length : Int) ≤ (L.length : Int) := by have := List.length_filter_le (fun x : Ent => !(x.r == y)) L; omega
  have hL := hS.room
  have hwrap : IntKind.i64.wrap ((L.length : Int) - ((L.filter fun x => !(x.r == y)).length : Int)) = (L.length : Int) - ((L.filter fun x => !(x.r == y)).length : Int) := IntWalk.i64_in _ (by omega)
  have HWR := Lib.hid hwrap
  have HSM : Hid (mb < w.heap.size) := Lib.hid hS.lt.2.1
  have hM0 : MapAt (w.alloc (.map #[] 0)) 3 w.heap.size 0 (fun _ => none) := mapAt_made w _ rfl
  have HM0 := Lib.hid hM0
  clear hS hE hwy hc0 hy hfl hL hwrap hM0
  go_enter Try.func9, Try.ntmps9
  go_upto_region 2 with (fail)
  generalize hwa : World.alloc _ _ = wa
  have hBa : Below w.heap.size w wa := by rw [← hwa]; exact ((Below.refl _ _).alloc (Nat.le_refl _) _).alloc (by simp) _
  have hX : Box wa (w.heap.size + 1) 66 #[.map (some w.heap.size)] := by rw [← hwa]; exact box_at (by simp) _ _
  have hM : MapAt wa 3 w.heap.size 0 (fun _ => none) := by rw [← hwa]; exact HM0.out.alloc _
  have HI : Hid (Below w.heap.size w wa ∧ Box wa (w.heap.size + 1) 66 #[.map (some w.heap.size)] ∧ MapAt wa 3 w.heap.size 0 (fun _ => none)) := Lib.hid ⟨hBa, hX, hM⟩
  clear hwa hBa hX hM HM0
  go_wp2_with fail
  go_loopw [7, 12] (fun v7 v12 wr => ∃ k : Nat, k ≤ 1 ∧ v12 = .int .i64 k ∧ Hid (Below w.heap.size w wr ∧ Box wr (w.heap.size + 1) 66 #[.map (some w.heap.size)] ∧ MapAt wr 3 w.heap.size k (if k = 0 then (fun _ => none) else oneF y))) (fun _ i _ => 1 - (intOf i).toNat)
  case atStart => exact ⟨0, by omega, rfl, HI⟩
  case round =>
    obtain ⟨k, hk, rfl, HK⟩ := hrel
    clear HI
    by_cases hk0 : k = 0
    · have hc : wr.cell? ⟨b0, off, none⟩ = some (.int .i64 y) := by
        obtain ⟨b1, o1, y1, e1, h1, h2, _⟩ := (HE.out.below HK.out.1).at_ (i := 0) (by omega)
        cases e1
        have : y1 = y := by rw [← h2.out]; rfl
        rw [this] at h1
        exact h1
      have hx : wr.cell? ⟨w.heap.size + 1, 0, none⟩ = some (.map (some w.heap.size)) := HK.out.2.1.cell 0
      have hm := HK.out.2.2
      rw [if_pos hk0] at hm
      subst hk0
      obtain ⟨w2, hr2, hm2, hg2⟩ := hm.upd int_law12 Try.underlying66 (by unfold maxLen; omega) (keyOf_int_mk Try.underlying3 HW.out) (.agg #[]) (n' := 1) rfl
      have HN : Hid (Below w.heap.size w w2 ∧ Box w2 (w.heap.size + 1) 66 #[.map (some w.heap.size)] ∧ MapAt w2 3 w.heap.size 1 (oneF y)) :=
        Lib.hid ⟨HK.out.1.grown hg2 HK.out.1.size (fun j hj => by cases hj; exact Nat.le_refl _), HK.out.2.1.kept hg2 (fun e => by have := Option.some.inj e; omega), hm2⟩
      clear hm hm2 hg2
      go_wp2
      go_roundw
      case rel => exact ⟨1, by omega, rfl, HN⟩
      case measure => simp [intOf]
    · obtain rfl : k = 1 := by omega
      have hm := HK.out.2.2
      rw [if_neg (by omega)] at hm
      have hS := HS.out.bel HK.out.1
      have hx : wr.cell? ⟨w.heap.size + 1, 0, none⟩ = some (.map (some w.heap.size)) := HK.out.2.1.cell 0
      have hs1 : wr.cell? ⟨sb, 1, none⟩ = some (.map (some mb)) := hS.box.cell 1
      obtain ⟨F, hF, _⟩ := hS.map
      have hl := hF.len Try.underlying58
      have cD := del12 hS HW.out hm HK.out.2.1 (by have := HSM.out; omega)
      clear hS hF hm hk0
      go_wp2_with (refine cD.mono ?_)
      rintro e w3 ⟨rfl, hS3, hg3⟩
      have HS3 := Lib.hid hS3
      have HG3 : Hid (w.grownBy w3 (some mb)) := Lib.hid (World.grownBy.trans ⟨HK.out.1.os, HK.out.1.tape, HK.out.1.output, HK.out.1.size, fun i hi _ => HK.out.1.block i hi⟩ hg3)
      have hs3 : w3.cell? ⟨sb, 1, none⟩ = some (.map (some mb)) := hS3.box.cell 1
      obtain ⟨F3, hF3, _⟩ := hS3.map
      have hl3 := hF3.len Try.underlying58
      have hwrap := HWR.out
      clear hS3 hg3 hF3 hl hs1 hx cD
      go_wp2
      go_ret
      exact ⟨rfl, HS3.out, HG3.out⟩

end Go.Proofs.Ytolmejaedldeeaa
