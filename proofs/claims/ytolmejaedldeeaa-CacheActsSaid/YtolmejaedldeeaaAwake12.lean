/-
  The document's examples of a store hold.
-/
import Derived.Test.YtolmejaedldeeaaDrop12
import Derived.Test.YtolmejaedldeeaaActRow12
import Derived.Test.YtolmejaedldeeaaResRow
namespace Go.Proofs.Ytolmejaedldeeaa
open Go.RowKit Go.Maps
set_option linter.unusedVariables false

/-- a literal of one number, just laid -/
theorem lit8 {w : World} {c : Int} {b : Nat} (hb : b = w.heap.size) (hw : (Lit.int .i8 c).wf = true) : Rw.In .i8 (w.alloc (.cells #[.int .i8 c] 39)) ⟨some ⟨b, 0, none⟩, 1, 1, [c]⟩ :=
  rw_in (elems_litK [c] rfl hb (by simpa using hw) (by simp) rfl) (by omega)
theorem lit64 {w : World} {c : Int} {b : Nat} (hb : b = w.heap.size) (hw : w64 c) : Elems .i64 (w.alloc (.cells #[.int .i64 c] 3)) (some ⟨b, 0, none⟩) 1 [c] :=
  elems_litK [c] rfl hb (by intro x hx; rw [List.mem_singleton] at hx; subst hx; exact hw) (by simp) rfl
theorem spot_call (r l p : Int) (w : World) : Calls Try.prog 20 #[.int .i64 r, .int .i64 l, .int .i64 p] w fun e w' => e = .returned (spotV r l p) ∧ Below w.heap.size w w' := by
  unfold spotV
  go_enter Try.func20, Try.ntmps20
  go_wp2
  exact bodyPost_ret (v := .agg #[.int .i64 r, .int .i64 l, .int .i64 p]) (results_row rfl rfl (box_new w _ _) Try.underlying33 rfl (by kernel_rfl)) rfl ⟨rfl, (Below.refl _ _).alloc (Nat.le_refl _) _⟩

/-- rows stand where the store's map turns -/
theorem StoreAt.rw {w w' : World} {sb mb room : Nat} {L : List Ent} {q : Rw} {kd : IntKind} (h : StoreAt w sb mb room L) (hq : q.In kd w) (hg : w.grownBy w' (some mb)) : q.In kd w' :=
  let ⟨F, h1, _⟩ := h.map
  rw_map hq h1 hg
theorem StoreAt.bx {w w' : World} {sb mb room : Nat} {L : List Ent} {g : Nat} {T : TypeId} {cs : Array Value} (h : StoreAt w sb mb room L) (hq : Box w g T cs) (hg : w.grownBy w' (some mb)) : Box w' g T cs :=
  let ⟨F, h1, _⟩ := h.map
  hq.kept hg (fun e => h1.cells (by rw [← Option.some.inj e]; exact hq))
theorem rowsE_mk {w : World} {k v : Rw} {r l p : Int} (hk : k.In .i8 w) (hv : v.In .i8 w) (nk : k.n ≤ 65536) (nv : v.n ≤ 65536) : RowsE w ⟨r, l, p, k.v, v.v⟩ k v := ⟨hk, hv, rfl, rfl, nk, nv⟩

set_option maxHeartbeats 1600000 in
set_option maxRecDepth 100000 in
theorem awake12 (w : World) : Calls Try.prog 5 #[] w fun e w' => e = .returned (.bool true) ∧ Below w.heap.size w w' := by
  have cN := new12_yes 2 (by omega) w
  have w7 : w64 7 := w64_bd.2 (by omega)
  have w0 : w64 0 := w64_bd.2 (by omega)
  have w1 : w64 1 := w64_bd.2 (by omega)
  go_enter Try.func5, Try.ntmps5
  go_wp2_with (refine cN.mono ?_)
  rintro e wa ⟨sb, rfl, mb, hS, hsb, hmb, hb⟩
  have HB := Lib.hid hb
  have HS := Lib.hid hS
  have HM := Lib.hid hmb
  clear hS hb hsb hmb cN
  go_upto_region 5 with (fail)
  generalize hwx : World.alloc _ _ = wx
  have hB : Below wa.heap.size wa wx := by rw [← hwx]; exact (Below.refl _ _).alloc (Nat.le_refl _) _
  have hX : Rw.In .i8 wx ⟨some ⟨wa.heap.size, 0, none⟩, 1, 1, [1]⟩ := by rw [← hwx]; exact lit8 rfl (by decide)
  have HX0 := Lib.hid hX
  have HS0 := Lib.hid (HS.out.bel hB)
  have HB0 := Lib.hid (below_two HB.out hB)
  clear hwx hB hX HB HS
  go_wp2_with (refine (spot_call 7 0 1 _).mono ?_)
  (first | rintro e ws1 rfl hb | rintro e ws1 ⟨rfl, hb⟩)
  have HS1s := Lib.hid (HS0.out.bel hb)
  have HX1s := Lib.hid (HX0.out.below hb)
  have HB1s := Lib.hid (below_two HB0.out hb)
  clear hb
  have hpe : putE 2 [] ⟨7, 0, 1, [1], [1]⟩ = (120, []) := rfl
  have cP := put12 HS1s.out ⟨7, 0, 1, [1], [1]⟩ ⟨some ⟨wa.heap.size, 0, none⟩, 1, 1, [1]⟩ ⟨some ⟨wa.heap.size, 0, none⟩, 1, 1, [1]⟩ (rowsE_mk HX1s.out HX1s.out (by simp) (by simp)) ⟨w7, w0, w1⟩
  rw [hpe] at cP
  unfold spotV at cP
  clear hpe
  go_wp2_with (refine cP.mono ?_)
  (first | rintro e wp1 rfl hS hg | rintro e wp1 ⟨rfl, hS, hg⟩)
  have HS1 := Lib.hid hS
  have HX1 := Lib.hid (HS1s.out.rw HX1s.out hg)
  have HB1 : Hid (Below w.heap.size w wp1) := Lib.hid (HB1s.out.grown hg HB1s.out.size (fun j hj => by cases hj; exact HM.out))
  clear hS hg cP HS1s HX1s HB1s HS0 HX0 HB0
  go_wp2_with (refine (spot_call 7 0 0 _).mono ?_)
  (first | rintro e ws2 rfl hb | rintro e ws2 ⟨rfl, hb⟩)
  have HS2s := Lib.hid (HS1.out.bel hb)
  have HX2s := Lib.hid (HX1.out.below hb)
  have HB2s := Lib.hid (below_two HB1.out hb)
  clear hb
  have hpe : putE 2 [] ⟨7, 0, 0, [1], [1]⟩ = (0, [⟨7, 0, 0, [1], [1]⟩]) := rfl
  have cP := put12 HS2s.out ⟨7, 0, 0, [1], [1]⟩ ⟨some ⟨wa.heap.size, 0, none⟩, 1, 1, [1]⟩ ⟨some ⟨wa.heap.size, 0, none⟩, 1, 1, [1]⟩ (rowsE_mk HX2s.out HX2s.out (by simp) (by simp)) ⟨w7, w0, w0⟩
  rw [hpe] at cP
  unfold spotV at cP
  clear hpe
  go_wp2_with (refine cP.mono ?_)
  (first | rintro e wp2 rfl hS hg | rintro e wp2 ⟨rfl, hS, hg⟩)
  have HS2 := Lib.hid hS
  have HX2 := Lib.hid (HS2s.out.rw HX2s.out hg)
  have HB2 : Hid (Below w.heap.size w wp2) := Lib.hid (HB2s.out.grown hg HB2s.out.size (fun j hj => by cases hj; exact HM.out))
  clear hS hg cP HS2s HX2s HB2s HS1 HX1 HB1
  go_wp2_with (refine (spot_call 7 0 1 _).mono ?_)
  (first | rintro e ws3 rfl hb | rintro e ws3 ⟨rfl, hb⟩)
  have HS3s := Lib.hid (HS2.out.bel hb)
  have HX3s := Lib.hid (HX2.out.below hb)
  have HB3s := Lib.hid (below_two HB2.out hb)
  clear hb
  have hpe : putE 2 [⟨7, 0, 0, [1], [1]⟩] ⟨7, 0, 1, [1], [1]⟩ = (0, [⟨7, 0, 0, [1], [1]⟩, ⟨7, 0, 1, [1], [1]⟩]) := rfl
  have cP := put12 HS3s.out ⟨7, 0, 1, [1], [1]⟩ ⟨some ⟨wa.heap.size, 0, none⟩, 1, 1, [1]⟩ ⟨some ⟨wa.heap.size, 0, none⟩, 1, 1, [1]⟩ (rowsE_mk HX3s.out HX3s.out (by simp) (by simp)) ⟨w7, w0, w1⟩
  rw [hpe] at cP
  unfold spotV at cP
  clear hpe
  go_wp2_with (refine cP.mono ?_)
  (first | rintro e wp3 rfl hS hg | rintro e wp3 ⟨rfl, hS, hg⟩)
  have HS3 := Lib.hid hS
  have HX3 := Lib.hid (HS3s.out.rw HX3s.out hg)
  have HB3 : Hid (Below w.heap.size w wp3) := Lib.hid (HB3s.out.grown hg HB3s.out.size (fun j hj => by cases hj; exact HM.out))
  clear hS hg cP HS3s HX3s HB3s HS2 HX2 HB2
  go_wp2_with (refine (spot_call 7 1 0 _).mono ?_)
  (first | rintro e ws4 rfl hb | rintro e ws4 ⟨rfl, hb⟩)
  have HS4s := Lib.hid (HS3.out.bel hb)
  have HX4s := Lib.hid (HX3.out.below hb)
  have HB4s := Lib.hid (below_two HB3.out hb)
  clear hb
  have hpe : putE 2 [⟨7, 0, 0, [1], [1]⟩, ⟨7, 0, 1, [1], [1]⟩] ⟨7, 1, 0, [1], [1]⟩ = (80, [⟨7, 0, 0, [1], [1]⟩, ⟨7, 0, 1, [1], [1]⟩]) := rfl
  have cP := put12 HS4s.out ⟨7, 1, 0, [1], [1]⟩ ⟨some ⟨wa.heap.size, 0, none⟩, 1, 1, [1]⟩ ⟨some ⟨wa.heap.size, 0, none⟩, 1, 1, [1]⟩ (rowsE_mk HX4s.out HX4s.out (by simp) (by simp)) ⟨w7, w1, w0⟩
  rw [hpe] at cP
  unfold spotV at cP
  clear hpe
  go_wp2_with (refine cP.mono ?_)
  (first | rintro e wp4 rfl hS hg | rintro e wp4 ⟨rfl, hS, hg⟩)
  have HS4 := Lib.hid hS
  have HX4 := Lib.hid (HS4s.out.rw HX4s.out hg)
  have HB4 : Hid (Below w.heap.size w wp4) := Lib.hid (HB4s.out.grown hg HB4s.out.size (fun j hj => by cases hj; exact HM.out))
  clear hS hg cP HS4s HX4s HB4s HS3 HX3 HB3
  go_wp2_with (refine (spot_call 7 0 0 _).mono ?_)
  (first | rintro e ws5 rfl hb | rintro e ws5 ⟨rfl, hb⟩)
  have HS5s := Lib.hid (HS4.out.bel hb)
  have HX5s := Lib.hid (HX4.out.below hb)
  have HB5s := Lib.hid (below_two HB4.out hb)
  clear hb
  have hpe : putE 2 [⟨7, 0, 0, [1], [1]⟩, ⟨7, 0, 1, [1], [1]⟩] ⟨7, 0, 0, [1], [1]⟩ = (0, [⟨7, 0, 0, [1], [1]⟩, ⟨7, 0, 1, [1], [1]⟩]) := rfl
  have cP := put12 HS5s.out ⟨7, 0, 0, [1], [1]⟩ ⟨some ⟨wa.heap.size, 0, none⟩, 1, 1, [1]⟩ ⟨some ⟨wa.heap.size, 0, none⟩, 1, 1, [1]⟩ (rowsE_mk HX5s.out HX5s.out (by simp) (by simp)) ⟨w7, w0, w0⟩
  rw [hpe] at cP
  unfold spotV at cP
  clear hpe
  go_wp2_with (refine cP.mono ?_)
  (first | rintro e wp5 rfl hS hg | rintro e wp5 ⟨rfl, hS, hg⟩)
  have HS5 := Lib.hid hS
  have HX5 := Lib.hid (HS5s.out.rw HX5s.out hg)
  have HB5 : Hid (Below w.heap.size w wp5) := Lib.hid (HB5s.out.grown hg HB5s.out.size (fun j hj => by cases hj; exact HM.out))
  clear hS hg cP HS5s HX5s HB5s HS4 HX4 HB4
  go_wp2_with (refine (spot_call 7 0 0 _).mono ?_)
  (first | rintro e ws6 rfl hb | rintro e ws6 ⟨rfl, hb⟩)
  have HS6s := Lib.hid (HS5.out.bel hb)
  have HX6s := Lib.hid (HX5.out.below hb)
  have HB6s := Lib.hid (below_two HB5.out hb)
  clear hb
  have hpe : putE 2 [⟨7, 0, 0, [1], [1]⟩, ⟨7, 0, 1, [1], [1]⟩] ⟨7, 0, 0, [1], [2]⟩ = (2, [⟨7, 0, 0, [1], [1]⟩, ⟨7, 0, 1, [1], [1]⟩]) := rfl
  have hlB : ∀ o, Below ws6.heap.size ws6 (ws6.alloc o) := fun o => (Below.refl _ _).alloc (Nat.le_refl _) _
  have cP := put12 (HS6s.out.bel (hlB (.cells #[.int .i8 2] 39))) ⟨7, 0, 0, [1], [2]⟩ ⟨some ⟨wa.heap.size, 0, none⟩, 1, 1, [1]⟩ ⟨some ⟨ws6.heap.size, 0, none⟩, 1, 1, [2]⟩ (rowsE_mk (HX6s.out.below (hlB _)) (lit8 rfl (by decide)) (by simp) (by simp)) ⟨w7, w0, w0⟩
  have hlg : ws6.grownBy (ws6.alloc (.cells #[.int .i8 2] 39)) (some mb) := World.grownBy_alloc _ _ _
  have HLG := Lib.hid hlg
  have HLB := Lib.hid hlB
  clear hlg hlB
  rw [hpe] at cP
  unfold spotV at cP
  clear hpe
  go_wp2_with (refine cP.mono ?_)
  (first | rintro e wp6 rfl hS hg | rintro e wp6 ⟨rfl, hS, hg⟩)
  have HS6 := Lib.hid hS
  have HX6 := Lib.hid ((HS6s.out.bel (HLB.out _)).rw (HX6s.out.below (HLB.out _)) hg)
  have HB6 : Hid (Below w.heap.size w wp6) := Lib.hid ((HB6s.out.grown HLG.out HB6s.out.size (fun j hj => by cases hj; exact HM.out)).grown hg (by have := HB6s.out.size; have := HLG.out.size; omega) (fun j hj => by cases hj; exact HM.out))
  clear hS hg cP HS6s HX6s HB6s HS5 HX5 HB5
  have hE : Elems .i64 (wp6.alloc (.cells #[.int .i64 7] 3)) (some ⟨wp6.heap.size, 0, none⟩) 1 [7] := lit64 rfl w7
  have cD := drop12 (HS6.out.bel ((Below.refl _ _).alloc (Nat.le_refl _) (.cells #[.int .i64 7] 3))) (c := 1) hE
  have hcd : ((([⟨7, 0, 0, [1], [1]⟩, ⟨7, 0, 1, [1], [1]⟩] : List Ent).length : Int) - ((([⟨7, 0, 0, [1], [1]⟩, ⟨7, 0, 1, [1], [1]⟩] : List Ent).filter fun x => !(x.r == 7)).length : Int)) = 2 := rfl
  rw [hcd] at cD
  clear hE hcd
  go_wp2_with (refine cD.mono ?_)
  (first | rintro e wq rfl hS hg | rintro e wq ⟨rfl, hS, hg⟩)
  have hlg : wp6.grownBy (wp6.alloc (.cells #[.int .i64 7] 3)) (some mb) := World.grownBy_alloc _ _ _
  have HBq : Hid (Below w.heap.size w wq) := Lib.hid ((HB6.out.grown hlg HB6.out.size (fun j hj => by cases hj; exact HM.out)).grown hg (by have := HB6.out.size; have := hlg.size; omega) (fun j hj => by cases hj; exact HM.out))
  clear hS hg hlg cD
  go_wp2
  go_ret
  exact ⟨rfl, HBq.out⟩

end Go.Proofs.Ytolmejaedldeeaa
