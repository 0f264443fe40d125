/-
  Proved: for any sides and any row of acts LinkActs returns true (each answer of a link and all that it tells is the document's) and nothing that was in memory turns. No condition.
-/
import Derived.Test.YtkinbngikmcpeaaRows
import Derived.WalkKit
import Derived.ProofKit
import Derived.OpenShut
import Derived.ShutString
import Derived.ChangeOld
import Derived.Below
import Derived.Test.YtkinbngikmcpeaaLinkRow16
import Derived.Test.YtkinbngikmcpeaaLinkRow16
import Derived.Test.YtkinbngikmcpeaaActs16
import Derived.Test.YtkinbngikmcpeaaAwake16
import Derived.Test.YtkinbngikmcpeaaLoadPart
import Derived.Deep.CutRange
import Derived.Deep.CutBlock
namespace Go.Proofs.Ytkinbngikmcpeaa.linkActs
open Go.ChangeShapes Go.WideShapes Go.ChangeAt Go.RowKit
open Go.ChangeMaps (open_string shut_string)
set_option linter.unusedVariables false

theorem own : ownKnob Try.prog.godebug = none := by kernel_rfl
theorem laidOut : laidOutB Try.prog = true := by kernel_rfl

set_option maxHeartbeats 6400000 in
set_option maxRecDepth 100000 in
theorem walk (x0 : Sides16) (x1 : RowOf Act16) (w : World) (h0 : Sides16.In w x0) (h1 : x1.In Act16.cells (fun w x => Act16.In w x) 7 w) :
    Calls Try.prog 3 #[.agg #[.int .i64 x0.win, .int .i64 x0.span, .int .i64 x0.room], .slice x1.a x1.n x1.cap] w fun e w' => e = .returned (.bool true) ∧ Below w.heap.size w w' := by
  obtain ⟨win, span, room⟩ := x0
  simp only
  have H1 := Lib.hid h1
  clear h0 h1
  obtain ⟨aa, n, cap, ts⟩ := x1
  simp only at H1 ⊢
  by_cases h100 : 100 < n
  · have h1 : (100 : Int) < (n : Int) := by omega
    go_enter Try.func3, Try.ntmps3
    go_wp2_with fail
    refine (awake16 _).mono ?_
    rintro e w2 ⟨rfl, hb1⟩
    have HB1 := Lib.hid (((Below.refl _ w).alloc (Nat.le_refl _) (.cells #[.int .i64 win, .int .i64 span, .int .i64 room] 23)).trans (hb1.mono (by simp)))
    go_wp2_with fail
    refine (awake16 _).mono ?_
    rintro e w3 ⟨rfl, hb2⟩
    have HB := Lib.hid (below_two HB1.out hb2)
    clear hb1 hb2
    go_wp2_with fail
    go_ret
    exact ⟨rfl, HB.out⟩
  · have h1 : decide ((100 : Int) < (n : Int)) = false := decide_eq_false (by omega)
    by_cases hpm : PmOk win span room
    rotate_left
    · go_enter Try.func3, Try.ntmps3
      go_wp2_with fail
      refine (awake16 _).mono ?_
      rintro e w2 ⟨rfl, hb1⟩
      have X2 : Box w2 w.heap.size 23 #[.int .i64 win, .int .i64 span, .int .i64 room] := (box_new w _ _).bel hb1
      have x0 : w2.cell? ⟨w.heap.size, 0, none⟩ = some (.int .i64 win) := X2.cell 0
      have x1 : w2.cell? ⟨w.heap.size, 1, none⟩ = some (.int .i64 span) := X2.cell 1
      have x2 : w2.cell? ⟨w.heap.size, 2, none⟩ = some (.int .i64 room) := X2.cell 2
      have HB2 := Lib.hid (((Below.refl _ w).alloc (Nat.le_refl _) (.cells #[.int .i64 win, .int .i64 span, .int .i64 room] 23)).trans (hb1.mono (by simp)))
      have N1 := new16_no win span room hpm w2
      have R1 := fun w => dright16 win span room w
      simp only [decide_eq_false (show ¬ ((1 ≤ win ∧ win ≤ 64) ∧ (1 ≤ span ∧ span ≤ 1000) ∧ (1 ≤ room ∧ room ≤ 4096)) from hpm)] at R1
      have HX2 := Lib.hid X2
      clear X2 hb1 hpm
      go_wp2_with fail
      refine N1.mono ?_
      rintro e w3 ⟨rfl, hb3⟩
      have HB3 := Lib.hid (below_two HB2.out hb3)
      have X3 := HX2.out.bel hb3
      have y0 : w3.cell? ⟨w.heap.size, 0, none⟩ = some (.int .i64 win) := X3.cell 0
      have y1 : w3.cell? ⟨w.heap.size, 1, none⟩ = some (.int .i64 span) := X3.cell 1
      have y2 : w3.cell? ⟨w.heap.size, 2, none⟩ = some (.int .i64 room) := X3.cell 2
      clear N1 X3 hb3 x0 x1 x2
      go_wp2_with fail
      refine (R1 _).mono ?_
      rintro e w4 ⟨rfl, rfl⟩
      go_wp2_with fail
      go_ret
      exact ⟨rfl, HB3.out⟩
    · obtain ⟨W, rfl⟩ : ∃ W : Nat, win = W := ⟨win.toNat, by unfold PmOk at hpm; omega⟩
      obtain ⟨Sp, rfl⟩ : ∃ Sp : Nat, span = Sp := ⟨span.toNat, by unfold PmOk at hpm; omega⟩
      obtain ⟨R, rfl⟩ : ∃ R : Nat, room = R := ⟨room.toNat, by unfold PmOk at hpm; omega⟩
      have HPM : Hid ((1 ≤ W ∧ W ≤ 64) ∧ (1 ≤ Sp ∧ Sp ≤ 1000) ∧ (1 ≤ R ∧ R ≤ 4096)) := Lib.hid (by unfold PmOk at hpm; omega)
      have HN : Hid (n ≤ 100) := Lib.hid (by omega)
      go_enter Try.func3, Try.ntmps3
      go_wp2_with fail
      refine (awake16 _).mono ?_
      rintro e w2 ⟨rfl, hb1⟩
      have X2 : Box w2 w.heap.size 23 #[.int .i64 W, .int .i64 Sp, .int .i64 R] := (box_new w _ _).bel hb1
      have x0 : w2.cell? ⟨w.heap.size, 0, none⟩ = some (.int .i64 W) := X2.cell 0
      have x1 : w2.cell? ⟨w.heap.size, 1, none⟩ = some (.int .i64 Sp) := X2.cell 1
      have x2 : w2.cell? ⟨w.heap.size, 2, none⟩ = some (.int .i64 R) := X2.cell 2
      have HB2 := Lib.hid (((Below.refl _ w).alloc (Nat.le_refl _) (.cells #[.int .i64 W, .int .i64 Sp, .int .i64 R] 23)).trans (hb1.mono (by simp)))
      have N1 := new16_yes W Sp R HPM.out w2
      have R1 := fun w => dright16 W Sp R w
      simp only [decide_eq_true (show ((1 ≤ (W : Int) ∧ (W : Int) ≤ 64) ∧ (1 ≤ (Sp : Int) ∧ (Sp : Int) ≤ 1000) ∧ (1 ≤ (R : Int) ∧ (R : Int) ≤ 4096)) from hpm)] at R1
      have HX2 := Lib.hid X2
      clear X2 hb1 hpm h100
      go_wp2_with fail
      refine N1.mono ?_
      rintro e w3 ⟨f, rfl, hL, hf, hb3⟩
      obtain ⟨lb, hlb⟩ : ∃ lb, f.lb = lb := ⟨_, rfl⟩
      rw [hlb]
      have X3 := HX2.out.bel hb3
      have y0 : w3.cell? ⟨w.heap.size, 0, none⟩ = some (.int .i64 W) := X3.cell 0
      have y1 : w3.cell? ⟨w.heap.size, 1, none⟩ = some (.int .i64 Sp) := X3.cell 1
      have y2 : w3.cell? ⟨w.heap.size, 2, none⟩ = some (.int .i64 R) := X3.cell 2
      have HI3 : Hid (ActsI w lb w3.heap.size W Sp R 0 (w3.alloc (.cells #[.int .i64 W, .int .i64 Sp, .int .i64 R, .int .i64 0, .int .i64 0, .int .i64 0, .int .i64 0, .int .i64 0, .slice none 0 0, .slice none 0 0, .bool false] 35))) := Lib.hid ⟨new16 0, ⟨f, hL.bel ((Below.refl _ _).alloc (Nat.le_refl _) _), hlb, fun b hb' => Nat.le_trans HB2.out.size (hf b hb'), dlk_new HPM.out (box_new _ _ _), (below_two HB2.out hb3).alloc (Nat.le_trans HB2.out.size hb3.size) _, Nat.le_trans HB2.out.size hb3.size⟩, by unfold Bd16; simp [new16], X3.bel ((Below.refl _ _).alloc (Nat.le_refl _) _)⟩
      obtain ⟨db, hdb⟩ : ∃ db, w3.heap.size = db := ⟨_, rfl⟩
      clear N1 X3 hb3 x0 x1 x2 hL hf hlb
      go_wp2_with fail
      refine (R1 _).mono ?_
      rintro e w4 ⟨rfl, rfl⟩
      clear R1
      rw [hdb] at HI3
      go_wp2_with fail
      try rw [hdb]
      generalize World.alloc _ _ = w5 at HI3 ⊢
      clear hdb y0 y1 y2
      go_loopw [8] (fun i wr => ∃ k : Nat, k ≤ n ∧ i = .int .i64 k ∧ Hid (ActsI w lb db W Sp R k wr)) (fun i _ => n - (intOf i).toNat)
      case atStart => exact ⟨0, by omega, rfl, HI3⟩
      case round =>
        obtain ⟨k, hk, rfl, HJ⟩ := hrel
        clear HI3
        by_cases hlt : k < n
        · have hlt2 : (k : Int) < (n : Int) := by omega
          have hk1 : IntKind.i64.wrap ((k : Int) + 1) = ((k + 1 : Nat) : Int) := by rw [IntWalk.i64_in _ (by have := HN.out; omega)]; rfl
          obtain ⟨ab, ao, x, ha, hxg, -, hx, hc⟩ := H1.out.at_ hlt
          have HXW := Lib.hid hx
          have hB := HJ.out.below
          have HC : Hid (∀ j, j < 7 → wr.cell? ⟨ab, ao + k * 7 + j, none⟩ = (#[.int .i64 x.kind, .int .i64 x.n, .slice x.bodies.a x.bodies.n x.bodies.cap, .int .i64 x.s.e, .int .i64 x.s.s, .int .i64 x.s.k, .slice x.s.q.a x.s.q.n x.s.q.cap] : Array Value)[j]?) := Lib.hid (fun j hj => by
            have h := hc j hj
            rw [World.cell?_of_block (w := w) (a := ⟨ab, ao + k * 7 + j, none⟩) (hB.block ab (World.block_lt_of_cell? _ _ (hc 0 (by omega))))]
            rw [h]
            match j, hj with
            | 0, _ => rfl
            | 1, _ => rfl
            | 2, _ => rfl
            | 3, _ => rfl
            | 4, _ => rfl
            | 5, _ => rfl
            | 6, _ => rfl)
          simp only at ha
          subst ha
          obtain ⟨g9, hg9⟩ : ∃ g9, wr.heap.size = g9 := ⟨_, rfl⟩
          have X9 : Box (wr.alloc (.cells #[.int .i64 x.kind, .int .i64 x.n, .slice x.bodies.a x.bodies.n x.bodies.cap, .int .i64 x.s.e, .int .i64 x.s.s, .int .i64 x.s.k, .slice x.s.q.a x.s.q.n x.s.q.cap] 41)) wr.heap.size 41 #[.int .i64 x.kind, .int .i64 x.n, .slice x.bodies.a x.bodies.n x.bodies.cap, .int .i64 x.s.e, .int .i64 x.s.s, .int .i64 x.s.k, .slice x.s.q.a x.s.q.n x.s.q.cap] := box_new _ _ _
          have S1 := small16 x (wr.alloc (.cells #[.int .i64 x.kind, .int .i64 x.n, .slice x.bodies.a x.bodies.n x.bodies.cap, .int .i64 x.s.e, .int .i64 x.s.s, .int .i64 x.s.k, .slice x.s.q.a x.s.q.n x.s.q.cap] 41)) (hx.below (hB.alloc hB.size _))
          have HB9 : Hid (Below wr.heap.size wr (wr.alloc (.cells #[.int .i64 x.kind, .int .i64 x.n, .slice x.bodies.a x.bodies.n x.bodies.cap, .int .i64 x.s.e, .int .i64 x.s.s, .int .i64 x.s.k, .slice x.s.q.a x.s.q.n x.s.q.cap] 41))) := Lib.hid ((Below.refl _ _).alloc (Nat.le_refl _) _)
          clear hc hB hx hxg
          go_upto_region 13 with (first
            | (refine wpList_load_part rfl 41 _ rfl ab (ao + k * 7) rfl #[.int .i64 x.kind, .int .i64 x.n, .slice x.bodies.a x.bodies.n x.bodies.cap, .int .i64 x.s.e, .int .i64 x.s.s, .int .i64 x.s.k, .slice x.s.q.a x.s.q.n x.s.q.cap] _ HC.out Try.underlying41 rfl (by kernel_rfl) ?_))
          go_wp2_with (refine wpList_load_row rfl 41 _ rfl wr.heap.size rfl 41 _ (0, 0) _ X9 Try.underlying41 rfl (by kernel_rfl) ?_)
          refine S1.mono ?_
          rintro e w6 ⟨⟨b, rfl, hsm⟩, hb6⟩
          try rw [hg9]
          have hbt : Below wr.heap.size wr w6 := below_two HB9.out hb6
          obtain ⟨st, hH0, hBd, hS0⟩ := HJ.out
          have H6 := Lib.hid (hH0.bel hbt)
          have X6 : Box w6 g9 41 #[.int .i64 x.kind, .int .i64 x.n, .slice x.bodies.a x.bodies.n x.bodies.cap, .int .i64 x.s.e, .int .i64 x.s.s, .int .i64 x.s.k, .slice x.s.q.a x.s.q.n x.s.q.cap] := by rw [← hg9]; exact X9.bel hb6
          have S6 := Lib.hid (hS0.bel hbt)
          have HBW := Lib.hid (hH0.bel hbt).below
          have HBD := Lib.hid hBd
          have HSM := Lib.hid hsm
          clear S1 X9 HB9 hbt hH0 hBd hS0 hb6 hg9 hsm HC HJ
          cases b with
          | false =>
            clear X6
            go_wp2_with fail
            go_ret
            exact ⟨rfl, HBW.out⟩
          | true =>
            have HSA : Hid (SmallA x) := Lib.hid (HSM.out rfl)
            have z0 : w6.cell? ⟨g9, 0, none⟩ = some (.int .i64 x.kind) := X6.cell 0
            have HX6 := Lib.hid X6
            obtain ⟨kd, hkd⟩ : ∃ kd, x.kind = kd := ⟨_, rfl⟩
            rw [hkd] at z0
            clear X6 HSM
            have HKD := Lib.hid hkd
            clear hkd
            go_upto_block 2 with fail
            go_cut [10, 11, 12, 13] from 60 to 162 (fun a10 a11 a12 a13 wx => Hid (ActsI w lb db W Sp R (k + 1) wx))
            case first =>
              have HKN : Hid (k ≤ 100) := Lib.hid (by have := HN.out; omega)
              have HBG : Hid (st.acked + st.out.length ≤ 20000 ∧ st.got ≤ 20000) := Lib.hid (HBD.out.big (by have := HKN.out; omega))
              clear hlt hlt2 hk hk1
              by_cases k0 : kd = 0
              · skip
                as_aux_lemma =>
                  subst k0
                  have z2 : w6.cell? ⟨g9, 2, none⟩ = some (.slice x.bodies.a x.bodies.n x.bodies.cap) := HX6.out.cell 2
                  have hbd : Below w6.heap.size w6 w6.drew := (Below.refl _ _).drew
                  have HRW : Hid (Rws .u8 w x.bodies.a x.bodies.n x.bodies.xs) := Lib.hid (Act16.rws HXW.out)
                  have SD := (H6.out.bel hbd).send x.bodies.a x.bodies.n x.bodies.cap x.bodies.xs (rws_bel HRW.out (H6.out.bel hbd).below) (by have := HSA.out.1; omega) (rws_lt HRW.out)
                  clear hbd
                  go_upto_region 17 with fail
                  refine wp_region_held_drew (S := (fun W_ => W_.cell? ⟨g9, 2, none⟩ = some (.slice x.bodies.a x.bodies.n x.bodies.cap))) (by kernel_rfl) ?_ (fun hHeld => ?_)
                  · (first | go_keep | assumption)
                  refine wpAnyH_take (i := 0) (oi := ⟨some 77, _, _, _, _, _⟩) (v := ?_) rfl (by kernel_rfl) (by kernel_rfl) (by kernel_rfl) (fun _ _ _ h => h) (Or.inl ⟨by rfl, ?hy1⟩) hHeld ?rest1
                  case hy1 => (intro W hSw; (try dsimp only at hSw); go_simp; (try with_reducible rfl))
                  simp only [Act.put, List.setIfInBounds_toArray, List.set_cons_zero, List.set_cons_succ]
                  refine wpAnyH_take (i := 1) (oi := ⟨some 78, _, _, _, _, _⟩) (v := ?_) rfl (by kernel_rfl) (by kernel_rfl) (by kernel_rfl) (fun _ _ _ h => h) (Or.inl ⟨by rfl, ?hy2⟩) hHeld ?rest2
                  case hy2 => (intro W hSw; (try dsimp only at hSw); go_simp; (try with_reducible rfl))
                  simp only [Act.put, List.setIfInBounds_toArray, List.set_cons_zero, List.set_cons_succ]
                  refine wpAnyH_take (i := 2) (oi := ⟨some 79, _, _, _, _, _⟩) (v := ?_) rfl (by kernel_rfl) (by kernel_rfl) (by kernel_rfl) (fun _ _ _ h => h) (Or.inl ⟨by rfl, ?hy3⟩) hHeld ?rest3
                  case hy3 => (intro W hSw; (try dsimp only at hSw); go_simp; (try with_reducible rfl))
                  simp only [Act.put, List.setIfInBounds_toArray, List.set_cons_zero, List.set_cons_succ]
                  refine wpAnyH_take (i := 4) (oi := ⟨some 81, _, _, _, _, _⟩) (v := ?_) rfl (by kernel_rfl) (by kernel_rfl) (by kernel_rfl) (fun _ _ _ h => h) (Or.inl ⟨by rfl, ?hy4⟩) hHeld ?rest4
                  case hy4 => (intro W hSw; (try dsimp only at hSw); go_simp; (try with_reducible rfl))
                  simp only [Act.put, List.setIfInBounds_toArray, List.set_cons_zero, List.set_cons_succ]
                  refine wpAnyH_take (i := 5) (oi := ⟨some 82, _, _, _, _, _⟩) (v := ?_) rfl (by kernel_rfl) (by kernel_rfl) (by kernel_rfl) (fun _ _ _ h => h) (Or.inl ⟨by rfl, ?hy5⟩) hHeld ?rest5
                  case hy5 => (intro W hSw; (try dsimp only at hSw); go_simp; (try with_reducible rfl))
                  simp only [Act.put, List.setIfInBounds_toArray, List.set_cons_zero, List.set_cons_succ]
                  refine wpAnyH_take (i := 6) (oi := ⟨some 83, _, _, _, _, _⟩) (v := ?_) rfl (by kernel_rfl) (by kernel_rfl) (by kernel_rfl) (fun _ _ _ h => h) (Or.inl ⟨by rfl, ?hy6⟩) hHeld ?rest6
                  case hy6 => (intro W hSw; (try dsimp only at hSw); go_simp; (try with_reducible rfl))
                  simp only [Act.put, List.setIfInBounds_toArray, List.set_cons_zero, List.set_cons_succ]
                  refine wpAnyH_ready (rs := [3]) (by kernel_rfl) (by simp) ?_
                  refine AllReadyH.cons (o := ⟨some 80, _, _, _, _, _⟩) rfl (fun K hK => ?_) AllReadyH.nil
                  go_simp
                  go_at_call 11
                  refine SD.mono ?_
                  rintro e w7 ⟨rfl, hH7, hK7⟩
                  have hX7 := hK7.box _ _ _ HX6.out.drew (by decide) (by decide)
                  have z7 : w7.cell? ⟨g9, 2, none⟩ = some (.slice x.bodies.a x.bodies.n x.bodies.cap) := hX7.cell 2
                  have SD2 := hH7.dsend x.bodies.a x.bodies.n x.bodies.cap x.bodies.xs (rws_bel HRW.out hH7.below) (by have := HSA.out.1; omega) (rws_lt HRW.out) (by have := HSA.out.1; have := HBG.out; omega)
                  have HS7 := Lib.hid (hK7.box _ _ _ S6.out.drew (by decide) (by decide))
                  have HX7 := Lib.hid hX7
                  clear hX7 hH7 hK7 SD
                  refine hK.out _ _ ?_ (fun hNew => ?_)
                  · ((try dsimp only); (first | go_keep | assumption))
                  clear hK K hHeld
                  have hHeld := hNew
                  clear hNew
                  try simp only [Act.put, List.setIfInBounds_toArray, List.set_cons_zero, List.set_cons_succ]
                  refine wpAnyH_ready (rs := [7]) (by kernel_rfl) (by simp) ?_
                  refine AllReadyH.cons (o := ⟨some 84, _, _, _, _, _⟩) rfl (fun K hK => ?_) AllReadyH.nil
                  go_simp
                  go_at_call 12
                  refine SD2.mono ?_
                  rintro e w8 ⟨rfl, hH8, hM8⟩
                  have z8 : w8.cell? ⟨g9, 2, none⟩ = some (.slice x.bodies.a x.bodies.n x.bodies.cap) := (hM8.box _ _ _ HX7.out (by decide) (by decide) (by decide)).cell 2
                  have HFIN : Hid (ActsI w lb db W Sp R (k + 1) w8) := Lib.hid ⟨_, hH8, HBD.out.send (by rw [List.length_map, HRW.out.1]; have := HSA.out.1; omega), hM8.box _ _ _ HS7.out (by decide) (by decide) (by decide)⟩
                  clear hH8 hM8 SD2
                  refine hK.out _ _ ?_ (fun hNew => ?_)
                  · ((try dsimp only); (first | go_keep | assumption))
                  clear hK K hHeld
                  have hHeld := hNew
                  clear hNew
                  try simp only [Act.put, List.setIfInBounds_toArray, List.set_cons_zero, List.set_cons_succ]
                  refine wpAnyH_take (i := 8) (oi := ⟨some 85, _, _, _, _, _⟩) (v := ?_) rfl (by kernel_rfl) (by kernel_rfl) (by kernel_rfl) (fun _ _ _ h => h) (Or.inl ⟨by rfl, ?hy9⟩) hHeld ?rest9
                  case hy9 => (intro W hSw; (try dsimp only at hSw); go_simp; (try with_reducible rfl))
                  simp only [Act.put, List.setIfInBounds_toArray, List.set_cons_zero, List.set_cons_succ]
                  refine wpAnyH_done (by kernel_rfl) ?_ _
                  go_wp2_with fail
                  go_meet
                  case rel => exact HFIN
              by_cases k1 : kd = 1
              · skip
                as_aux_lemma =>
                  subst k1
                  have T1 := H6.out.tick (by have := HBG.out; omega)
                  go_wp2_with fail
                  refine T1.mono ?_
                  rintro e w7 ⟨v1, xs1, rfl, hS1, hx1, hH7, hK7⟩
                  have T2 := hH7.dtick (by have := HBG.out; omega)
                  have HS7 := Lib.hid (hK7.box _ _ _ S6.out (by decide) (by decide))
                  clear T1 hK7
                  go_wp2_with fail
                  refine T2.mono ?_
                  rintro e w8 ⟨v2, xs2, rfl, hS2, hx2, hH8, hM8⟩
                  have SG := segs16 w8 _ _ v1 v2 xs1 xs2 (hS1.movedD hM8) hS2 (hx1.trans hx2.symm) (by
                    have h1 := congrArg List.length hx1
                    rw [List.length_map] at h1
                    have h2 := tickE_len H6.out.good
                    omega)
                  have HF8 : Hid (∀ w9, Below w8.heap.size w8 w9 → ActsI w lb db W Sp R (k + 1) w9) := Lib.hid (fun w9 hb => ⟨_, hH8.bel hb, HBD.out.tick, (hM8.box _ _ _ HS7.out (by decide) (by decide) (by decide)).bel hb⟩)
                  clear T2 hS1 hx1 hH7 hS2 hx2 hH8 hM8
                  go_wp2_with fail
                  refine SG.mono ?_
                  rintro e w9 ⟨rfl, hb9⟩
                  have HFIN := Lib.hid (HF8.out w9 hb9)
                  clear SG hb9
                  go_wp2_with fail
                  go_meet
                  case rel => exact HFIN
              by_cases k2 : kd = 2
              · skip
                as_aux_lemma =>
                  subst k2
                  have hq : x.s.q.In .u8 w6 := (HXW.out.2.2.2.2.2.2).below HBW.out
                  have hqn : x.s.q.n ≤ 65536 := by have := HSA.out.2.1; omega
                  have R1 := H6.out.hear x.s.e x.s.s x.s.k x.s.q hq hqn (by have := HBG.out; omega) (by have := HBG.out; omega)
                  have HCS : Hid (∀ W', Box W' g9 41 #[.int .i64 x.kind, .int .i64 x.n, .slice x.bodies.a x.bodies.n x.bodies.cap, .int .i64 x.s.e, .int .i64 x.s.s, .int .i64 x.s.k, .slice x.s.q.a x.s.q.n x.s.q.cap] → ∀ j, j < 4 → W'.cell? ⟨g9, 3 + j, none⟩ = (#[.int .i64 x.s.e, .int .i64 x.s.s, .int .i64 x.s.k, .slice x.s.q.a x.s.q.n x.s.q.cap] : Array Value)[j]?) := Lib.hid (fun W' hW j hj => by
                    match j, hj with
                    | 0, _ => exact hW.cell 3
                    | 1, _ => exact hW.cell 4
                    | 2, _ => exact hW.cell 5
                    | 3, _ => exact hW.cell 6)
                  go_wp2_with (refine wpList_load_part rfl 39 _ rfl g9 3 rfl #[.int .i64 x.s.e, .int .i64 x.s.s, .int .i64 x.s.k, .slice x.s.q.a x.s.q.n x.s.q.cap] _ (HCS.out w6 HX6.out) Try.underlying39 rfl (by kernel_rfl) ?_)
                  refine R1.mono ?_
                  rintro e w7 ⟨v1, n1, qs1, rfl, hL1, hv1, hH7, hK7⟩
                  have R2 := hH7.dhear x.s.e x.s.s x.s.k x.s.q (hK7.rows _ hq) hqn (by have := HBG.out; omega) (by have := HBG.out; omega)
                  have HS7 := Lib.hid (hK7.box _ _ _ S6.out (by decide) (by decide))
                  have HX7 := Lib.hid (hK7.box _ _ _ HX6.out (by decide) (by decide))
                  obtain ⟨er, her⟩ : ∃ er, (hearE W st ⟨x.s.e, x.s.s, x.s.k, x.s.q.v⟩).1.2 = er := ⟨_, rfl⟩
                  rw [her]
                  obtain ⟨a1, c1, rfl, hc1, hc1', -⟩ := hL1.shape
                  clear R1 hK7 hq
                  go_wp2_with (refine wpList_load_part rfl 39 _ rfl g9 3 rfl #[.int .i64 x.s.e, .int .i64 x.s.s, .int .i64 x.s.k, .slice x.s.q.a x.s.q.n x.s.q.cap] _ (HCS.out w7 HX7.out) Try.underlying39 rfl (by kernel_rfl) ?_)
                  refine R2.mono ?_
                  rintro e w8 ⟨v2, n2, qs2, rfl, hL2, hv2, hH8, hM8⟩
                  rw [her]
                  have hL18 := listR_kept hL1 (fun g e => by
                    obtain ⟨cs, hb, _⟩ := hL1.all g e
                    exact (hM8.box g _ cs hb (by decide) (by decide) (by decide)).trans hb.symm) hM8.rows
                  obtain ⟨a1', c1', hv1e, hR1⟩ := hL18.rws (by omega)
                  simp only [Value.slice.injEq] at hv1e
                  obtain ⟨rfl, -, -⟩ := hv1e
                  obtain ⟨a2, c2, hv2e, hc2, hc2', -⟩ := hL2.shape
                  obtain ⟨a2', c2', hv2e', hR2⟩ := hL2.rws (by omega)
                  subst hv2e
                  simp only [Value.slice.injEq] at hv2e'
                  obtain ⟨rfl, -, -⟩ := hv2e'
                  have BD := bodies16 w8 a1 a2 n1 n2 c1 c2 qs1 qs2 hR1 hR2
                  rw [decide_eq_true (hv1.trans hv2.symm)] at BD
                  have HF8 : Hid (∀ w9, Below w8.heap.size w8 w9 → ActsI w lb db W Sp R (k + 1) w9) := Lib.hid (fun w9 hb => ⟨_, hH8.bel hb, HBD.out.hear H6.out.good _, (hM8.box _ _ _ HS7.out (by decide) (by decide) (by decide)).bel hb⟩)
                  clear R2 hL1 hv1 hH7 hL2 hv2 hH8 hM8 hL18 hR1 hR2 her hqn
                  go_wp2_with fail
                  refine BD.mono ?_
                  rintro e w9 ⟨rfl, hb9⟩
                  have HFIN := Lib.hid (HF8.out w9 hb9)
                  clear BD hb9
                  go_wp2_with fail
                  go_meet
                  case rel => exact HFIN
              by_cases k3 : kd = 3
              · skip
                as_aux_lemma =>
                  subst k3
                  have z1 : w6.cell? ⟨g9, 1, none⟩ = some (.int .i64 x.n) := HX6.out.cell 1
                  have SD := (H6.out.bel ((Below.refl _ _).drew)).reset x.n
                  go_upto_region 28 with fail
                  refine wp_region_held_drew (S := (fun W_ => W_.cell? ⟨g9, 1, none⟩ = some (.int .i64 x.n))) (by kernel_rfl) ?_ (fun hHeld => ?_)
                  · (first | go_keep | assumption)
                  refine wpAnyH_take (i := 0) (oi := ⟨some 121, _, _, _, _, _⟩) (v := ?_) rfl (by kernel_rfl) (by kernel_rfl) (by kernel_rfl) (fun _ _ _ h => h) (Or.inl ⟨by rfl, ?hy10⟩) hHeld ?rest10
                  case hy10 => (intro W hSw; (try dsimp only at hSw); go_simp; (try with_reducible rfl))
                  simp only [Act.put, List.setIfInBounds_toArray, List.set_cons_zero, List.set_cons_succ]
                  refine wpAnyH_take (i := 1) (oi := ⟨some 122, _, _, _, _, _⟩) (v := ?_) rfl (by kernel_rfl) (by kernel_rfl) (by kernel_rfl) (fun _ _ _ h => h) (Or.inl ⟨by rfl, ?hy11⟩) hHeld ?rest11
                  case hy11 => (intro W hSw; (try dsimp only at hSw); go_simp; (try with_reducible rfl))
                  simp only [Act.put, List.setIfInBounds_toArray, List.set_cons_zero, List.set_cons_succ]
                  refine wpAnyH_take (i := 2) (oi := ⟨some 123, _, _, _, _, _⟩) (v := ?_) rfl (by kernel_rfl) (by kernel_rfl) (by kernel_rfl) (fun _ _ _ h => h) (Or.inl ⟨by rfl, ?hy12⟩) hHeld ?rest12
                  case hy12 => (intro W hSw; (try dsimp only at hSw); go_simp; (try with_reducible rfl))
                  simp only [Act.put, List.setIfInBounds_toArray, List.set_cons_zero, List.set_cons_succ]
                  refine wpAnyH_take (i := 4) (oi := ⟨some 125, _, _, _, _, _⟩) (v := ?_) rfl (by kernel_rfl) (by kernel_rfl) (by kernel_rfl) (fun _ _ _ h => h) (Or.inl ⟨by rfl, ?hy13⟩) hHeld ?rest13
                  case hy13 => (intro W hSw; (try dsimp only at hSw); go_simp; (try with_reducible rfl))
                  simp only [Act.put, List.setIfInBounds_toArray, List.set_cons_zero, List.set_cons_succ]
                  refine wpAnyH_take (i := 5) (oi := ⟨some 126, _, _, _, _, _⟩) (v := ?_) rfl (by kernel_rfl) (by kernel_rfl) (by kernel_rfl) (fun _ _ _ h => h) (Or.inl ⟨by rfl, ?hy14⟩) hHeld ?rest14
                  case hy14 => (intro W hSw; (try dsimp only at hSw); go_simp; (try with_reducible rfl))
                  simp only [Act.put, List.setIfInBounds_toArray, List.set_cons_zero, List.set_cons_succ]
                  refine wpAnyH_take (i := 6) (oi := ⟨some 127, _, _, _, _, _⟩) (v := ?_) rfl (by kernel_rfl) (by kernel_rfl) (by kernel_rfl) (fun _ _ _ h => h) (Or.inl ⟨by rfl, ?hy15⟩) hHeld ?rest15
                  case hy15 => (intro W hSw; (try dsimp only at hSw); go_simp; (try with_reducible rfl))
                  simp only [Act.put, List.setIfInBounds_toArray, List.set_cons_zero, List.set_cons_succ]
                  refine wpAnyH_ready (rs := [3]) (by kernel_rfl) (by simp) ?_
                  refine AllReadyH.cons (o := ⟨some 124, _, _, _, _, _⟩) rfl (fun K hK => ?_) AllReadyH.nil
                  go_simp
                  go_at_call 19
                  refine SD.mono ?_
                  rintro e w7 ⟨rfl, hH7, hK7⟩
                  have hX7 := hK7.box _ _ _ HX6.out.drew (by decide) (by decide)
                  have z7 : w7.cell? ⟨g9, 1, none⟩ = some (.int .i64 x.n) := hX7.cell 1
                  have SD2 := hH7.dreset x.n
                  have HS7 := Lib.hid (hK7.box _ _ _ S6.out.drew (by decide) (by decide))
                  have HX7 := Lib.hid hX7
                  clear hX7 hH7 hK7 SD
                  refine hK.out _ _ ?_ (fun hNew => ?_)
                  · ((try dsimp only); (first | go_keep | assumption))
                  clear hK K hHeld
                  have hHeld := hNew
                  clear hNew
                  try simp only [Act.put, List.setIfInBounds_toArray, List.set_cons_zero, List.set_cons_succ]
                  refine wpAnyH_ready (rs := [7]) (by kernel_rfl) (by simp) ?_
                  refine AllReadyH.cons (o := ⟨some 128, _, _, _, _, _⟩) rfl (fun K hK => ?_) AllReadyH.nil
                  go_simp
                  go_at_call 20
                  refine SD2.mono ?_
                  rintro e w8 ⟨rfl, hH8, hM8⟩
                  have z8 : w8.cell? ⟨g9, 1, none⟩ = some (.int .i64 x.n) := (hM8.box _ _ _ HX7.out (by decide) (by decide) (by decide)).cell 1
                  have HFIN : Hid (ActsI w lb db W Sp R (k + 1) w8) := Lib.hid ⟨_, hH8, HBD.out.reset, hM8.box _ _ _ HS7.out (by decide) (by decide) (by decide)⟩
                  clear hH8 hM8 SD2
                  refine hK.out _ _ ?_ (fun hNew => ?_)
                  · ((try dsimp only); (first | go_keep | assumption))
                  clear hK K hHeld
                  have hHeld := hNew
                  clear hNew
                  try simp only [Act.put, List.setIfInBounds_toArray, List.set_cons_zero, List.set_cons_succ]
                  refine wpAnyH_take (i := 8) (oi := ⟨some 129, _, _, _, _, _⟩) (v := ?_) rfl (by kernel_rfl) (by kernel_rfl) (by kernel_rfl) (fun _ _ _ h => h) (Or.inl ⟨by rfl, ?hy18⟩) hHeld ?rest18
                  case hy18 => (intro W hSw; (try dsimp only at hSw); go_simp; (try with_reducible rfl))
                  simp only [Act.put, List.setIfInBounds_toArray, List.set_cons_zero, List.set_cons_succ]
                  refine wpAnyH_done (by kernel_rfl) ?_ _
                  go_wp2_with fail
                  go_meet
                  case rel => exact HFIN
              · have q0 : (kd == 0) = false := by simpa using k0
                have q1 : (kd == 1) = false := by simpa using k1
                have q2 : (kd == 2) = false := by simpa using k2
                have q3 : (kd == 3) = false := by simpa using k3
                have HFIN : Hid (ActsI w lb db W Sp R (k + 1) w6) := Lib.hid ⟨_, H6.out, HBD.out.on, S6.out⟩
                clear k0 k1 k2 k3
                go_wp2_with fail
                go_meet
                case rel => exact HFIN
            case rest =>
              have HK := hcut
              clear hcut H6 S6 HBW HBD HX6 z0
              obtain ⟨st2, hH2, hBd2, hS2⟩ := HK.out
              obtain ⟨vo, ve, xs, ys, hD⟩ := hH2.doc
              obtain ⟨⟨va, vc, hvo⟩, -⟩ := hD.shape
              obtain ⟨L, hL⟩ : ∃ L, st2.out.length = L := ⟨_, rfl⟩
              have hxl := hD.lens.1
              have c8 : wc.cell? ⟨db, 8, none⟩ = some (.slice va L vc) := by have := hD.box.cell 8; rw [hvo, hxl, hL] at this; exact this
              have c7 : wc.cell? ⟨db, 7, none⟩ = some (.int .i64 st2.got) := hD.box.cell 7
              have c3 : wc.cell? ⟨db, 3, none⟩ = some (.int .i64 st2.ep) := hD.box.cell 3
              have s2 : wc.cell? ⟨w.heap.size, 2, none⟩ = some (.int .i64 R) := hS2.cell 2
              have hroom : decide (R < L) = false := decide_eq_false (by have := hH2.good.room; omega)
              have hd := hH2.bel ((Below.refl _ wc).drew)
              have LF := hd.left
              rw [hL] at LF
              have GT := hd.got
              have EP := hd.epoch
              have HKd := Lib.hid (show ActsI w lb db W Sp R (k + 1) wc.drew from ⟨_, hd, hBd2, hS2.drew⟩)
              clear hH2 hBd2 hS2 hD hvo hxl hL hd HK
              go_upto_region 30 with fail
              refine wp_region_held_drew (S := (fun W_ => W_.cell? ⟨db, 8, none⟩ = some (.slice va L vc) ∧ W_.cell? ⟨db, 7, none⟩ = some (.int .i64 st2.got) ∧ W_.cell? ⟨db, 3, none⟩ = some (.int .i64 st2.ep) ∧ W_.cell? ⟨w.heap.size, 2, none⟩ = some (.int .i64 R))) (by kernel_rfl) ?_ (fun hHeld => ?_)
              · (first | go_keep | (go_split_ands; refine ⟨?_, ?_, ?_, ?_⟩ <;> assumption))
              refine wpAnyH_take (i := 0) (oi := ⟨some 130, _, _, _, _, _⟩) (v := ?_) rfl (by kernel_rfl) (by kernel_rfl) (by kernel_rfl) (fun _ _ _ h => h) (Or.inl ⟨by rfl, ?hy19⟩) hHeld ?rest19
              case hy19 => (intro W hSw; (try dsimp only at hSw); go_simp; (try with_reducible rfl))
              simp only [Act.put, List.setIfInBounds_toArray, List.set_cons_zero, List.set_cons_succ]
              refine wpAnyH_take (i := 2) (oi := ⟨some 132, _, _, _, _, _⟩) (v := ?_) rfl (by kernel_rfl) (by kernel_rfl) (by kernel_rfl) (fun _ _ _ h => h) (Or.inl ⟨by rfl, ?hy20⟩) hHeld ?rest20
              case hy20 => (intro W hSw; (try dsimp only at hSw); go_simp; (try with_reducible rfl))
              simp only [Act.put, List.setIfInBounds_toArray, List.set_cons_zero, List.set_cons_succ]
              refine wpAnyH_take (i := 3) (oi := ⟨some 133, _, _, _, _, _⟩) (v := ?_) rfl (by kernel_rfl) (by kernel_rfl) (by kernel_rfl) (fun _ _ _ h => h) (Or.inl ⟨by rfl, ?hy21⟩) hHeld ?rest21
              case hy21 => (intro W hSw; (try dsimp only at hSw); go_simp; (try with_reducible rfl))
              simp only [Act.put, List.setIfInBounds_toArray, List.set_cons_zero, List.set_cons_succ]
              refine wpAnyH_take (i := 4) (oi := ⟨some 134, _, _, _, _, _⟩) (v := ?_) rfl (by kernel_rfl) (by kernel_rfl) (by kernel_rfl) (fun _ _ _ h => h) (Or.inl ⟨by rfl, ?hy22⟩) hHeld ?rest22
              case hy22 => (intro W hSw; (try dsimp only at hSw); go_simp; (try with_reducible rfl))
              simp only [Act.put, List.setIfInBounds_toArray, List.set_cons_zero, List.set_cons_succ]
              refine wpAnyH_take (i := 5) (oi := ⟨some 135, _, _, _, _, _⟩) (v := ?_) rfl (by kernel_rfl) (by kernel_rfl) (by kernel_rfl) (fun _ _ _ h => h) (Or.inl ⟨by rfl, ?hy23⟩) hHeld ?rest23
              case hy23 => (intro W hSw; (try dsimp only at hSw); go_simp; (try with_reducible rfl))
              simp only [Act.put, List.setIfInBounds_toArray, List.set_cons_zero, List.set_cons_succ]
              refine wpAnyH_take (i := 6) (oi := ⟨some 136, _, _, _, _, _⟩) (v := ?_) rfl (by kernel_rfl) (by kernel_rfl) (by kernel_rfl) (fun _ _ _ h => h) (Or.inl ⟨by rfl, ?hy24⟩) hHeld ?rest24
              case hy24 => (intro W hSw; (try dsimp only at hSw); go_simp; (try with_reducible rfl))
              simp only [Act.put, List.setIfInBounds_toArray, List.set_cons_zero, List.set_cons_succ]
              refine wpAnyH_ready (rs := [1]) (by kernel_rfl) (by simp) ?_
              refine AllReadyH.cons (o := ⟨some 131, _, _, _, _, _⟩) rfl (fun K hK => ?_) AllReadyH.nil
              go_simp
              go_at_call 21
              refine LF.mono ?_
              rintro e w8 ⟨rfl, rfl⟩
              refine hK.out _ _ ?_ (fun hNew => ?_)
              · ((try dsimp only); (first | go_keep | (go_split_ands; refine ⟨?_, ?_, ?_, ?_⟩ <;> assumption)))
              clear hK K hHeld
              have hHeld := hNew
              clear hNew
              try simp only [Act.put, List.setIfInBounds_toArray, List.set_cons_zero, List.set_cons_succ]
              refine wpAnyH_take (i := 7) (oi := ⟨some 137, _, _, _, _, _⟩) (v := ?_) rfl (by kernel_rfl) (by kernel_rfl) (by kernel_rfl) (fun _ _ _ h => h) (Or.inl ⟨by rfl, ?hy26⟩) hHeld ?rest26
              case hy26 => (intro W hSw; (try dsimp only at hSw); go_simp; (try with_reducible rfl))
              simp only [Act.put, List.setIfInBounds_toArray, List.set_cons_zero, List.set_cons_succ]
              refine wpAnyH_take (i := 8) (oi := ⟨some 138, _, _, _, _, _⟩) (v := ?_) rfl (by kernel_rfl) (by kernel_rfl) (by kernel_rfl) (fun _ _ _ h => h) (Or.inl ⟨by rfl, ?hy27⟩) hHeld ?rest27
              case hy27 => (intro W hSw; (try dsimp only at hSw); go_simp; (try with_reducible rfl))
              simp only [Act.put, List.setIfInBounds_toArray, List.set_cons_zero, List.set_cons_succ]
              refine wpAnyH_take (i := 9) (oi := ⟨some 139, _, _, _, _, _⟩) (v := ?_) rfl (by kernel_rfl) (by kernel_rfl) (by kernel_rfl) (fun _ _ _ h => h) (Or.inl ⟨by rfl, ?hy28⟩) hHeld ?rest28
              case hy28 => (intro W hSw; (try dsimp only at hSw); go_simp; (try with_reducible rfl))
              simp only [Act.put, List.setIfInBounds_toArray, List.set_cons_zero, List.set_cons_succ]
              refine wpAnyH_take (i := 11) (oi := ⟨some 141, _, _, _, _, _⟩) (v := ?_) rfl (by kernel_rfl) (by kernel_rfl) (by kernel_rfl) (fun _ _ _ h => h) (Or.inl ⟨by rfl, ?hy29⟩) hHeld ?rest29
              case hy29 => (intro W hSw; (try dsimp only at hSw); go_simp; (try with_reducible rfl))
              simp only [Act.put, List.setIfInBounds_toArray, List.set_cons_zero, List.set_cons_succ]
              refine wpAnyH_take (i := 12) (oi := ⟨some 142, _, _, _, _, _⟩) (v := ?_) rfl (by kernel_rfl) (by kernel_rfl) (by kernel_rfl) (fun _ _ _ h => h) (Or.inl ⟨by rfl, ?hy30⟩) hHeld ?rest30
              case hy30 => (intro W hSw; (try dsimp only at hSw); go_simp; (try with_reducible rfl))
              simp only [Act.put, List.setIfInBounds_toArray, List.set_cons_zero, List.set_cons_succ]
              refine wpAnyH_take (i := 13) (oi := ⟨some 143, _, _, _, _, _⟩) (v := ?_) rfl (by kernel_rfl) (by kernel_rfl) (by kernel_rfl) (fun _ _ _ h => h) (Or.inl ⟨by rfl, ?hy31⟩) hHeld ?rest31
              case hy31 => (intro W hSw; (try dsimp only at hSw); go_simp; (try with_reducible rfl))
              simp only [Act.put, List.setIfInBounds_toArray, List.set_cons_zero, List.set_cons_succ]
              refine wpAnyH_take (i := 14) (oi := ⟨some 144, _, _, _, _, _⟩) (v := ?_) rfl (by kernel_rfl) (by kernel_rfl) (by kernel_rfl) (fun _ _ _ h => h) (Or.inl ⟨by rfl, ?hy32⟩) hHeld ?rest32
              case hy32 => (intro W hSw; (try dsimp only at hSw); go_simp; (try with_reducible rfl))
              simp only [Act.put, List.setIfInBounds_toArray, List.set_cons_zero, List.set_cons_succ]
              refine wpAnyH_ready (rs := [10]) (by kernel_rfl) (by simp) ?_
              refine AllReadyH.cons (o := ⟨some 140, _, _, _, _, _⟩) rfl (fun K hK => ?_) AllReadyH.nil
              go_simp
              go_at_call 22
              refine GT.mono ?_
              rintro e w8 ⟨rfl, rfl⟩
              refine hK.out _ _ ?_ (fun hNew => ?_)
              · ((try dsimp only); (first | go_keep | (go_split_ands; refine ⟨?_, ?_, ?_, ?_⟩ <;> assumption)))
              clear hK K hHeld
              have hHeld := hNew
              clear hNew
              try simp only [Act.put, List.setIfInBounds_toArray, List.set_cons_zero, List.set_cons_succ]
              refine wpAnyH_take (i := 15) (oi := ⟨some 145, _, _, _, _, _⟩) (v := ?_) rfl (by kernel_rfl) (by kernel_rfl) (by kernel_rfl) (fun _ _ _ h => h) (Or.inl ⟨by rfl, ?hy34⟩) hHeld ?rest34
              case hy34 => (intro W hSw; (try dsimp only at hSw); go_simp; (try with_reducible rfl))
              simp only [Act.put, List.setIfInBounds_toArray, List.set_cons_zero, List.set_cons_succ]
              refine wpAnyH_take (i := 16) (oi := ⟨some 146, _, _, _, _, _⟩) (v := ?_) rfl (by kernel_rfl) (by kernel_rfl) (by kernel_rfl) (fun _ _ _ h => h) (Or.inl ⟨by rfl, ?hy35⟩) hHeld ?rest35
              case hy35 => (intro W hSw; (try dsimp only at hSw); go_simp; (try with_reducible rfl))
              simp only [Act.put, List.setIfInBounds_toArray, List.set_cons_zero, List.set_cons_succ]
              refine wpAnyH_take (i := 17) (oi := ⟨some 147, _, _, _, _, _⟩) (v := ?_) rfl (by kernel_rfl) (by kernel_rfl) (by kernel_rfl) (fun _ _ _ h => h) (Or.inl ⟨by rfl, ?hy36⟩) hHeld ?rest36
              case hy36 => (intro W hSw; (try dsimp only at hSw); go_simp; (try with_reducible rfl))
              simp only [Act.put, List.setIfInBounds_toArray, List.set_cons_zero, List.set_cons_succ]
              refine wpAnyH_take (i := 18) (oi := ⟨some 148, _, _, _, _, _⟩) (v := ?_) rfl (by kernel_rfl) (by kernel_rfl) (by kernel_rfl) (fun _ _ _ h => h) (Or.inl ⟨by rfl, ?hy37⟩) hHeld ?rest37
              case hy37 => (intro W hSw; (try dsimp only at hSw); go_simp; (try with_reducible rfl))
              simp only [Act.put, List.setIfInBounds_toArray, List.set_cons_zero, List.set_cons_succ]
              refine wpAnyH_take (i := 20) (oi := ⟨some 150, _, _, _, _, _⟩) (v := ?_) rfl (by kernel_rfl) (by kernel_rfl) (by kernel_rfl) (fun _ _ _ h => h) (Or.inl ⟨by rfl, ?hy38⟩) hHeld ?rest38
              case hy38 => (intro W hSw; (try dsimp only at hSw); go_simp; (try with_reducible rfl))
              simp only [Act.put, List.setIfInBounds_toArray, List.set_cons_zero, List.set_cons_succ]
              refine wpAnyH_take (i := 21) (oi := ⟨some 151, _, _, _, _, _⟩) (v := ?_) rfl (by kernel_rfl) (by kernel_rfl) (by kernel_rfl) (fun _ _ _ h => h) (Or.inl ⟨by rfl, ?hy39⟩) hHeld ?rest39
              case hy39 => (intro W hSw; (try dsimp only at hSw); go_simp; (try with_reducible rfl))
              simp only [Act.put, List.setIfInBounds_toArray, List.set_cons_zero, List.set_cons_succ]
              refine wpAnyH_take (i := 22) (oi := ⟨some 152, _, _, _, _, _⟩) (v := ?_) rfl (by kernel_rfl) (by kernel_rfl) (by kernel_rfl) (fun _ _ _ h => h) (Or.inl ⟨by rfl, ?hy40⟩) hHeld ?rest40
              case hy40 => (intro W hSw; (try dsimp only at hSw); go_simp; (try with_reducible rfl))
              simp only [Act.put, List.setIfInBounds_toArray, List.set_cons_zero, List.set_cons_succ]
              refine wpAnyH_take (i := 23) (oi := ⟨some 153, _, _, _, _, _⟩) (v := ?_) rfl (by kernel_rfl) (by kernel_rfl) (by kernel_rfl) (fun _ _ _ h => h) (Or.inl ⟨by rfl, ?hy41⟩) hHeld ?rest41
              case hy41 => (intro W hSw; (try dsimp only at hSw); go_simp; (try with_reducible rfl))
              simp only [Act.put, List.setIfInBounds_toArray, List.set_cons_zero, List.set_cons_succ]
              refine wpAnyH_ready (rs := [19]) (by kernel_rfl) (by simp) ?_
              refine AllReadyH.cons (o := ⟨some 149, _, _, _, _, _⟩) rfl (fun K hK => ?_) AllReadyH.nil
              go_simp
              go_at_call 23
              refine EP.mono ?_
              rintro e w8 ⟨rfl, rfl⟩
              refine hK.out _ _ ?_ (fun hNew => ?_)
              · ((try dsimp only); (first | go_keep | (go_split_ands; refine ⟨?_, ?_, ?_, ?_⟩ <;> assumption)))
              clear hK K hHeld
              have hHeld := hNew
              clear hNew
              try simp only [Act.put, List.setIfInBounds_toArray, List.set_cons_zero, List.set_cons_succ]
              refine wpAnyH_take (i := 24) (oi := ⟨some 154, _, _, _, _, _⟩) (v := ?_) rfl (by kernel_rfl) (by kernel_rfl) (by kernel_rfl) (fun _ _ _ h => h) (Or.inl ⟨by rfl, ?hy43⟩) hHeld ?rest43
              case hy43 => (intro W hSw; (try dsimp only at hSw); go_simp; (try with_reducible rfl))
              simp only [Act.put, List.setIfInBounds_toArray, List.set_cons_zero, List.set_cons_succ]
              refine wpAnyH_take (i := 25) (oi := ⟨some 155, _, _, _, _, _⟩) (v := ?_) rfl (by kernel_rfl) (by kernel_rfl) (by kernel_rfl) (fun _ _ _ h => h) (Or.inl ⟨by rfl, ?hy44⟩) hHeld ?rest44
              case hy44 => (intro W hSw; (try dsimp only at hSw); go_simp; (try with_reducible rfl))
              simp only [Act.put, List.setIfInBounds_toArray, List.set_cons_zero, List.set_cons_succ]
              refine wpAnyH_take (i := 26) (oi := ⟨some 156, _, _, _, _, _⟩) (v := ?_) rfl (by kernel_rfl) (by kernel_rfl) (by kernel_rfl) (fun _ _ _ h => h) (Or.inl ⟨by rfl, ?hy45⟩) hHeld ?rest45
              case hy45 => (intro W hSw; (try dsimp only at hSw); go_simp; (try with_reducible rfl))
              simp only [Act.put, List.setIfInBounds_toArray, List.set_cons_zero, List.set_cons_succ]
              refine wpAnyH_take (i := 27) (oi := ⟨some 157, _, _, _, _, _⟩) (v := ?_) rfl (by kernel_rfl) (by kernel_rfl) (by kernel_rfl) (fun _ _ _ h => h) (Or.inl ⟨by rfl, ?hy46⟩) hHeld ?rest46
              case hy46 => (intro W hSw; (try dsimp only at hSw); go_simp; (try with_reducible rfl))
              simp only [Act.put, List.setIfInBounds_toArray, List.set_cons_zero, List.set_cons_succ]
              refine wpAnyH_take (i := 29) (oi := ⟨some 159, _, _, _, _, _⟩) (v := ?_) rfl (by kernel_rfl) (by kernel_rfl) (by kernel_rfl) (fun _ _ _ h => h) (Or.inl ⟨by rfl, ?hy47⟩) hHeld ?rest47
              case hy47 => (intro W hSw; (try dsimp only at hSw); go_simp; (try with_reducible rfl))
              simp only [Act.put, List.setIfInBounds_toArray, List.set_cons_zero, List.set_cons_succ]
              refine wpAnyH_take (i := 30) (oi := ⟨some 160, _, _, _, _, _⟩) (v := ?_) rfl (by kernel_rfl) (by kernel_rfl) (by kernel_rfl) (fun _ _ _ h => h) (Or.inl ⟨by rfl, ?hy48⟩) hHeld ?rest48
              case hy48 => (intro W hSw; (try dsimp only at hSw); go_simp; (try with_reducible rfl))
              simp only [Act.put, List.setIfInBounds_toArray, List.set_cons_zero, List.set_cons_succ]
              refine wpAnyH_ready (rs := [28]) (by kernel_rfl) (by simp) ?_
              refine AllReadyH.cons (o := ⟨some 158, _, _, _, _, _⟩) rfl (fun K hK => ?_) AllReadyH.nil
              go_simp
              go_at_call 21
              refine LF.mono ?_
              rintro e w8 ⟨rfl, rfl⟩
              refine hK.out _ _ ?_ (fun hNew => ?_)
              · ((try dsimp only); (first | go_keep | (go_split_ands; refine ⟨?_, ?_, ?_, ?_⟩ <;> assumption)))
              clear hK K hHeld
              have hHeld := hNew
              clear hNew
              try simp only [Act.put, List.setIfInBounds_toArray, List.set_cons_zero, List.set_cons_succ]
              refine wpAnyH_take (i := 31) (oi := ⟨some 161, _, _, _, _, _⟩) (v := ?_) rfl (by kernel_rfl) (by kernel_rfl) (by kernel_rfl) (fun _ _ _ h => h) (Or.inl ⟨by rfl, ?hy50⟩) hHeld ?rest50
              case hy50 => (intro W hSw; (try dsimp only at hSw); go_simp; (try with_reducible rfl))
              simp only [Act.put, List.setIfInBounds_toArray, List.set_cons_zero, List.set_cons_succ]
              refine wpAnyH_take (i := 32) (oi := ⟨some 162, _, _, _, _, _⟩) (v := ?_) rfl (by kernel_rfl) (by kernel_rfl) (by kernel_rfl) (fun _ _ _ h => h) (Or.inl ⟨by rfl, ?hy51⟩) hHeld ?rest51
              case hy51 => (intro W hSw; (try dsimp only at hSw); go_simp; (try with_reducible rfl))
              simp only [Act.put, List.setIfInBounds_toArray, List.set_cons_zero, List.set_cons_succ]
              refine wpAnyH_done (by kernel_rfl) ?_ _
              go_wp2_with fail
              go_roundw
              case rel => exact ⟨k + 1, by omega, by go_num, HKd⟩
              case measure => simp [intOf]; omega
        · obtain rfl : k = n := by omega
          have HB := Lib.hid HJ.out.below
          clear HJ
          go_wp2_with fail
          go_ret
          exact ⟨rfl, HB.out⟩

set_option maxRecDepth 100000 in
theorem lifted (os : Os) (started : os.Started) (H : Type) (enc : TypeId × Value → H) :
    ReturnsInHanded {} Try.checked os 3 .any (Rows.linkActsSpec.pre6 enc Try.prog Try.f3 Rows.linkActsRow.domain false) (Rows.linkActsSpec.post enc Try.prog Try.f3 false true false false) := by
  refine returnsInHanded_of_change (C := Try.checked) own started (by kernel_rfl) Try.func3
    (ChangeSpec.witness6 (enc := enc) (C := Try.checked) false ⟨#[], #[.agg #[.int .i64 0, .int .i64 0, .int .i64 0], .slice none 0 0], []⟩ 8 (by kernel_rfl) (by kernel_rfl) (by kernel_rfl) (by kernel_rfl)) ?_
  intro W base args ds gs before hval0 hW hcnd _
  have hval : ∀ (j : Nat) t v, Try.f3.params[j]? = some t → args[j]? = some v → Value.okWide Try.prog W .any base t v := hval0
  have hW' := hW
  obtain ⟨p, q, hA0, hV, rfl, hfz, hnd⟩ := hW
  have hA : DataW.TrodAll enc Try.prog W 0 (fun _ => true) true Try.f3.params.toList args.toList ds p := hA0
  rw [Try.params3] at hA hval
  obtain ⟨v0, vs0, d0, ds0, p0, q0, hargs, rfl, rfl, h0, r0⟩ := trodAll_cons hA
  obtain ⟨v1, vs1, d1, ds1, p1, q1, rfl, rfl, rfl, h1, r1⟩ := trodAll_cons r0
  obtain ⟨rfl, rfl, rfl⟩ := trodAll_nil r1
  obtain rfl : args = #[v0, v1] := by cases args; simp_all
  obtain ⟨rfl, rfl⟩ := trodVars_none hV
  have k0 := h0
  have lt0 : ∀ x ∈ p0, x.block < W.heap.size := by obtain ⟨m, hm⟩ := k0; exact DataW.trod_lt m _ _ _ hm
  obtain ⟨x0, rfl, w0⟩ := open_Sides16 (hval 0 23 v0 rfl rfl) h0
  have k1 := h1
  have lt1 : ∀ x ∈ p1, x.block < W.heap.size := by obtain ⟨m, hm⟩ := k1; exact DataW.trod_lt m _ _ _ hm
  obtain ⟨x1, rfl, w1⟩ := open_rowAct16 (hval 1 24 v1 rfl rfl) h1
  clear hA0 hval0
  refine (walk x0 x1 W w0 w1).mono fun e W' ⟨he, bel⟩ => ?_
  subst he
  exact ⟨_, rfl, _, _, _, [], _, [], hW', trodAll_mk1 (shut_bool Try.underlying4 _), (trodAll_cons_mk (Below.trod laidOut (by kernel_rfl) (of_decide_eq_true (by kernel_rfl)) k0 bel lt0) (trodAll_cons_mk (Below.trod laidOut (by kernel_rfl) (of_decide_eq_true (by kernel_rfl)) k1 bel lt1) trodAll_mk0)), rfl, bel.frame _, fun h => by cases h⟩

theorem over : Rows.linkActsRow.holds Try.pinned (OpenSpec.ofChange Rows.linkActsSpec) :=
  OpenClaim.holds_of_wide 3 Try.f3 rfl rfl rfl rfl rfl rfl rfl ⟨rfl, rfl, rfl, rfl, rfl⟩ rfl rfl rfl rfl rfl (by kernel_rfl) Try.func3 (by kernel_rfl)
    (of_decide_eq_true (by kernel_rfl)) (by unfold Func.isWrapper; first | (rw [if_pos (by decide +kernel)]; kernel_rfl) | (rw [if_neg (by decide +kernel)]; exact ⟨rfl, rfl⟩))
    (fun os started H enc _ => lifted os started H enc)

/-- ████ THE STATEMENT ████ -/
theorem proved : Rows.LinkActsSaid := over
#print axioms proved
end Go.Proofs.Ytkinbngikmcpeaa.linkActs
