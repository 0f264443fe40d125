import Derived.Test.YtoeihigdndkjeaaGreatDoorP21
import Derived.Test.YtoeihigdndkjeaaGreatDoorP22
/-
  Rows that may be stored into; the document's taker answers such.
-/
namespace Go.Proofs.YtoeihigdndkjeaaGreatDoor
open Go.RowKit Go.Shelf
set_option linter.unusedVariables false

/-- a row lies in a block of its kind that may be stored into -/
def ThT (X : TypeId) (w : World) (a : Option Addr) : Prop := ∀ x, a = some x → ∃ cs, Box w x.block X cs
abbrev ThA (w : World) (a : Option Addr) : Prop := ThT 64 w a
def Ths (w : World) (ls : List (Option Addr)) : Prop := ∀ a ∈ ls, ThA w a
section
variable {w w' : World} {X Y : TypeId} {a : Option Addr} {ls : List (Option Addr)} {g : Nat} {cs : Array Value}
theorem ThT.bel (h : ThT X w a) (hb : Below w.heap.size w w') : ThT X w' a := fun x hx => let ⟨c, hc⟩ := h x hx; ⟨c, hc.bel hb⟩
theorem ThT.but (h : ThT X w a) (hB : Box w g Y cs) (hX : X ≠ Y) (hk : But g w w') : ThT X w' a := fun x hx => let ⟨c, hc⟩ := h x hx; ⟨c, (hk x.block hc.lt (box_ne8 hc hB hX)).trans hc⟩
theorem Ths.bel (h : Ths w ls) (hb : Below w.heap.size w w') : Ths w' ls := fun a ha => (h a ha).bel hb
theorem Ths.but (h : Ths w ls) (hB : Box w g Y cs) (hX : 64 ≠ Y) (hk : But g w w') : Ths w' ls := fun a ha => (h a ha).but hB hX hk
theorem Ths.cons (h : Ths w ls) (k : ThA w a) : Ths w (a :: ls) := fun b hb => by
  rcases List.mem_cons.1 hb with rfl | hb
  · exact k
  · exact h b hb
theorem Ths.took {T : Nat} {la : Option Addr} {ln lcap q : Nat} (h : Ths w ls) (hT : TakerAt w T la ln lcap q) (hg : w.grownBy w' (some T)) : Ths w' ls := h.but hT (by decide) (but_grown hg)
theorem but_refl (g : Nat) (w : World) : But g w w := fun _ _ _ => rfl
theorem But.set (h : But g w w') (o : Nat) (v : Value) : But g w (w'.setCell ⟨g, o, none⟩ v) := fun k hk hne => (Below.heap_setCell w' ⟨g, o, none⟩ v k hne).trans (h k hk hne)
theorem thA_own {base sz n m c : Nat} {xs : List Value} {v : Value} (h : w.ownsRow base X sz v n xs) (e : v = .slice a m c) : ThT X w a := by
  intro x hx
  subst hx
  rcases h.2 with ⟨h1, _⟩ | ⟨g, cap, cur, h1, _, hg, _⟩
  · rw [e] at h1; cases h1
  · rw [e] at h1
    cases h1
    exact ⟨cur, hg⟩
end
/-- where a block's rows lie -/
def Bk7.adrs (b : Bk7) : List (Option Addr) := [b.x.a, b.y.a, b.q.a, b.k.a, b.v.a, b.o.a, b.u.a, b.d.a]
/-- all of the weights' rows may be stored into; their blocks lie in a block of blocks -/
def WThaw (w : World) (W : Wt7) : Prop := Ths w (W.e.a :: W.hd.a :: W.t.a :: W.bs.flatMap Bk7.adrs) ∧ ThT 66 w W.ba
theorem WThaw.bel {w w' : World} {W : Wt7} (h : WThaw w W) (hb : Below w.heap.size w w') : WThaw w' W := ⟨h.1.bel hb, h.2.bel hb⟩

set_option maxHeartbeats 2000000 in
set_option maxRecDepth 100000 in
theorem take8T (T : Nat) (b off ln lcap q n : Nat) (xs : List Int) (w : World) (hT : TakerAt w T (some ⟨b, off, none⟩) ln lcap q) (hx : Elems .i8 w (some ⟨b, off, none⟩) ln xs) (hcap : ln ≤ lcap) (hcap2 : lcap ≤ 9223372036854775807) (hn : 0 < n) (hle : q + n ≤ ln) (hs : ln ≤ 1000000) :
    Calls Tryz.prog 60 #[.pointer (some ⟨T, 0, none⟩), .int .i64 n] w fun e w' => Took w T (some ⟨b, off, none⟩) ln lcap q n ((xs.drop q).take n) e w' ∧ ∀ g : Rw, e = .returned (.slice g.a g.n g.cap) → ThA w' g.a := by
  have z0 : w.cell? ⟨T, 0, none⟩ = some (.slice (some ⟨b, off, none⟩) ln lcap) := hT.cell 0
  have z1 : w.cell? ⟨T, 1, none⟩ = some (.int .i64 q) := hT.cell 1
  have hx2 : Elems .i8 w.drew (some ⟨b, off + q, none⟩) n ((xs.drop q).take n) := ((hx.drop q (by omega)).take n (by omega)).below ((Below.refl _ _).drew)
  obtain ⟨v', w1, hrun, hown, hgrow, hvb⟩ := run_append_elems (P := Tryz.prog) .i8 w.drew w.heap.size 24 64 1 (by omega) Tryz.underlying24 info_i8 (.slice none 0 0) 0 [] (own_nil _ _ _) (some ⟨b, off + q, none⟩) n (lcap - q) _ hx2 (fun e => by cases e) (by omega) (by omega) (Nat.le_refl _)
  have hB : Below w.heap.size w w1 := ((Below.refl _ _).drew).grown hgrow (Nat.le_refl _) (fun k hk => by simp [Value.ownBlock] at hk)
  obtain ⟨g, rfl, hgi, hgv, hgn, hgb⟩ := own_rw hown (by simpa using hx2.2.2.1) (by omega)
  have HTA : Hid (ThA w1 g.a) := Lib.hid (thA_own hown rfl)
  have HG := Lib.hid hgi
  have HGV : Hid (g.v = (xs.drop q).take n) := Lib.hid (by simpa using hgv)
  have HGN : Hid (g.n = n) := Lib.hid (by simpa using hgn)
  have HGB := Lib.hid hgb
  have HB := Lib.hid hB
  have HT1 := Lib.hid (Box.bel hT hB)
  have y0 : w1.cell? ⟨T, 0, none⟩ = some (.slice (some ⟨b, off, none⟩) ln lcap) := HT1.out.cell 0
  have y1 : w1.cell? ⟨T, 1, none⟩ = some (.int .i64 q) := HT1.out.cell 1
  have yf := HT1.out.frozen 1
  obtain ⟨r, hr⟩ : ∃ r, q + n = r := ⟨_, rfl⟩
  have HR := Lib.hid hr
  have hwr : IntKind.i64.wrap ((q : Int) + (n : Int)) = (r : Int) := by rw [← hr]; unfold IntKind.wrap; simp [IntKind.bits, IntKind.signed]; omega
  have l1 : q ≤ r := by omega
  have l2 : (r : Int) ≤ (lcap : Int) := by omega
  have l3 : ¬ lcap = q := by omega
  have l4 : r - q = n := by omega
  clear hr hle hcap
  have HTLT : Hid (T < w.heap.size) := Lib.hid hT.lt
  clear hx hx2 hown hgrow hvb hgi hgv hgn hgb hB hT
  go_enter Tryz.func60, Tryz.ntmps60
  go_upto_region 2 with (fail)
  refine wp_region_held_drew (S := fun w' => w'.cell? ⟨T, 0, none⟩ = some (.slice (some ⟨b, off, none⟩) ln lcap) ∧ w'.cell? ⟨T, 1, none⟩ = some (.int .i64 q)) (by kernel_rfl) ?_ (fun hHeld => ?_)
  · (first | exact ⟨z0, z1⟩ | exact ⟨y0, y1⟩)
  refine wpAnyH_take (i := 0) (oi := ⟨some 6, _, _, _, _, _⟩) (v := ?_) rfl (by kernel_rfl) (by kernel_rfl) (by kernel_rfl) (fun _ _ _ h => h) (Or.inl ⟨by rfl, ?hy1⟩) hHeld ?rest1
  case hy1 => (intro W hSw; (try dsimp only at hSw); go_simp; (try with_reducible rfl))
  simp only [Act.put, List.setIfInBounds_toArray, List.set_cons_zero, List.set_cons_succ]
  refine wpAnyH_take (i := 1) (oi := ⟨some 7, _, _, _, _, _⟩) (v := ?_) rfl (by kernel_rfl) (by kernel_rfl) (by kernel_rfl) (fun _ _ _ h => h) (Or.inl ⟨by rfl, ?hy2⟩) hHeld ?rest2
  case hy2 => (intro W hSw; (try dsimp only at hSw); go_simp; (try with_reducible rfl))
  simp only [Act.put, List.setIfInBounds_toArray, List.set_cons_zero, List.set_cons_succ]
  refine wpAnyH_take (i := 2) (oi := ⟨some 8, _, _, _, _, _⟩) (v := ?_) rfl (by kernel_rfl) (by kernel_rfl) (by kernel_rfl) (fun _ _ _ h => h) (Or.inl ⟨by rfl, ?hy3⟩) hHeld ?rest3
  case hy3 => (intro W hSw; (try dsimp only at hSw); go_simp; (try with_reducible rfl))
  simp only [Act.put, List.setIfInBounds_toArray, List.set_cons_zero, List.set_cons_succ]
  refine wpAnyH_take (i := 3) (oi := ⟨some 9, _, _, _, _, _⟩) (v := ?_) rfl (by kernel_rfl) (by kernel_rfl) (by kernel_rfl) (fun _ _ _ h => h) (Or.inl ⟨by rfl, ?hy4⟩) hHeld ?rest4
  case hy4 => (intro W hSw; (try dsimp only at hSw); go_simp; (try with_reducible rfl))
  simp only [Act.put, List.setIfInBounds_toArray, List.set_cons_zero, List.set_cons_succ]
  refine wpAnyH_take (i := 4) (oi := ⟨some 10, _, _, _, _, _⟩) (v := ?_) rfl (by kernel_rfl) (by kernel_rfl) (by kernel_rfl) (fun _ _ _ h => h) (Or.inl ⟨by rfl, ?hy5⟩) hHeld ?rest5
  case hy5 => (intro W hSw; (try dsimp only at hSw); go_simp; (try with_reducible rfl))
  simp only [Act.put, List.setIfInBounds_toArray, List.set_cons_zero, List.set_cons_succ]
  refine wpAnyH_take (i := 5) (oi := ⟨some 11, _, _, _, _, _⟩) (v := ?_) rfl (by kernel_rfl) (by kernel_rfl) (by kernel_rfl) (fun _ _ _ h => h) (Or.inl ⟨by rfl, ?hy6⟩) hHeld ?rest6
  case hy6 => (intro W hSw; (try dsimp only at hSw); go_simp; (try with_reducible rfl))
  simp only [Act.put, List.setIfInBounds_toArray, List.set_cons_zero, List.set_cons_succ]
  refine wpAnyH_take (i := 6) (oi := ⟨some 12, _, _, _, _, _⟩) (v := ?_) rfl (by kernel_rfl) (by kernel_rfl) (by kernel_rfl) (fun _ _ _ h => h) (Or.inl ⟨by rfl, ?hy7⟩) hHeld ?rest7
  case hy7 => (intro W hSw; (try dsimp only at hSw); go_simp; (try with_reducible rfl))
  simp only [Act.put, List.setIfInBounds_toArray, List.set_cons_zero, List.set_cons_succ]
  refine wpAnyH_take (i := 7) (oi := ⟨some 13, _, _, _, _, _⟩) (v := ?_) rfl (by kernel_rfl) (by kernel_rfl) (by kernel_rfl) (fun _ _ _ h => h) (Or.inl ⟨by rfl, ?hy8⟩) hHeld ?rest8
  case hy8 => (intro W hSw; (try dsimp only at hSw); go_simp; (try with_reducible rfl))
  simp only [Act.put, List.setIfInBounds_toArray, List.set_cons_zero, List.set_cons_succ]
  refine wpAnyH_take (i := 8) (oi := ⟨some 14, _, _, _, _, _⟩) (v := ?_) rfl (by kernel_rfl) (by kernel_rfl) (by kernel_rfl) (fun _ _ _ h => h) (Or.inl ⟨by rfl, ?hy9⟩) hHeld ?rest9
  case hy9 => (intro W hSw; (try dsimp only at hSw); go_simp; (try with_reducible rfl))
  simp only [Act.put, List.setIfInBounds_toArray, List.set_cons_zero, List.set_cons_succ]
  refine wpAnyH_take (i := 9) (oi := ⟨some 15, _, _, _, _, _⟩) (v := ?_) rfl (by kernel_rfl) (by kernel_rfl) (by kernel_rfl) (fun _ _ _ h => h) (Or.inl ⟨by rfl, ?hy10⟩) hHeld ?rest10
  case hy10 => (intro W hSw; (try dsimp only at hSw); go_simp; (try with_reducible rfl))
  simp only [Act.put, List.setIfInBounds_toArray, List.set_cons_zero, List.set_cons_succ]
  refine wpAnyH_take (i := 10) (oi := ⟨some 16, _, _, _, _, _⟩) (v := ?_) rfl (by kernel_rfl) (by kernel_rfl) (by kernel_rfl) (fun _ _ _ h => h) (Or.inl ⟨by rfl, ?hy11⟩) hHeld ?rest11
  case hy11 => (intro W hSw; (try dsimp only at hSw); go_simp; (try with_reducible rfl))
  simp only [Act.put, List.setIfInBounds_toArray, List.set_cons_zero, List.set_cons_succ]
  refine wpAnyH_take (i := 11) (oi := ⟨some 17, _, _, _, _, _⟩) (v := ?_) rfl (by kernel_rfl) (by kernel_rfl) (by kernel_rfl) (fun _ _ _ h => h) (Or.inl ⟨by rfl, ?hy12⟩) hHeld ?rest12
  case hy12 => (intro W hSw; (try dsimp only at hSw); go_simp; (try with_reducible rfl))
  simp only [Act.put, List.setIfInBounds_toArray, List.set_cons_zero, List.set_cons_succ]
  refine wpAnyH_take (i := 12) (oi := ⟨some 18, _, _, _, _, _⟩) (v := ?_) rfl (by kernel_rfl) (by kernel_rfl) (by kernel_rfl) (fun _ _ _ h => h) (Or.inl ⟨by rfl, ?hy13⟩) hHeld ?rest13
  case hy13 => (intro W hSw; (try dsimp only at hSw); go_simp; (try with_reducible rfl))
  simp only [Act.put, List.setIfInBounds_toArray, List.set_cons_zero, List.set_cons_succ]
  refine wpAnyH_take (i := 13) (oi := ⟨some 19, _, _, _, _, _⟩) (v := ?_) rfl (by kernel_rfl) (by kernel_rfl) (by kernel_rfl) (fun _ _ _ h => h) (Or.inl ⟨by rfl, ?hy14⟩) hHeld ?rest14
  case hy14 => (intro W hSw; (try dsimp only at hSw); go_simp; (try with_reducible rfl))
  simp only [Act.put, List.setIfInBounds_toArray, List.set_cons_zero, List.set_cons_succ]
  refine wpAnyH_take (i := 14) (oi := ⟨some 20, _, _, _, _, _⟩) (v := ?_) rfl (by kernel_rfl) (by kernel_rfl) (by kernel_rfl) (fun _ _ _ h => h) (Or.inl ⟨by rfl, ?hy15⟩) hHeld ?rest15
  case hy15 => (intro W hSw; (try dsimp only at hSw); go_simp; (try with_reducible rfl))
  simp only [Act.put, List.setIfInBounds_toArray, List.set_cons_zero, List.set_cons_succ]
  refine wpAnyH_take (i := 15) (oi := ⟨some 21, _, _, _, _, _⟩) (v := ?_) rfl (by kernel_rfl) (by kernel_rfl) (by kernel_rfl) (fun _ _ _ h => h) (Or.inl ⟨by rfl, ?hy16⟩) hHeld ?rest16
  case hy16 => (intro W hSw; (try dsimp only at hSw); go_simp; (try with_reducible rfl))
  simp only [Act.put, List.setIfInBounds_toArray, List.set_cons_zero, List.set_cons_succ]
  refine wpAnyH_ready (rs := [16]) (by kernel_rfl) (by simp) ?_
  refine AllReadyH.cons (o := ⟨some 22, _, _, _, _, _⟩) rfl (fun K hK => ?_) AllReadyH.nil
  refine wp_append_run8 _ _ _ rfl _ _ rfl rfl hrun ?_
  refine hK.out _ _ ?_ (fun hNew => ?_)
  · ((try dsimp only); (first | exact ⟨z0, z1⟩ | exact ⟨y0, y1⟩))
  clear hK K hHeld
  have hHeld := hNew
  clear hNew
  try simp only [Act.put, List.setIfInBounds_toArray, List.set_cons_zero, List.set_cons_succ]
  refine wpAnyH_take (i := 17) (oi := ⟨some 5, _, _, _, _, _⟩) (v := ?_) rfl (by kernel_rfl) (by kernel_rfl) (by kernel_rfl) (fun _ _ _ h => h) (Or.inl ⟨by rfl, ?hy18⟩) hHeld ?rest18
  case hy18 => (intro W hSw; (try dsimp only at hSw); go_simp; (try with_reducible rfl))
  simp only [Act.put, List.setIfInBounds_toArray, List.set_cons_zero, List.set_cons_succ]
  refine wpAnyH_done (by kernel_rfl) ?_ _
  have HT2 : Hid (TakerAt (w1.setCell ⟨T, 1, none⟩ (.int .i64 r)) T (some ⟨b, off, none⟩) ln lcap (q + n)) := Lib.hid (by rw [HR.out]; exact HT1.out.set 1 (.int .i64 r))
  have HG2 : Hid (g.In .i8 (w1.setCell ⟨T, 1, none⟩ (.int .i64 r))) := Lib.hid (rw_kept HG.out HGB.out (fun k hk _ => Below.heap_setCell _ _ _ _ (by have := HTLT.out; simp; omega)))
  have HW2 : Hid (w.grownBy (w1.setCell ⟨T, 1, none⟩ (.int .i64 r)) (some T)) := Lib.hid ⟨HB.out.os, HB.out.tape, HB.out.output, by simpa using HB.out.size, fun k hk hne => (Below.heap_setCell w1 ⟨T, 1, none⟩ _ k (by simpa using hne)).trans (HB.out.block k hk)⟩
  have HTA2 : Hid (ThA (w1.setCell ⟨T, 1, none⟩ (.int .i64 r)) g.a) := Lib.hid (HTA.out.but HT1.out (by decide) (fun k hk hne => Below.heap_setCell w1 ⟨T, 1, none⟩ _ k hne))
  clear hHeld hrun z0 z1 HG HB HT1
  go_wp2
  go_ret
  exact ⟨⟨⟨g, rfl, HG2.out, HGV.out, HGN.out, HGB.out⟩, HT2.out, HW2.out⟩, fun g' e => by
    have e2 : Ending.returned (.slice g.a g.n g.cap) = .returned (.slice g'.a g'.n g'.cap) := e
    simp only [Ending.returned.injEq, Value.slice.injEq] at e2
    rw [← e2.1]
    exact HTA2.out⟩

set_option maxHeartbeats 2000000 in
set_option maxRecDepth 100000 in
theorem mat8T (T : Nat) (b off ln lcap q R C : Nat) (xs : List Int) (w : World) (hT : TakerAt w T (some ⟨b, off, none⟩) ln lcap q) (hx : Elems .i8 w (some ⟨b, off, none⟩) ln xs) (hcap : ln ≤ lcap) (hcap2 : lcap ≤ 9223372036854775807) (hR : 0 < R) (hC : 0 < C) (hle : q + R * C ≤ ln) (hs : ln ≤ 1000000) :
    Calls Tryz.prog 59 #[.pointer (some ⟨T, 0, none⟩), .int .i64 R, .int .i64 C] w fun e w' => TookG w T (some ⟨b, off, none⟩) ln lcap q R C ((xs.drop q).take (R * C)) e w' ∧ ∀ g : Gr, e = .returned (.agg #[.int .i64 g.r, .int .i64 g.c, .slice g.a g.n g.cap]) → ThA w' g.a := by
  obtain ⟨n, hn⟩ : ∃ n, R * C = n := ⟨_, rfl⟩
  have hn0 : 0 < n := by rw [← hn]; exact Nat.mul_pos hR hC
  have hR1 : R ≤ 1000000 := by have := Nat.le_mul_of_pos_right R hC; omega
  have hC1 : C ≤ 1000000 := by have := Nat.le_mul_of_pos_left C hR; omega
  rw [hn] at hle
  have HN := Lib.hid hn
  have e1 : (R : Int) * (C : Int) = (n : Int) := by rw [← hn]; push_cast; rfl
  unfold TookG
  rw [hn]
  have hB : ∀ o, Below w.heap.size w (w.alloc o) := fun o => (Below.refl _ _).alloc (Nat.le_refl _) o
  have cK : ∀ o, Calls Tryz.prog 60 #[.pointer (some ⟨T, 0, none⟩), .int .i64 n] (w.alloc o) fun e w' => Took (w.alloc o) T (some ⟨b, off, none⟩) ln lcap q n ((xs.drop q).take n) e w' ∧ ∀ g : Rw, e = .returned (.slice g.a g.n g.cap) → ThA w' g.a := fun o =>
    take8T T b off ln lcap q n xs (w.alloc o) (Box.bel hT (hB o)) (hx.below (hB o)) hcap hcap2 hn0 hle hs
  have HTLT : Hid (T < w.heap.size) := Lib.hid hT.lt
  have hBl := hB
  clear hT hx hn
  go_enter Tryz.func59, Tryz.ntmps59
  go_wp2_with fail
  refine (cK _).mono ?_
  rintro e w1 ⟨⟨⟨g, rfl, hgi, hgv, hgn, hgb⟩, hT1, hw1⟩, hth⟩
  have HTA : Hid (ThA w1 g.a) := Lib.hid (hth g rfl)
  clear hth
  have HG := Lib.hid hgi
  have HGV := Lib.hid hgv
  have HGN := Lib.hid hgn
  have HGB := Lib.hid hgb
  have HT1 := Lib.hid hT1
  have HW1 := Lib.hid hw1
  have XM := Box.kept (box_new w 47 #[.int .i64 0, .int .i64 0, .slice none 0 0]) hw1 (by have := HTLT.out; simp; omega)
  clear hgi hgv hgn hgb hT1 hw1 cK hB
  go_wp2_with (refine wpList_store_row (o := ⟨none, .store _ _ _, _, _, _, _⟩) rfl 47 _ _ rfl w.heap.size #[.int .i64 R, .int .i64 C, .slice g.a g.n g.cap] rfl rfl 47 _ XM (by kernel_rfl) rfl (by simp [Value.oneCell']) ?_)
  have gS := grownBy_setRow w1 w.heap.size #[.int .i64 R, .int .i64 C, .slice g.a g.n g.cap]
  have X2 := XM.setRow (cs' := #[.int .i64 R, .int .i64 C, .slice g.a g.n g.cap])
  have hTl := HTLT.out
  have hT2 : TakerAt (w1.setRow w.heap.size #[.int .i64 R, .int .i64 C, .slice g.a g.n g.cap]) T (some ⟨b, off, none⟩) ln lcap (q + n) := Box.setRow_other HT1.out (by omega)
  have hG2 : g.In .i8 (w1.setRow w.heap.size #[.int .i64 R, .int .i64 C, .slice g.a g.n g.cap]) := rw_kept HG.out HGB.out (fun k hk hl => gS.block k hl (by simp at hk ⊢; omega))
  have hs2 : w.heap.size ≤ w1.heap.size := Nat.le_trans (by simp) HW1.out.size
  have hW2 : w.grownBy (w1.setRow w.heap.size #[.int .i64 R, .int .i64 C, .slice g.a g.n g.cap]) (some T) :=
    ⟨HW1.out.os, HW1.out.tape, HW1.out.output, Nat.le_trans hs2 gS.size, fun k hk hne => (gS.block k (Nat.lt_of_lt_of_le hk hs2) (by simp; omega)).trans ((HW1.out.block k (by simp; omega) hne).trans ((hBl _).block k hk))⟩
  exact bodyPost_ret (v := .agg #[.int .i64 R, .int .i64 C, .slice g.a g.n g.cap]) (results_row rfl rfl X2 Tryz.underlying47 rfl (by kernel_rfl)) rfl
    ⟨⟨⟨⟨R, C, g.a, g.n, g.cap, g.v⟩, rfl, ⟨hG2.1, hG2.2.1, hG2.2.2.1, hG2.2.2.2, by show -9223372036854775808 ≤ (R : Int); omega, by show (R : Int) ≤ 9223372036854775807; omega, by show -9223372036854775808 ≤ (C : Int); omega, by show (C : Int) ≤ 9223372036854775807; omega⟩, HGV.out, ⟨rfl, rfl, by rw [HN.out]; exact HGN.out⟩, fun x hx => Nat.le_trans (by simp) (HGB.out x hx)⟩, hT2, hW2⟩, fun g' e => by
      have e2 : g.a = g'.a := by simp at e; exact e.2.2.1
      rw [← e2]
      exact HTA.out.but XM (by decide) (but_grown gS)⟩

end Go.Proofs.YtoeihigdndkjeaaGreatDoor

/-
  The document's Of: its rows lie in new blocks, and may be stored into.
-/
namespace Go.Proofs.YtoeihigdndkjeaaGreatDoor
open Go.RowKit Go.Shelf
set_option linter.unusedVariables false

/-- all rows of weights lie from a block on -/
def WFresh (B : Nat) (W : Wt7) : Prop := (∀ x, W.e.a = some x → B ≤ x.block) ∧ (∀ x, W.hd.a = some x → B ≤ x.block) ∧ (∀ x, W.t.a = some x → B ≤ x.block) ∧ (∀ x, W.ba = some x → B ≤ x.block) ∧ ∀ b ∈ W.bs, Bk7.Own B b
theorem Bk7.Own.mono {B B' : Nat} {b : Bk7} (h : Bk7.Own B b) (hb : B' ≤ B) : Bk7.Own B' b := by
  obtain ⟨h1, h2, h3, h4, h5, h6, h7, h8⟩ := h
  exact ⟨fun x hx => Nat.le_trans hb (h1 x hx), fun x hx => Nat.le_trans hb (h2 x hx), fun x hx => Nat.le_trans hb (h3 x hx), fun x hx => Nat.le_trans hb (h4 x hx), fun x hx => Nat.le_trans hb (h5 x hx), fun x hx => Nat.le_trans hb (h6 x hx), fun x hx => Nat.le_trans hb (h7 x hx), fun x hx => Nat.le_trans hb (h8 x hx)⟩
theorem WFresh.mono {B B' : Nat} {W : Wt7} (h : WFresh B W) (hb : B' ≤ B) : WFresh B' W :=
  ⟨fun x hx => Nat.le_trans hb (h.1 x hx), fun x hx => Nat.le_trans hb (h.2.1 x hx), fun x hx => Nat.le_trans hb (h.2.2.1 x hx), fun x hx => Nat.le_trans hb (h.2.2.2.1 x hx), fun b hb' => (h.2.2.2.2 b hb').mono hb⟩
/-- what Of answers: right weights of the shape, of these numbers, in new blocks -/
def OfWF (s : Sz) (xs : List Int) (B : Nat) (w : World) (e : Ending) : Prop :=
  ∃ W : Wt7, e = .returned (.agg W.cells) ∧ W.In w ∧ (W.l = s.l ∧ W.w = s.w ∧ W.h = s.h ∧ W.i = s.i ∧ W.v = s.v ∧ W.p = s.p) ∧ wtB s W = true ∧ W.nums s = wnOf s xs ∧ WFresh B W ∧ WThaw w W
theorem EdS.tookF {s : Sz} {W0 w w' : World} {n0 : Nat} {la : Option Addr} {ln lcap q n k : Nat} {cb : Array Value} {V : Value} {bs : List Bk7} {rs : List Rw} {gs : List Gr} (h : EdS s la ln lcap n0 W0 q cb V k bs rs gs w) {ys : List Int} {e : Ending} (t : Took w (n0 + 2) la ln lcap q n ys e w') :
    ∃ g : Rw, e = .returned (.slice g.a g.n g.cap) ∧ g.v = ys ∧ g.n = n ∧ (∀ x, g.a = some x → w.heap.size ≤ x.block) ∧ EdS s la ln lcap n0 W0 (q + n) cb V k bs (g :: rs) gs w' := by
  obtain ⟨⟨g, he, hi, hv, hn, hb⟩, ht, hw⟩ := t
  exact ⟨g, he, hv, hn, hb, h.step ht hw [g] [] (by simpa using hi) (by simp)⟩

/-- a block more -/
theorem LpS.nextT {s : Sz} {xs : List Int} {la : Option Addr} {ln lcap n0 : Nat} {W0 : World} {e : Gr} {k : Nat} {V : Value} {bs : List Bk7} {wr w : World} {gB : Nat} {b : Bk7} {rs : List Rw} {gs : List Gr}
    (h : LpS s xs la ln lcap n0 W0 e k V bs wr) (hs : RdS wr (n0 + 2) gB la ln lcap (s.v * s.w + k * blkN s + blkN s) b.cells rs gs w) (hx : b.x ∈ rs ∧ b.y ∈ rs) (hg : b.q ∈ gs ∧ b.k ∈ gs ∧ b.v ∈ gs ∧ b.o ∈ gs ∧ b.u ∈ gs ∧ b.d ∈ gs)
    (hb : bkB s b = true) (hn : b.blk = blkOf s xs (s.v * s.w + k * blkN s)) (hk : k ≤ 1000) :
    ∃ V' w2, Sem.run Tryz.prog (Builtin.append_ #[48, 48] 48 #[V, .slice (some ⟨w.heap.size, 0, none⟩) 1 1]) (w.alloc (.cells b.cells 66)) = .ok V' w2 ∧
      Box w2 (n0 + 3) 50 (ofCells s.l s.w s.h s.i s.v s.p e V) ∧ LpS s xs la ln lcap n0 W0 e (k + 1) V' (bs ++ [b]) (w2.setCell ⟨n0 + 3, 9, none⟩ V') ∧ ∀ ls, Ths w ls → Ths (w2.setCell ⟨n0 + 3, 9, none⟩ V') ls := by
  have hne2 : V.ownBlock ≠ some (n0 + 2) := own_ne h.own (by omega)
  have hbase : n0 + 4 ≤ wr.heap.size := by have := h.ws.lt; omega
  have hle := hs.grow.size
  have hown := h.own.kept hs.grow (.inr hne2)
  have hk2 := but_grown hs.grow
  have e1 : e.In8 w := gr_but h.tk no8_taker hk2 h.e8
  have b1 : ∀ c ∈ bs, c.In w := fun c hc => bk_but h.tk no8_taker hk2 (h.bin c hc).1
  have bb : b.In w := ⟨hs.rows _ hx.1, hs.rows _ hx.2, hs.mats _ hg.1, hs.mats _ hg.2.1, hs.mats _ hg.2.2.1, hs.mats _ hg.2.2.2.1, hs.mats _ hg.2.2.2.2.1, hs.mats _ hg.2.2.2.2.2⟩
  have hvl : ∀ j, V.ownBlock = some j → j < wr.heap.size := fun j hj => (h.own.lt j hj).2
  have bap : ApB V b := by
    have r1 : ∀ r ∈ rs, ApR V r := fun r hr => apR_new (hs.rnew r hr) hvl
    have r2 : ∀ g ∈ gs, ApR V g.row := fun g hg => apR_new (r := g.row) (hs.gnew g hg) hvl
    exact ⟨r1 _ hx.1, r1 _ hx.2, r2 _ hg.1, r2 _ hg.2.1, r2 _ hg.2.2.1, r2 _ hg.2.2.2.1, r2 _ hg.2.2.2.2.1, r2 _ hg.2.2.2.2.2⟩
  obtain ⟨V', w2, hrun, ho, hgr, hvb⟩ := run_append_block w (n0 + 4) V k bs b hown hk (by omega)
  have k3 : ∀ {g : Nat} {T : TypeId} {cs : Array Value}, Box wr g T cs → g < n0 + 4 → g ≠ n0 + 2 → Box w2 g T cs := fun hB hlt hne => (hB.kept hs.grow (by simpa using hne)).kept hgr (own_ne hown hlt).symm
  have X3 := k3 h.ws (by omega) (by omega)
  have hk3 : But (n0 + 3) w2 (w2.setCell ⟨n0 + 3, 9, none⟩ V') := fun k hk hne => Below.heap_setCell w2 ⟨n0 + 3, 9, none⟩ V' k hne
  have tk2 : TakerAt w2 (n0 + 2) la ln lcap (s.v * s.w + k * blkN s + blkN s) := Box.kept hs.tk hgr (own_ne hown (by omega)).symm
  have e2 := gr_ap (v := V) e1 h.eap hgr
  obtain ⟨Va, Vn, Vc, hV⟩ : ∃ a n c, V = .slice a n c := by
    rcases hown.2 with ⟨h1, _⟩ | ⟨g, cap, cur, h1, _⟩
    · exact ⟨none, 0, 0, h1⟩
    · exact ⟨_, k, cap, h1⟩
  have n8V : No8 (ofCells s.l s.w s.h s.i s.v s.p e V) := by rw [hV]; exact no8_of9
  have HBel : Below n0 W0 w2 := (h.bel.grown hs.grow (by omega) (fun j hj => by simp at hj; omega)).grown hgr (by omega) (fun j hj => by have := (hown.lt j hj).1; omega)
  have hvb2 : V'.ownBlock = V.ownBlock ∨ V'.ownBlock = some (w.heap.size + 1) := hvb
  have hth : ∀ ls, Ths w ls → Ths (w2.setCell ⟨n0 + 3, 9, none⟩ V') ls := fun ls has => by
    have h2 : Ths w2 ls := fun a ha x hx => by
      obtain ⟨c, hc⟩ := has a ha x hx
      exact ⟨c, (hgr.block x.block hc.lt (fun e => IsT.ne ⟨c, (0, 0), hc⟩ (own_isT hown e.symm) (by decide) rfl)).trans hc⟩
    exact h2.but X3 (by decide) hk3
  refine ⟨V', w2, hrun, X3, ⟨?_, ?_, ?_, ?_, ?_, ?_, ?_, by rw [List.length_append, h.len]; rfl, ?_, HBel.setCell (by show n0 ≤ n0 + 3; omega) V', h.ev, ?_⟩, hth⟩
  · exact (k3 h.sh (by omega) (by omega)).other V' (by omega)
  · exact (k3 h.rz (by omega) (by omega)).other V' (by omega)
  · rw [Nat.add_mul, Nat.one_mul, ← Nat.add_assoc]
    exact Box.but tk2 hk3 (by omega)
  · exact X3.set 9 V'
  · exact gr_but X3 n8V hk3 e2
  · exact apR_step e1.row h.eap hvb2 (by omega)
  · exact ownsRow_setCell_below ho (by show n0 + 3 < n0 + 4; omega) V'
  · intro c hc
    rcases List.mem_append.1 hc with h1 | h1
    · obtain ⟨_, c2, c3⟩ := h.bin c h1
      exact ⟨bk_but X3 n8V hk3 (bk_ap (b1 c h1) c2 hgr), apB_step (b1 c h1) c2 hvb2 (by omega), c3⟩
    · obtain rfl := List.mem_singleton.1 h1
      exact ⟨bk_but X3 n8V hk3 (bk_ap bb bap hgr), apB_step bb bap hvb2 (by omega), hb⟩
  · intro i hi
    by_cases e9 : i < k
    · rw [List.getD_eq_getElem?_getD, List.getElem?_append_left (by rw [h.len]; exact e9), ← List.getD_eq_getElem?_getD]
      exact h.num i e9
    · obtain rfl : i = k := by omega
      rw [List.getD_eq_getElem?_getD, List.getElem?_append_right (by rw [h.len]; exact Nat.le_refl _), h.len, Nat.sub_self]
      exact hn

/-- right weights, put together -/
theorem of_madeF {s : Sz} {xs : List Int} {w : World} (ok : s.Ok) {ge gh : Gr} {gt : Rw} {Va : Option Addr} {Vc : Nat} {bs : List Bk7} (he : ge.In8 w) (hh : gh.In8 w) (ht : gt.In .i8 w) (hb : BksAt w Va s.l bs) (hc : s.l ≤ Vc ∧ Vc ≤ 9223372036854775807)
    (e1 : ge.v = cutL xs 0 (s.v * s.w) ∧ matB8 s.v s.w ge) (e2 : gt.v = cutL xs (s.v * s.w + s.l * blkN s) s.w ∧ gt.n = s.w) (e3 : gh.v = cutL xs (s.v * s.w + s.l * blkN s + s.w) (s.v * s.w) ∧ matB8 s.v s.w gh)
    (hbk : ∀ b ∈ bs, bkB s b = true) (B : Nat) (fr : (∀ x, ge.a = some x → B ≤ x.block) ∧ (∀ x, gh.a = some x → B ≤ x.block) ∧ (∀ x, gt.a = some x → B ≤ x.block) ∧ (∀ x, Va = some x → B ≤ x.block) ∧ ∀ b ∈ bs, Bk7.Own B b) (th : Ths w (ge.a :: gh.a :: gt.a :: bs.flatMap Bk7.adrs) ∧ ThT 66 w Va) (hbn : ∀ i, i < s.l → (bs.getD i default).blk = blkOf s xs (s.v * s.w + i * blkN s)) :
    OfWF s xs B w (.returned (.agg (Wt7.cells ⟨s.l, s.w, s.h, s.i, s.v, s.p, ge, Va, s.l, Vc, bs, gt, gh⟩))) := by
  have bd := ok.bd
  refine ⟨_, rfl, ⟨he, hh, ht, hb, hc.1, hc.2, ⟨by show -9223372036854775808 ≤ (s.l : Int); omega, by show (s.l : Int) ≤ 9223372036854775807; omega⟩, ⟨by show -9223372036854775808 ≤ (s.w : Int); omega, by show (s.w : Int) ≤ 9223372036854775807; omega⟩, ⟨by show -9223372036854775808 ≤ (s.h : Int); omega, by show (s.h : Int) ≤ 9223372036854775807; omega⟩⟩, ⟨rfl, rfl, rfl, rfl, rfl, rfl⟩, ?_, ?_, fr, th⟩
  · unfold wtB
    simp only [List.all_cons, List.all_nil, Bool.and_true, Bool.and_eq_true, decide_eq_true_eq, List.all_eq_true]
    exact ⟨⟨mat_is e1.2, mat_is e3.2⟩, e2.2, trivial, hbk⟩
  · unfold Wt7.nums wnOf
    simp only [e1.1, e2.1, e3.1]
    congr 1
    apply List.ext_getElem (by simp [hb.1])
    intro i h1 h2
    have h3 : i < bs.length := by simpa using h1
    have := hbn i (by rw [← hb.1]; exact h3)
    rw [List.getD_eq_getElem?_getD, List.getElem?_eq_getElem h3] at this
    simpa using this

set_option maxHeartbeats 16000000 in
set_option maxRecDepth 100000 in
theorem ofF (s : Sz) (ok : s.Ok) (b off ln lcap : Nat) (xs : List Int) (w : World) (hx : Elems .i8 w (some ⟨b, off, none⟩) ln xs) (hln : ln = cnt s) (hcap : ln ≤ lcap) (hcap2 : lcap ≤ 9223372036854775807) (hs : ln ≤ 1000000) :
    Calls Tryz.prog 33 #[s.val, .slice (some ⟨b, off, none⟩) ln lcap] w fun e w' => OfWF s xs w.heap.size w' e ∧ Below w.heap.size w w' := by
  have bd := ok.bd
  have hl1 : 1 ≤ s.l := bd.1.1
  have hl16 : s.l ≤ 16 := bd.1.2
  have hw1 : 0 < s.w := by omega
  have hv1 : 0 < s.v := by omega
  have hi1 : 0 < s.i := by omega
  have HCN : Hid (ln = s.v * s.w + s.l * blkN s + s.w + s.v * s.w) := Lib.hid (by rw [hln, cnt_blk])
  have HLE : Hid (∀ k, k < s.l → s.v * s.w + k * blkN s + blkN s + s.w + s.v * s.w ≤ ln) := Lib.hid (by rw [hln]; exact blk_le s)
  have HBN : Hid (blkN s = 2 * s.w + 4 * (s.w * s.w) + 2 * (s.i * s.w)) := Lib.hid rfl
  have HWI : Hid (s.w * s.i = s.i * s.w) := Lib.hid (Nat.mul_comm _ _)
  have HX := Lib.hid hx
  have OK := Lib.hid ok
  have HXB : Hid (∀ V, Below w.heap.size w V → Elems .i8 V (some ⟨b, off, none⟩) ln xs) := Lib.hid fun V hV => hx.below hV
  have cT : ∀ V q n, TakerAt V (w.heap.size + 2) (some ⟨b, off, none⟩) ln lcap q → Below w.heap.size w V → 0 < n → q + n ≤ ln → Calls Tryz.prog 60 #[.pointer (some ⟨w.heap.size + 2, 0, none⟩), .int .i64 n] V fun e w' => Took V (w.heap.size + 2) (some ⟨b, off, none⟩) ln lcap q n ((xs.drop q).take n) e w' ∧ ∀ g : Rw, e = .returned (.slice g.a g.n g.cap) → ThA w' g.a :=
    fun V q n h1 h2 h3 h4 => take8T _ b off ln lcap q n xs V h1 (hx.below h2) hcap hcap2 h3 h4 hs
  have cG : ∀ V q R C, TakerAt V (w.heap.size + 2) (some ⟨b, off, none⟩) ln lcap q → Below w.heap.size w V → 0 < R → 0 < C → q + R * C ≤ ln → Calls Tryz.prog 59 #[.pointer (some ⟨w.heap.size + 2, 0, none⟩), .int .i64 R, .int .i64 C] V fun e w' => TookG V (w.heap.size + 2) (some ⟨b, off, none⟩) ln lcap q R C ((xs.drop q).take (R * C)) e w' ∧ ∀ g : Gr, e = .returned (.agg #[.int .i64 g.r, .int .i64 g.c, .slice g.a g.n g.cap]) → ThA w' g.a :=
    fun V q R C h1 h2 h3 h4 h5 => mat8T _ b off ln lcap q R C xs V h1 (hx.below h2) hcap hcap2 h3 h4 h5 hs
  have CT := Lib.hid cT
  have CG := Lib.hid cG
  clear cT cG hx hln ok bd
  unfold Sz.val shv
  go_enter Tryz.func33, Tryz.ntmps33
  go_upto_region 2 with (fail)
  generalize hwa : World.alloc _ _ = wa
  have SH : Box wa w.heap.size 45 #[.int .i64 s.l, .int .i64 s.w, .int .i64 s.h, .int .i64 s.i, .int .i64 s.v, .int .i64 s.p] := by rw [← hwa]; exact ((box_new _ _ _).alloc _).alloc _
  have RZ : Box wa (w.heap.size + 1) 50 zwts := by rw [← hwa]; exact (box_at (by simp) _ _).alloc _
  have TK : TakerAt wa (w.heap.size + 2) (some ⟨b, off, none⟩) ln lcap 0 := by rw [← hwa]; exact box_at (by simp) _ _
  have HB : Below w.heap.size w wa := by rw [← hwa]; exact (((Below.refl _ _).alloc (Nat.le_refl _) _).alloc (by simp) _).alloc (by simp; omega) _
  have hsz : wa.heap.size = w.heap.size + 3 := by rw [← hwa]; simp
  clear hwa
  rw [show w.heap.size + 1 + 1 = w.heap.size + 2 from rfl]
  go_upto_region 3 with (first
    | (refine wpList_load_row rfl 45 _ rfl w.heap.size rfl 45 _ (0, 0) _ SH Tryz.underlying45 rfl (by kernel_rfl) ?_)
    | (refine wpList_store_row (o := ⟨none, .store _ _ _, _, _, _, _⟩) rfl 50 _ _ rfl (w.heap.size + 3) (#[.int .i64 s.l, .int .i64 s.w, .int .i64 s.h, .int .i64 s.i, .int .i64 s.v, .int .i64 s.p, .int .i64 0, .int .i64 0, .slice none 0 0, .slice none 0 0, .slice none 0 0, .int .i64 0, .int .i64 0, .slice none 0 0]) rfl rfl 50 _ (box_at hsz.symm _ _) (by kernel_rfl) rfl (by simp [Value.oneCell']) ?_))
  generalize hwb : World.setRow _ _ _ = wb
  have ED : EdS s (some ⟨b, off, none⟩) ln lcap w.heap.size w 0 (ofCells s.l s.w s.h s.i s.v s.p ⟨0, 0, none, 0, 0, []⟩ (.slice none 0 0)) (.slice none 0 0) 0 [] [] [] wb := by
    rw [← hwb]
    exact ⟨(SH.alloc _).setRow_other (by omega), (RZ.alloc _).setRow_other (by omega), Box.setRow_other (Box.alloc TK _) (by omega), (box_at hsz.symm _ _).setRow, no8_of9, World.ownsRow_nil _ _ _ _, by simp, by simp, by simp, below_setRow (HB.alloc (by omega) _) (by omega) (by simp; omega)⟩
  clear hwb SH RZ TK HB hsz
  have z1 : wb.cell? ⟨w.heap.size, 1, none⟩ = some (.int .i64 s.w) := ED.sh.cell 1
  have z4 : wb.cell? ⟨w.heap.size, 4, none⟩ = some (.int .i64 s.v) := ED.sh.cell 4
  have c1 := CG.out wb 0 s.v s.w ED.tk ED.bel hv1 hw1 (by have := HCN.out; omega)
  have HED := Lib.hid ED
  clear ED
  go_wp2_with fail
  refine c1.mono ?_
  rintro e w1 ⟨ht, hth⟩
  obtain ⟨ge, rfl, hev, hem, heb, ED1⟩ := HED.out.tookG ht
  have HEV := Lib.hid hev
  have HEM := Lib.hid hem
  have HTH : Hid (Ths w1 [ge.a]) := Lib.hid (Ths.cons (fun a ha => absurd ha (by simp)) (hth ge rfl))
  have HEB : Hid (∀ x, ge.a = some x → w.heap.size ≤ x.block) := Lib.hid fun x hx => Nat.le_trans HED.out.bel.size (heb x hx)
  have HED1 := Lib.hid ED1
  have y6 : w1.cell? ⟨w.heap.size + 3, 6, none⟩ = some (.int .i64 0) := ED1.ws.cell 6
  have y7 : w1.cell? ⟨w.heap.size + 3, 7, none⟩ = some (.int .i64 0) := ED1.ws.cell 7
  have y8 : w1.cell? ⟨w.heap.size + 3, 8, none⟩ = some (.slice none 0 0) := ED1.ws.cell 8
  have yf := ED1.ws.frozen
  clear hev hem heb ED1 ht hth c1 z1 z4 HED
  go_upto_region 5 with (fail)
  generalize hw2 : World.setCell _ _ _ = w2
  have ED2 : EdS s (some ⟨b, off, none⟩) ln lcap w.heap.size w (0 + s.v * s.w) (ofCells s.l s.w s.h s.i s.v s.p ge (.slice none 0 0)) (.slice none 0 0) 0 [] [] [ge] w2 := by
    rw [← hw2]
    exact ((HED1.out.put 6 _ rfl (no8_of (by simp))).put 7 _ rfl (no8_of (by simp))).put 8 _ rfl no8_of9
  have HTH2 : Hid (Ths w2 (ge.a :: ([] : List Bk7).flatMap Bk7.adrs)) := Lib.hid (by rw [← hw2]; exact HTH.out.but HED1.out.ws (by decide) ((((but_refl _ _).set _ _).set _ _).set _ _))
  clear HTH
  clear hw2 y6 y7 y8 yf HED1
  have L0 : Hid (LpS s xs (some ⟨b, off, none⟩) ln lcap w.heap.size w ge 0 (.slice none 0 0) [] w2) := Lib.hid ⟨ED2.sh, ED2.rz, by rw [Nat.zero_mul, Nat.add_zero]; have := ED2.tk; rwa [Nat.zero_add] at this, ED2.ws, ED2.mats _ (by simp), fun x hx hn => by simp [Value.ownBlock], ED2.own, rfl, by simp, ED2.bel, ⟨HEV.out, HEM.out⟩, fun i hi => absurd hi (by omega)⟩
  clear ED2 HEV HEM
  go_loopw [7] (fun i wr => ∃ (k : Nat) (V : Value) (bs : List Bk7), k ≤ s.l ∧ i = .int .i64 k ∧ Hid (LpS s xs (some ⟨b, off, none⟩) ln lcap w.heap.size w ge k V bs wr) ∧ Hid (∀ c ∈ bs, Bk7.Own w.heap.size c) ∧ Hid (Ths wr (ge.a :: bs.flatMap Bk7.adrs))) (fun i _ => s.l - (intOf i).toNat)
  case atStart => exact ⟨0, _, [], by omega, rfl, L0, Lib.hid (by simp), HTH2⟩
  case round =>
    clear L0 HTH2
    obtain ⟨k, V, bs, hk, rfl, hL, hOw, hTh⟩ := hrel
    have z0 : wr.cell? ⟨w.heap.size, 0, none⟩ = some (.int .i64 s.l) := hL.out.sh.cell 0
    by_cases hlt : k < s.l
    · have hgT : w.heap.size + 2 < wr.heap.size := hL.out.tk.lt
      go_upto_region 8 with (first
        | (refine wpList_store_row (o := ⟨none, .store _ _ _, _, _, _, _⟩) rfl 66 _ _ rfl wr.heap.size (#[.slice none 0 0, .slice none 0 0, .int .i64 0, .int .i64 0, .slice none 0 0, .int .i64 0, .int .i64 0, .slice none 0 0, .int .i64 0, .int .i64 0, .slice none 0 0, .int .i64 0, .int .i64 0, .slice none 0 0, .int .i64 0, .int .i64 0, .slice none 0 0, .int .i64 0, .int .i64 0, .slice none 0 0]) rfl rfl 66 _ (box_new _ _ _) (by kernel_rfl) rfl (by simp [Value.oneCell']) ?_))
      generalize hv : World.setRow _ _ _ = v0
      have RD : RdS wr (w.heap.size + 2) wr.heap.size (some ⟨b, off, none⟩) ln lcap (s.v * s.w + k * blkN s) (#[.slice none 0 0, .slice none 0 0, .int .i64 0, .int .i64 0, .slice none 0 0, .int .i64 0, .int .i64 0, .slice none 0 0, .int .i64 0, .int .i64 0, .slice none 0 0, .int .i64 0, .int .i64 0, .slice none 0 0, .int .i64 0, .int .i64 0, .slice none 0 0, .int .i64 0, .int .i64 0, .slice none 0 0]) [] [] v0 := by
        rw [← hv]
        exact ⟨grown_new wr _ _ _, Box.setRow_other (Box.alloc hL.out.tk _) (by omega), (box_new _ _ _).setRow, no8_of (by simp), Nat.le_refl _, hgT, by simp, by simp, by simp, by simp⟩
      have HRD := Lib.hid RD
      obtain ⟨g, hg⟩ : ∃ g, wr.heap.size = g := ⟨_, rfl⟩
      have HG := Lib.hid hg
      rw [hg] at HRD ⊢
      clear RD hv hg z0
      have HSH : Hid (∀ W, wr.grownBy W (some (w.heap.size + 2)) → Box W w.heap.size 45 #[.int .i64 s.l, .int .i64 s.w, .int .i64 s.h, .int .i64 s.i, .int .i64 s.v, .int .i64 s.p]) := Lib.hid fun W hW => hL.out.sh.kept hW (by simp)
      have HBL : Hid (∀ W, wr.grownBy W (some (w.heap.size + 2)) → Below w.heap.size w W) := Lib.hid fun W hW => hL.out.bel.grown hW (by have := hL.out.bel.size; omega) (fun j hj => by simp at hj; omega)
      have HLK := Lib.hid (HLE.out k hlt)
      have z1 : v0.cell? ⟨w.heap.size, 1, none⟩ = some (.int .i64 s.w) := (HSH.out _ HRD.out.grow).cell 1
      have c1 := CT.out v0 (s.v * s.w + k * blkN s) s.w HRD.out.tk (HBL.out _ HRD.out.grow) hw1 (by have := HLK.out; have := HBN.out; have := HWI.out; omega)
      go_wp2_with fail
      refine c1.mono ?_
      rintro e a0 ⟨ht, hth⟩
      obtain ⟨gx, rfl, hv0, hm0, RD1⟩ := HRD.out.took ht
      have HTS : Hid (Ths a0 [gx.a]) := Lib.hid (Ths.cons (fun a ha => absurd ha (by simp)) (hth gx rfl))
      have HV0 := Lib.hid hv0
      have HM0 := Lib.hid hm0
      have HRD1 := Lib.hid RD1
      have y0 : a0.cell? ⟨g, 0, none⟩ = some (.slice none 0 0) := RD1.bk.cell 0
      have yf := RD1.bk.frozen
      clear hv0 hm0 RD1 ht hth c1 HRD z1
      go_upto_region 9 with (fail)
      generalize hw2 : World.setCell _ _ _ = v1
      have HTS2 : Hid (Ths v1 [gx.a]) := Lib.hid (by rw [← hw2]; exact HTS.out.but HRD1.out.bk (by decide) ((but_refl _ _).set _ _))
      clear HTS
      have HTS := HTS2
      clear HTS2
      have HRD : Hid (RdS wr (w.heap.size + 2) g (some ⟨b, off, none⟩) ln lcap (s.v * s.w + k * blkN s + s.w) (#[.slice gx.a gx.n gx.cap, .slice none 0 0, .int .i64 0, .int .i64 0, .slice none 0 0, .int .i64 0, .int .i64 0, .slice none 0 0, .int .i64 0, .int .i64 0, .slice none 0 0, .int .i64 0, .int .i64 0, .slice none 0 0, .int .i64 0, .int .i64 0, .slice none 0 0, .int .i64 0, .int .i64 0, .slice none 0 0]) (gx :: []) ([]) v1) := Lib.hid (by rw [← hw2]; exact (HRD1.out.put 0 _ rfl (no8_of (by simp))))
      clear hw2 yf HRD1 y0
      have z1 : v1.cell? ⟨w.heap.size, 1, none⟩ = some (.int .i64 s.w) := (HSH.out _ HRD.out.grow).cell 1
      have c1 := CG.out v1 (s.v * s.w + k * blkN s + s.w) s.w s.w HRD.out.tk (HBL.out _ HRD.out.grow) hw1 hw1 (by have := HLK.out; have := HBN.out; have := HWI.out; omega)
      go_wp2_with fail
      refine c1.mono ?_
      rintro e a1 ⟨ht, hth⟩
      obtain ⟨gq, rfl, hv1, hm1, RD1⟩ := HRD.out.tookG ht
      have HTS2 : Hid (Ths a1 (gq.a :: [gx.a])) := Lib.hid (Ths.cons (HTS.out.took HRD.out.tk ht.2.2) (hth gq rfl))
      clear HTS
      have HTS := HTS2
      clear HTS2
      have HV1 := Lib.hid hv1
      have HM1 := Lib.hid hm1
      have HRD1 := Lib.hid RD1
      have y2 : a1.cell? ⟨g, 2, none⟩ = some (.int .i64 0) := RD1.bk.cell 2
      have y3 : a1.cell? ⟨g, 3, none⟩ = some (.int .i64 0) := RD1.bk.cell 3
      have y4 : a1.cell? ⟨g, 4, none⟩ = some (.slice none 0 0) := RD1.bk.cell 4
      have yf := RD1.bk.frozen
      clear hv1 hm1 RD1 ht hth c1 HRD z1
      go_upto_region 10 with (fail)
      generalize hw2 : World.setCell _ _ _ = v2
      have HTS2 : Hid (Ths v2 [gq.a, gx.a]) := Lib.hid (by rw [← hw2]; exact HTS.out.but HRD1.out.bk (by decide) ((((but_refl _ _).set _ _).set _ _).set _ _))
      clear HTS
      have HTS := HTS2
      clear HTS2
      have HRD : Hid (RdS wr (w.heap.size + 2) g (some ⟨b, off, none⟩) ln lcap (s.v * s.w + k * blkN s + s.w + s.w * s.w) (#[.slice gx.a gx.n gx.cap, .slice none 0 0, .int .i64 gq.r, .int .i64 gq.c, .slice gq.a gq.n gq.cap, .int .i64 0, .int .i64 0, .slice none 0 0, .int .i64 0, .int .i64 0, .slice none 0 0, .int .i64 0, .int .i64 0, .slice none 0 0, .int .i64 0, .int .i64 0, .slice none 0 0, .int .i64 0, .int .i64 0, .slice none 0 0]) (gx :: []) (gq :: []) v2) := Lib.hid (by rw [← hw2]; exact (((HRD1.out.put 2 _ rfl (no8_of (by simp))).put 3 _ rfl (no8_of (by simp))).put 4 _ rfl (no8_of (by simp))))
      clear hw2 yf HRD1 y2 y3 y4
      have z1 : v2.cell? ⟨w.heap.size, 1, none⟩ = some (.int .i64 s.w) := (HSH.out _ HRD.out.grow).cell 1
      have c1 := CG.out v2 (s.v * s.w + k * blkN s + s.w + s.w * s.w) s.w s.w HRD.out.tk (HBL.out _ HRD.out.grow) hw1 hw1 (by have := HLK.out; have := HBN.out; have := HWI.out; omega)
      go_wp2_with fail
      refine c1.mono ?_
      rintro e a2 ⟨ht, hth⟩
      obtain ⟨gk, rfl, hv2, hm2, RD1⟩ := HRD.out.tookG ht
      have HTS2 : Hid (Ths a2 (gk.a :: [gq.a, gx.a])) := Lib.hid (Ths.cons (HTS.out.took HRD.out.tk ht.2.2) (hth gk rfl))
      clear HTS
      have HTS := HTS2
      clear HTS2
      have HV2 := Lib.hid hv2
      have HM2 := Lib.hid hm2
      have HRD1 := Lib.hid RD1
      have y5 : a2.cell? ⟨g, 5, none⟩ = some (.int .i64 0) := RD1.bk.cell 5
      have y6 : a2.cell? ⟨g, 6, none⟩ = some (.int .i64 0) := RD1.bk.cell 6
      have y7 : a2.cell? ⟨g, 7, none⟩ = some (.slice none 0 0) := RD1.bk.cell 7
      have yf := RD1.bk.frozen
      clear hv2 hm2 RD1 ht hth c1 HRD z1
      go_upto_region 11 with (fail)
      generalize hw2 : World.setCell _ _ _ = v3
      have HTS2 : Hid (Ths v3 [gk.a, gq.a, gx.a]) := Lib.hid (by rw [← hw2]; exact HTS.out.but HRD1.out.bk (by decide) ((((but_refl _ _).set _ _).set _ _).set _ _))
      clear HTS
      have HTS := HTS2
      clear HTS2
      have HRD : Hid (RdS wr (w.heap.size + 2) g (some ⟨b, off, none⟩) ln lcap (s.v * s.w + k * blkN s + s.w + s.w * s.w + s.w * s.w) (#[.slice gx.a gx.n gx.cap, .slice none 0 0, .int .i64 gq.r, .int .i64 gq.c, .slice gq.a gq.n gq.cap, .int .i64 gk.r, .int .i64 gk.c, .slice gk.a gk.n gk.cap, .int .i64 0, .int .i64 0, .slice none 0 0, .int .i64 0, .int .i64 0, .slice none 0 0, .int .i64 0, .int .i64 0, .slice none 0 0, .int .i64 0, .int .i64 0, .slice none 0 0]) (gx :: []) (gk :: gq :: []) v3) := Lib.hid (by rw [← hw2]; exact (((HRD1.out.put 5 _ rfl (no8_of (by simp))).put 6 _ rfl (no8_of (by simp))).put 7 _ rfl (no8_of (by simp))))
      clear hw2 yf HRD1 y5 y6 y7
      have z1 : v3.cell? ⟨w.heap.size, 1, none⟩ = some (.int .i64 s.w) := (HSH.out _ HRD.out.grow).cell 1
      have c1 := CG.out v3 (s.v * s.w + k * blkN s + s.w + s.w * s.w + s.w * s.w) s.w s.w HRD.out.tk (HBL.out _ HRD.out.grow) hw1 hw1 (by have := HLK.out; have := HBN.out; have := HWI.out; omega)
      go_wp2_with fail
      refine c1.mono ?_
      rintro e a3 ⟨ht, hth⟩
      obtain ⟨gv, rfl, hv3, hm3, RD1⟩ := HRD.out.tookG ht
      have HTS2 : Hid (Ths a3 (gv.a :: [gk.a, gq.a, gx.a])) := Lib.hid (Ths.cons (HTS.out.took HRD.out.tk ht.2.2) (hth gv rfl))
      clear HTS
      have HTS := HTS2
      clear HTS2
      have HV3 := Lib.hid hv3
      have HM3 := Lib.hid hm3
      have HRD1 := Lib.hid RD1
      have y8 : a3.cell? ⟨g, 8, none⟩ = some (.int .i64 0) := RD1.bk.cell 8
      have y9 : a3.cell? ⟨g, 9, none⟩ = some (.int .i64 0) := RD1.bk.cell 9
      have y10 : a3.cell? ⟨g, 10, none⟩ = some (.slice none 0 0) := RD1.bk.cell 10
      have yf := RD1.bk.frozen
      clear hv3 hm3 RD1 ht hth c1 HRD z1
      go_upto_region 12 with (fail)
      generalize hw2 : World.setCell _ _ _ = v4
      have HTS2 : Hid (Ths v4 [gv.a, gk.a, gq.a, gx.a]) := Lib.hid (by rw [← hw2]; exact HTS.out.but HRD1.out.bk (by decide) ((((but_refl _ _).set _ _).set _ _).set _ _))
      clear HTS
      have HTS := HTS2
      clear HTS2
      have HRD : Hid (RdS wr (w.heap.size + 2) g (some ⟨b, off, none⟩) ln lcap (s.v * s.w + k * blkN s + s.w + s.w * s.w + s.w * s.w + s.w * s.w) (#[.slice gx.a gx.n gx.cap, .slice none 0 0, .int .i64 gq.r, .int .i64 gq.c, .slice gq.a gq.n gq.cap, .int .i64 gk.r, .int .i64 gk.c, .slice gk.a gk.n gk.cap, .int .i64 gv.r, .int .i64 gv.c, .slice gv.a gv.n gv.cap, .int .i64 0, .int .i64 0, .slice none 0 0, .int .i64 0, .int .i64 0, .slice none 0 0, .int .i64 0, .int .i64 0, .slice none 0 0]) (gx :: []) (gv :: gk :: gq :: []) v4) := Lib.hid (by rw [← hw2]; exact (((HRD1.out.put 8 _ rfl (no8_of (by simp))).put 9 _ rfl (no8_of (by simp))).put 10 _ rfl (no8_of (by simp))))
      clear hw2 yf HRD1 y8 y9 y10
      have z1 : v4.cell? ⟨w.heap.size, 1, none⟩ = some (.int .i64 s.w) := (HSH.out _ HRD.out.grow).cell 1
      have c1 := CG.out v4 (s.v * s.w + k * blkN s + s.w + s.w * s.w + s.w * s.w + s.w * s.w) s.w s.w HRD.out.tk (HBL.out _ HRD.out.grow) hw1 hw1 (by have := HLK.out; have := HBN.out; have := HWI.out; omega)
      go_wp2_with fail
      refine c1.mono ?_
      rintro e a4 ⟨ht, hth⟩
      obtain ⟨go, rfl, hv4, hm4, RD1⟩ := HRD.out.tookG ht
      have HTS2 : Hid (Ths a4 (go.a :: [gv.a, gk.a, gq.a, gx.a])) := Lib.hid (Ths.cons (HTS.out.took HRD.out.tk ht.2.2) (hth go rfl))
      clear HTS
      have HTS := HTS2
      clear HTS2
      have HV4 := Lib.hid hv4
      have HM4 := Lib.hid hm4
      have HRD1 := Lib.hid RD1
      have y11 : a4.cell? ⟨g, 11, none⟩ = some (.int .i64 0) := RD1.bk.cell 11
      have y12 : a4.cell? ⟨g, 12, none⟩ = some (.int .i64 0) := RD1.bk.cell 12
      have y13 : a4.cell? ⟨g, 13, none⟩ = some (.slice none 0 0) := RD1.bk.cell 13
      have yf := RD1.bk.frozen
      clear hv4 hm4 RD1 ht hth c1 HRD z1
      go_upto_region 13 with (fail)
      generalize hw2 : World.setCell _ _ _ = v5
      have HTS2 : Hid (Ths v5 [go.a, gv.a, gk.a, gq.a, gx.a]) := Lib.hid (by rw [← hw2]; exact HTS.out.but HRD1.out.bk (by decide) ((((but_refl _ _).set _ _).set _ _).set _ _))
      clear HTS
      have HTS := HTS2
      clear HTS2
      have HRD : Hid (RdS wr (w.heap.size + 2) g (some ⟨b, off, none⟩) ln lcap (s.v * s.w + k * blkN s + s.w + s.w * s.w + s.w * s.w + s.w * s.w + s.w * s.w) (#[.slice gx.a gx.n gx.cap, .slice none 0 0, .int .i64 gq.r, .int .i64 gq.c, .slice gq.a gq.n gq.cap, .int .i64 gk.r, .int .i64 gk.c, .slice gk.a gk.n gk.cap, .int .i64 gv.r, .int .i64 gv.c, .slice gv.a gv.n gv.cap, .int .i64 go.r, .int .i64 go.c, .slice go.a go.n go.cap, .int .i64 0, .int .i64 0, .slice none 0 0, .int .i64 0, .int .i64 0, .slice none 0 0]) (gx :: []) (go :: gv :: gk :: gq :: []) v5) := Lib.hid (by rw [← hw2]; exact (((HRD1.out.put 11 _ rfl (no8_of (by simp))).put 12 _ rfl (no8_of (by simp))).put 13 _ rfl (no8_of (by simp))))
      clear hw2 yf HRD1 y11 y12 y13
      have z1 : v5.cell? ⟨w.heap.size, 1, none⟩ = some (.int .i64 s.w) := (HSH.out _ HRD.out.grow).cell 1
      have c1 := CT.out v5 (s.v * s.w + k * blkN s + s.w + s.w * s.w + s.w * s.w + s.w * s.w + s.w * s.w) s.w HRD.out.tk (HBL.out _ HRD.out.grow) hw1 (by have := HLK.out; have := HBN.out; have := HWI.out; omega)
      go_wp2_with fail
      refine c1.mono ?_
      rintro e a5 ⟨ht, hth⟩
      obtain ⟨gy, rfl, hv5, hm5, RD1⟩ := HRD.out.took ht
      have HTS2 : Hid (Ths a5 (gy.a :: [go.a, gv.a, gk.a, gq.a, gx.a])) := Lib.hid (Ths.cons (HTS.out.took HRD.out.tk ht.2.2) (hth gy rfl))
      clear HTS
      have HTS := HTS2
      clear HTS2
      have HV5 := Lib.hid hv5
      have HM5 := Lib.hid hm5
      have HRD1 := Lib.hid RD1
      have y1 : a5.cell? ⟨g, 1, none⟩ = some (.slice none 0 0) := RD1.bk.cell 1
      have yf := RD1.bk.frozen
      clear hv5 hm5 RD1 ht hth c1 HRD z1
      go_upto_region 14 with (fail)
      generalize hw2 : World.setCell _ _ _ = v6
      have HTS2 : Hid (Ths v6 [gy.a, go.a, gv.a, gk.a, gq.a, gx.a]) := Lib.hid (by rw [← hw2]; exact HTS.out.but HRD1.out.bk (by decide) ((but_refl _ _).set _ _))
      clear HTS
      have HTS := HTS2
      clear HTS2
      have HRD : Hid (RdS wr (w.heap.size + 2) g (some ⟨b, off, none⟩) ln lcap (s.v * s.w + k * blkN s + s.w + s.w * s.w + s.w * s.w + s.w * s.w + s.w * s.w + s.w) (#[.slice gx.a gx.n gx.cap, .slice gy.a gy.n gy.cap, .int .i64 gq.r, .int .i64 gq.c, .slice gq.a gq.n gq.cap, .int .i64 gk.r, .int .i64 gk.c, .slice gk.a gk.n gk.cap, .int .i64 gv.r, .int .i64 gv.c, .slice gv.a gv.n gv.cap, .int .i64 go.r, .int .i64 go.c, .slice go.a go.n go.cap, .int .i64 0, .int .i64 0, .slice none 0 0, .int .i64 0, .int .i64 0, .slice none 0 0]) (gy :: gx :: []) (go :: gv :: gk :: gq :: []) v6) := Lib.hid (by rw [← hw2]; exact (HRD1.out.put 1 _ rfl (no8_of (by simp))))
      clear hw2 yf HRD1 y1
      have z1 : v6.cell? ⟨w.heap.size, 1, none⟩ = some (.int .i64 s.w) := (HSH.out _ HRD.out.grow).cell 1
      have z3 : v6.cell? ⟨w.heap.size, 3, none⟩ = some (.int .i64 s.i) := (HSH.out _ HRD.out.grow).cell 3
      have c1 := CG.out v6 (s.v * s.w + k * blkN s + s.w + s.w * s.w + s.w * s.w + s.w * s.w + s.w * s.w + s.w) s.i s.w HRD.out.tk (HBL.out _ HRD.out.grow) hi1 hw1 (by have := HLK.out; have := HBN.out; have := HWI.out; omega)
      go_wp2_with fail
      refine c1.mono ?_
      rintro e a6 ⟨ht, hth⟩
      obtain ⟨gu, rfl, hv6, hm6, RD1⟩ := HRD.out.tookG ht
      have HTS2 : Hid (Ths a6 (gu.a :: [gy.a, go.a, gv.a, gk.a, gq.a, gx.a])) := Lib.hid (Ths.cons (HTS.out.took HRD.out.tk ht.2.2) (hth gu rfl))
      clear HTS
      have HTS := HTS2
      clear HTS2
      have HV6 := Lib.hid hv6
      have HM6 := Lib.hid hm6
      have HRD1 := Lib.hid RD1
      have y14 : a6.cell? ⟨g, 14, none⟩ = some (.int .i64 0) := RD1.bk.cell 14
      have y15 : a6.cell? ⟨g, 15, none⟩ = some (.int .i64 0) := RD1.bk.cell 15
      have y16 : a6.cell? ⟨g, 16, none⟩ = some (.slice none 0 0) := RD1.bk.cell 16
      have yf := RD1.bk.frozen
      clear hv6 hm6 RD1 ht hth c1 HRD z1 z3
      go_upto_region 15 with (fail)
      generalize hw2 : World.setCell _ _ _ = v7
      have HTS2 : Hid (Ths v7 [gu.a, gy.a, go.a, gv.a, gk.a, gq.a, gx.a]) := Lib.hid (by rw [← hw2]; exact HTS.out.but HRD1.out.bk (by decide) ((((but_refl _ _).set _ _).set _ _).set _ _))
      clear HTS
      have HTS := HTS2
      clear HTS2
      have HRD : Hid (RdS wr (w.heap.size + 2) g (some ⟨b, off, none⟩) ln lcap (s.v * s.w + k * blkN s + s.w + s.w * s.w + s.w * s.w + s.w * s.w + s.w * s.w + s.w + s.i * s.w) (#[.slice gx.a gx.n gx.cap, .slice gy.a gy.n gy.cap, .int .i64 gq.r, .int .i64 gq.c, .slice gq.a gq.n gq.cap, .int .i64 gk.r, .int .i64 gk.c, .slice gk.a gk.n gk.cap, .int .i64 gv.r, .int .i64 gv.c, .slice gv.a gv.n gv.cap, .int .i64 go.r, .int .i64 go.c, .slice go.a go.n go.cap, .int .i64 gu.r, .int .i64 gu.c, .slice gu.a gu.n gu.cap, .int .i64 0, .int .i64 0, .slice none 0 0]) (gy :: gx :: []) (gu :: go :: gv :: gk :: gq :: []) v7) := Lib.hid (by rw [← hw2]; exact (((HRD1.out.put 14 _ rfl (no8_of (by simp))).put 15 _ rfl (no8_of (by simp))).put 16 _ rfl (no8_of (by simp))))
      clear hw2 yf HRD1 y14 y15 y16
      have z1 : v7.cell? ⟨w.heap.size, 1, none⟩ = some (.int .i64 s.w) := (HSH.out _ HRD.out.grow).cell 1
      have z3 : v7.cell? ⟨w.heap.size, 3, none⟩ = some (.int .i64 s.i) := (HSH.out _ HRD.out.grow).cell 3
      have c1 := CG.out v7 (s.v * s.w + k * blkN s + s.w + s.w * s.w + s.w * s.w + s.w * s.w + s.w * s.w + s.w + s.i * s.w) s.w s.i HRD.out.tk (HBL.out _ HRD.out.grow) hw1 hi1 (by have := HLK.out; have := HBN.out; have := HWI.out; omega)
      go_wp2_with fail
      refine c1.mono ?_
      rintro e a7 ⟨ht, hth⟩
      obtain ⟨gd, rfl, hv7, hm7, RD1⟩ := HRD.out.tookG ht
      have HTS2 : Hid (Ths a7 (gd.a :: [gu.a, gy.a, go.a, gv.a, gk.a, gq.a, gx.a])) := Lib.hid (Ths.cons (HTS.out.took HRD.out.tk ht.2.2) (hth gd rfl))
      clear HTS
      have HTS := HTS2
      clear HTS2
      have HV7 := Lib.hid hv7
      have HM7 := Lib.hid hm7
      have HRD1 := Lib.hid RD1
      have y17 : a7.cell? ⟨g, 17, none⟩ = some (.int .i64 0) := RD1.bk.cell 17
      have y18 : a7.cell? ⟨g, 18, none⟩ = some (.int .i64 0) := RD1.bk.cell 18
      have y19 : a7.cell? ⟨g, 19, none⟩ = some (.slice none 0 0) := RD1.bk.cell 19
      have yf := RD1.bk.frozen
      clear hv7 hm7 RD1 ht hth c1 HRD z1 z3
      go_upto_region 16 with (fail)
      generalize hw2 : World.setCell _ _ _ = v8
      have HTS2 : Hid (Ths v8 [gd.a, gu.a, gy.a, go.a, gv.a, gk.a, gq.a, gx.a]) := Lib.hid (by rw [← hw2]; exact HTS.out.but HRD1.out.bk (by decide) ((((but_refl _ _).set _ _).set _ _).set _ _))
      clear HTS
      have HTS := HTS2
      clear HTS2
      have HRD : Hid (RdS wr (w.heap.size + 2) g (some ⟨b, off, none⟩) ln lcap (s.v * s.w + k * blkN s + s.w + s.w * s.w + s.w * s.w + s.w * s.w + s.w * s.w + s.w + s.i * s.w + s.w * s.i) (#[.slice gx.a gx.n gx.cap, .slice gy.a gy.n gy.cap, .int .i64 gq.r, .int .i64 gq.c, .slice gq.a gq.n gq.cap, .int .i64 gk.r, .int .i64 gk.c, .slice gk.a gk.n gk.cap, .int .i64 gv.r, .int .i64 gv.c, .slice gv.a gv.n gv.cap, .int .i64 go.r, .int .i64 go.c, .slice go.a go.n go.cap, .int .i64 gu.r, .int .i64 gu.c, .slice gu.a gu.n gu.cap, .int .i64 gd.r, .int .i64 gd.c, .slice gd.a gd.n gd.cap]) (gy :: gx :: []) (gd :: gu :: go :: gv :: gk :: gq :: []) v8) := Lib.hid (by rw [← hw2]; exact (((HRD1.out.put 17 _ rfl (no8_of (by simp))).put 18 _ rfl (no8_of (by simp))).put 19 _ rfl (no8_of (by simp))))
      clear hw2 yf HRD1 y17 y18 y19
      have hbk : bkB s ⟨gx, gy, gq, gk, gv, go, gu, gd⟩ = true := by
        unfold bkB
        simp [matB, HM0.out, HM5.out, (HM1.out : matB8 _ _ _).1, (HM1.out : matB8 _ _ _).2.1, (HM1.out : matB8 _ _ _).2.2, (HM2.out : matB8 _ _ _).1, (HM2.out : matB8 _ _ _).2.1, (HM2.out : matB8 _ _ _).2.2, (HM3.out : matB8 _ _ _).1, (HM3.out : matB8 _ _ _).2.1, (HM3.out : matB8 _ _ _).2.2, (HM4.out : matB8 _ _ _).1, (HM4.out : matB8 _ _ _).2.1, (HM4.out : matB8 _ _ _).2.2, (HM6.out : matB8 _ _ _).1, (HM6.out : matB8 _ _ _).2.1, (HM6.out : matB8 _ _ _).2.2, (HM7.out : matB8 _ _ _).1, (HM7.out : matB8 _ _ _).2.1, (HM7.out : matB8 _ _ _).2.2]
      have hblk : (⟨gx, gy, gq, gk, gv, go, gu, gd⟩ : Bk7).blk = blkOf s xs (s.v * s.w + k * blkN s) := by
        unfold Bk7.blk blkOf cutL
        simp only [HV0.out, HV1.out, HV2.out, HV3.out, HV4.out, HV5.out, HV6.out, HV7.out]
      have hq9 : s.v * s.w + k * blkN s + s.w + s.w * s.w + s.w * s.w + s.w * s.w + s.w * s.w + s.w + s.i * s.w + s.w * s.i = s.v * s.w + k * blkN s + blkN s := by have := HBN.out; have := HWI.out; omega
      have RD9 := HRD.out
      rw [hq9] at RD9
      have X9 : Hid (Box v8 g 66 (⟨gx, gy, gq, gk, gv, go, gu, gd⟩ : Bk7).cells) := Lib.hid RD9.bk
      have HOW : Hid (∀ c ∈ bs ++ [(⟨gx, gy, gq, gk, gv, go, gu, gd⟩ : Bk7)], Bk7.Own w.heap.size c) := Lib.hid (fun c hc => by
        rcases List.mem_append.1 hc with h1 | h1
        · exact hOw.out c h1
        · obtain rfl := List.mem_singleton.1 h1
          have hwr := hL.out.bel.size
          exact ⟨fun x hx => Nat.le_trans hwr (RD9.rnew gx (by simp) x hx), fun x hx => Nat.le_trans hwr (RD9.rnew gy (by simp) x hx), fun x hx => Nat.le_trans hwr (RD9.gnew gq (by simp) x hx), fun x hx => Nat.le_trans hwr (RD9.gnew gk (by simp) x hx), fun x hx => Nat.le_trans hwr (RD9.gnew gv (by simp) x hx), fun x hx => Nat.le_trans hwr (RD9.gnew go (by simp) x hx), fun x hx => Nat.le_trans hwr (RD9.gnew gu (by simp) x hx), fun x hx => Nat.le_trans hwr (RD9.gnew gd (by simp) x hx)⟩)
      obtain ⟨V', w9, hrun, XW, hLn, hthn⟩ := hL.out.nextT (b := ⟨gx, gy, gq, gk, gv, go, gu, gd⟩) RD9 (by simp) (by simp) hbk hblk (by omega)
      obtain ⟨Va, Vc, hV'⟩ : ∃ a c, V' = .slice a (k + 1) c := by
        rcases hLn.own.2 with ⟨_, h0⟩ | ⟨_, cap, _, h1, _⟩
        · exact absurd h0 (by omega)
        · exact ⟨_, cap, h1⟩
      subst hV'
      have HLN := Lib.hid hLn
      have HTN := Lib.hid (hthn (ge.a :: (bs ++ [(⟨gx, gy, gq, gk, gv, go, gu, gd⟩ : Bk7)]).flatMap Bk7.adrs) (fun a ha => by
        rw [List.flatMap_append, ← List.cons_append] at ha
        rcases List.mem_append.1 ha with h1 | h1
        · exact (hTh.out a h1).but hL.out.tk (by decide) (but_grown RD9.grow)
        · refine HTS.out a ?_
          simp [Bk7.adrs] at h1 ⊢
          rcases h1 with h1 | h1 | h1 | h1 | h1 | h1 | h1 | h1 <;> simp [h1]))
      clear hthn HTS hTh
      have hX3 := hL.out.ws.kept RD9.grow (by simp)
      have z9 : v8.cell? ⟨w.heap.size + 3, 9, none⟩ = some V := hX3.cell 9
      have y9 : w9.cell? ⟨w.heap.size + 3, 9, none⟩ = some V := XW.cell 9
      have yf := XW.frozen
      have XB := X9.out
      unfold Bk7.cells at XB hrun
      simp only at XB hrun
      clear HRD RD9 hLn hL hOw hX3 XW hbk hblk hq9 HV0 HV1 HV2 HV3 HV4 HV5 HV6 HV7 HM0 HM1 HM2 HM3 HM4 HM5 HM6 HM7 HSH HBL HLK HG X9
      go_wp2_with (first
        | (refine wpList_load_row rfl 66 _ rfl g rfl 66 _ (0, 0) _ XB Tryz.underlying66 rfl (by kernel_rfl) ?_)
        | (at_builtin; refine wpList_append_run (by rfl) _ _ _ (by rfl) _ _ (by rfl) (by rfl) hrun ?_))
      clear hrun z9 y9 yf XB
      go_roundw
      case rel => exact ⟨k + 1, _, _, by omega, by go_num, HLN, HOW, HTN⟩
      case measure => simp [intOf]; omega
    · obtain rfl : k = s.l := by omega
      have hL9 := hL.out
      have ED : EdS s (some ⟨b, off, none⟩) ln lcap w.heap.size w (s.v * s.w + s.l * blkN s) (ofCells s.l s.w s.h s.i s.v s.p ge V) V s.l bs [] [ge] wr := ⟨hL9.sh, hL9.rz, hL9.tk, hL9.ws, by
        rcases hL9.own.2 with ⟨h1, _⟩ | ⟨g, cap, cur, h1, _⟩ <;> (rw [h1]; exact no8_of9), hL9.own, fun b hb => (hL9.bin b hb).1, by simp, by simpa using hL9.e8, hL9.bel⟩
      have HEVM : Hid ((ge.v = cutL xs 0 (s.v * s.w) ∧ matB8 s.v s.w ge) ∧ bs.length = s.l ∧ (∀ b ∈ bs, bkB s b = true) ∧ ∀ i, i < s.l → (bs.getD i default).blk = blkOf s xs (s.v * s.w + i * blkN s)) := Lib.hid ⟨hL9.ev, hL9.len, fun b hb => (hL9.bin b hb).2.2, hL9.num⟩
      have z1 : wr.cell? ⟨w.heap.size, 1, none⟩ = some (.int .i64 s.w) := ED.sh.cell 1
      have c1 := CT.out wr _ s.w ED.tk ED.bel hw1 (by have := HCN.out; omega)
      have HED := Lib.hid ED
      obtain ⟨Va, Vn, Vc, hV⟩ : ∃ a n c, V = .slice a n c := by
        rcases hL9.own.2 with ⟨h1, _⟩ | ⟨g, cap, cur, h1, _⟩
        · exact ⟨none, 0, 0, h1⟩
        · exact ⟨_, s.l, cap, h1⟩
      subst hV
      clear ED hL9 hL
      go_wp2_with fail
      refine c1.mono ?_
      rintro e w1 ⟨ht, hth⟩
      obtain ⟨gt, rfl, htv, htn, htb, ED1⟩ := HED.out.tookF ht
      have HTS : Hid (Ths w1 (gt.a :: ge.a :: bs.flatMap Bk7.adrs)) := Lib.hid (Ths.cons (hTh.out.took HED.out.tk ht.2.2) (hth gt rfl))
      have HTB : Hid (∀ x, gt.a = some x → w.heap.size ≤ x.block) := Lib.hid fun x hx => Nat.le_trans HED.out.bel.size (htb x hx)
      have HTV := Lib.hid (And.intro htv htn)
      have HED1 := Lib.hid ED1
      have y10 : w1.cell? ⟨w.heap.size + 3, 10, none⟩ = some (.slice none 0 0) := ED1.ws.cell 10
      have yf := ED1.ws.frozen
      clear htv htn htb ED1 ht hth hTh c1 z1 z0 HED
      go_upto_region 18 with (fail)
      generalize hw2 : World.setCell _ _ _ = w2
      have ED2 : EdS s (some ⟨b, off, none⟩) ln lcap w.heap.size w (s.v * s.w + s.l * blkN s + s.w) #[.int .i64 s.l, .int .i64 s.w, .int .i64 s.h, .int .i64 s.i, .int .i64 s.v, .int .i64 s.p, .int .i64 ge.r, .int .i64 ge.c, .slice ge.a ge.n ge.cap, .slice Va Vn Vc, .slice gt.a gt.n gt.cap, .int .i64 0, .int .i64 0, .slice none 0 0] (.slice Va Vn Vc) s.l bs [gt] [ge] w2 := by
        rw [← hw2]
        exact HED1.out.put 10 _ rfl (no8_of (by simp))
      have HTS2 : Hid (Ths w2 (gt.a :: ge.a :: bs.flatMap Bk7.adrs)) := Lib.hid (by rw [← hw2]; exact HTS.out.but HED1.out.ws (by decide) ((but_refl _ _).set _ _))
      clear HTS
      clear hw2 y10 yf HED1
      have z1 : w2.cell? ⟨w.heap.size, 1, none⟩ = some (.int .i64 s.w) := ED2.sh.cell 1
      have z4 : w2.cell? ⟨w.heap.size, 4, none⟩ = some (.int .i64 s.v) := ED2.sh.cell 4
      have c1 := CG.out w2 _ s.v s.w ED2.tk ED2.bel hv1 hw1 (by have := HCN.out; omega)
      have HED := Lib.hid ED2
      clear ED2
      go_wp2_with fail
      refine c1.mono ?_
      rintro e w3 ⟨ht, hth⟩
      obtain ⟨gh, rfl, hhv, hhm, hhb, ED1⟩ := HED.out.tookG ht
      have HHV := Lib.hid (And.intro hhv hhm)
      have HTS3 : Hid (Ths w3 (gh.a :: gt.a :: ge.a :: bs.flatMap Bk7.adrs)) := Lib.hid (Ths.cons (HTS2.out.took HED.out.tk ht.2.2) (hth gh rfl))
      clear HTS2
      have HHB : Hid (∀ x, gh.a = some x → w.heap.size ≤ x.block) := Lib.hid fun x hx => Nat.le_trans HED.out.bel.size (hhb x hx)
      have HED1 := Lib.hid ED1
      have y11 : w3.cell? ⟨w.heap.size + 3, 11, none⟩ = some (.int .i64 0) := ED1.ws.cell 11
      have y12 : w3.cell? ⟨w.heap.size + 3, 12, none⟩ = some (.int .i64 0) := ED1.ws.cell 12
      have y13 : w3.cell? ⟨w.heap.size + 3, 13, none⟩ = some (.slice none 0 0) := ED1.ws.cell 13
      have yf := ED1.ws.frozen
      clear hhv hhm hhb ED1 ht hth c1 z1 z4 HED
      go_upto_region 19 with (fail)
      generalize hw4 : World.setCell _ _ _ = w4
      have ED2 : EdS s (some ⟨b, off, none⟩) ln lcap w.heap.size w (s.v * s.w + s.l * blkN s + s.w + s.v * s.w) #[.int .i64 s.l, .int .i64 s.w, .int .i64 s.h, .int .i64 s.i, .int .i64 s.v, .int .i64 s.p, .int .i64 ge.r, .int .i64 ge.c, .slice ge.a ge.n ge.cap, .slice Va Vn Vc, .slice gt.a gt.n gt.cap, .int .i64 gh.r, .int .i64 gh.c, .slice gh.a gh.n gh.cap] (.slice Va Vn Vc) s.l bs [gt] [gh, ge] w4 := by
        rw [← hw4]
        exact ((HED1.out.put 11 _ rfl (no8_of (by simp))).put 12 _ rfl (no8_of (by simp))).put 13 _ rfl (no8_of (by simp))
      have HTS4 : Hid (Ths w4 (gh.a :: gt.a :: ge.a :: bs.flatMap Bk7.adrs)) := Lib.hid (by rw [← hw4]; exact HTS3.out.but HED1.out.ws (by decide) ((((but_refl _ _).set _ _).set _ _).set _ _))
      clear HTS3
      clear hw4 y11 y12 y13 yf HED1
      have XW := ED2.ws
      have XZ := ED2.rz
      have HED := Lib.hid ED2
      clear ED2
      unfold zwts at XZ
      go_wp2_with (first
        | (refine wpList_load_row rfl 50 _ rfl (w.heap.size + 3) rfl 50 _ (0, 0) _ XW Tryz.underlying50 rfl (by kernel_rfl) ?_)
        | (refine wpList_store_row (o := ⟨none, .store _ _ _, _, _, _, _⟩) rfl 50 _ _ rfl (w.heap.size + 1) #[.int .i64 s.l, .int .i64 s.w, .int .i64 s.h, .int .i64 s.i, .int .i64 s.v, .int .i64 s.p, .int .i64 ge.r, .int .i64 ge.c, .slice ge.a ge.n ge.cap, .slice Va Vn Vc, .slice gt.a gt.n gt.cap, .int .i64 gh.r, .int .i64 gh.c, .slice gh.a gh.n gh.cap] rfl rfl 50 _ XZ (by kernel_rfl) rfl (by simp [Value.oneCell']) ?_))
      have X2 := XZ.setRow (cs' := #[.int .i64 s.l, .int .i64 s.w, .int .i64 s.h, .int .i64 s.i, .int .i64 s.v, .int .i64 s.p, .int .i64 ge.r, .int .i64 ge.c, .slice ge.a ge.n ge.cap, .slice Va Vn Vc, .slice gt.a gt.n gt.cap, .int .i64 gh.r, .int .i64 gh.c, .slice gh.a gh.n gh.cap])
      obtain ⟨hFo, hFb, hFr, hFg⟩ := HED.out.fin #[.int .i64 s.l, .int .i64 s.w, .int .i64 s.h, .int .i64 s.i, .int .i64 s.v, .int .i64 s.p, .int .i64 ge.r, .int .i64 ge.c, .slice ge.a ge.n ge.cap, .slice Va Vn Vc, .slice gt.a gt.n gt.cap, .int .i64 gh.r, .int .i64 gh.c, .slice gh.a gh.n gh.cap]
      obtain ⟨ba, bcap, hVe, hBk, hc1, hc2⟩ := bksAt_of_own hFo HEVM.out.2.1 (by omega) hFb
      cases hVe
      have hT9 : Ths (w4.setRow (w.heap.size + 1) #[.int .i64 s.l, .int .i64 s.w, .int .i64 s.h, .int .i64 s.i, .int .i64 s.v, .int .i64 s.p, .int .i64 ge.r, .int .i64 ge.c, .slice ge.a ge.n ge.cap, .slice Va s.l Vc, .slice gt.a gt.n gt.cap, .int .i64 gh.r, .int .i64 gh.c, .slice gh.a gh.n gh.cap]) (ge.a :: gh.a :: gt.a :: bs.flatMap Bk7.adrs) := fun a ha => (HTS4.out a (by
        simp only [List.mem_cons] at ha ⊢
        rcases ha with h1 | h1 | h1 | h1 <;> simp [h1])).but HED.out.rz (by decide) (but_grown (grownBy_setRow w4 (w.heap.size + 1) _))
      have hBel := below_setRow (cs := #[.int .i64 s.l, .int .i64 s.w, .int .i64 s.h, .int .i64 s.i, .int .i64 s.v, .int .i64 s.p, .int .i64 ge.r, .int .i64 ge.c, .slice ge.a ge.n ge.cap, .slice Va s.l Vc, .slice gt.a gt.n gt.cap, .int .i64 gh.r, .int .i64 gh.c, .slice gh.a gh.n gh.cap]) HED.out.bel (g := w.heap.size + 1) (by omega) HED.out.bel.size
      exact bodyPost_ret (v := .agg (Wt7.cells ⟨s.l, s.w, s.h, s.i, s.v, s.p, ge, Va, s.l, Vc, bs, gt, gh⟩)) (results_row rfl rfl X2 Tryz.underlying50 rfl (by kernel_rfl)) rfl
        ⟨of_madeF OK.out (hFg _ (by simp)) (hFg _ (by simp)) (hFr _ (by simp)) hBk ⟨hc1, hc2⟩ HEVM.out.1 HTV.out HHV.out HEVM.out.2.2.1 w.heap.size ⟨HEB.out, HHB.out, HTB.out, fun x hx => by have := (hFo.lt x.block (by rw [hx]; rfl)).1; omega, hOw.out⟩ ⟨hT9, thA_own hFo rfl⟩ HEVM.out.2.2.2, hBel⟩

end Go.Proofs.YtoeihigdndkjeaaGreatDoor
