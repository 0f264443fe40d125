/-
  Contract of the document's Stack.
-/
import Derived.Test.YtocjcfblpifdhaaStkInv
import Derived.Test.YtocjcfblpifdhaaLaysMath
import Derived.Test.YtocjcfblpifdhaaLawKit
import Derived.Deep.RegionHeld3
import Derived.BigRegion
namespace Go.Proofs.Ytocjcfblpifdhaa
open Go.RowKit
set_option linter.unusedVariables false

/-- what the document's function answers: a grid, and true -/
def RefOk (w : World) (R C : Int) (xs : List Int) (e : Ending) : Prop :=
  ∃ k : Gr, e = .returned (.tuple #[.agg #[.int .i64 k.r, .int .i64 k.c, .slice k.a k.n k.cap], .bool true]) ∧ k.r = R ∧ k.c = C ∧ k.n = xs.length ∧ k.v = xs ∧ k.In w

theorem own_gr {w : World} {base : Nat} {u : Value} {cs : List Int} (h : w.ownsRow base 21 1 u cs.length (cs.map (.int .i32))) (hl : cs.length ≤ 16777216) (hw : ∀ x ∈ cs, (Lit.int .i32 x).wf = true) (R C : Int) (hR : 0 ≤ R ∧ R ≤ 4096) (hC : 0 ≤ C ∧ C ≤ 4096) :
    ∃ k : Gr, u = .slice k.a k.n k.cap ∧ k.r = R ∧ k.c = C ∧ k.n = cs.length ∧ k.v = cs ∧ k.In w := by
  obtain ⟨a, cap, hu, hE⟩ := own_form h (by omega) hw
  subst hu
  rcases h.2 with ⟨he, h0⟩ | ⟨g, cap', cur, he, _, _, hnc, hcm, _⟩
  · simp only [Value.slice.injEq] at he
    obtain ⟨e1, e2, e3⟩ := he
    exact ⟨⟨R, C, a, cs.length, cap, cs⟩, rfl, rfl, rfl, rfl, rfl, hE, by show cs.length ≤ cap; omega, by show cap ≤ _; omega, ⟨fun _ => e3, (fun x hx hc => by have hx' : a = some x := hx; rw [e1] at hx'; cases hx')⟩, by show _ ≤ R; omega, by show R ≤ _; omega, by show _ ≤ C; omega, by show C ≤ _; omega⟩
  · simp only [Value.slice.injEq] at he
    obtain ⟨e1, e2, e3⟩ := he
    unfold maxLen at hcm
    exact ⟨⟨R, C, a, cs.length, cap, cs⟩, rfl, rfl, rfl, rfl, rfl, hE, by show cs.length ≤ cap; omega, by show cap ≤ _; omega, ⟨(fun hn => by have hn' : a = none := hn; rw [e1] at hn'; cases hn'), (fun x hx _ => by have hx' : a = some x := hx; rw [e1] at hx'; cases hx'; rfl)⟩, by show _ ≤ R; omega, by show R ≤ _; omega, by show _ ≤ C; omega, by show C ≤ _; omega⟩

theorem take_wf {w : World} {gs : List Gr} (h : ∀ g ∈ gs, g.In w) : ∀ x ∈ gs.flatMap Gr.v, (Lit.int .i32 x).wf = true := by
  intro x hx
  obtain ⟨g, hg, hxg⟩ := List.mem_flatMap.1 hx
  exact (h g hg).1.2.2.1 x hxg

set_option maxHeartbeats 4000000 in
set_option maxRecDepth 100000 in
theorem ref_stack (a : Option Addr) (n cap : Nat) (gs : List Gr) (w : World) (h : Grids w a n gs) (hsm : ∀ g ∈ gs, g.n ≤ 400) :
    Calls Try.prog 31 #[.slice a n cap] w fun e w' => ((stackB gs = false ∧ NoneOf e) ∨ (stackB gs = true ∧ RefOk w' (sumOf (fun g => g.r) gs) (side0 (fun g => g.c) gs) (gs.flatMap Gr.v) e)) ∧ Below w.heap.size w w' := by
  have HH := Lib.hid h
  have HL := Lib.hid h.1
  have HS := Lib.hid hsm
  have hn63 := h.2.1
  have hinv0 : StkInv w (w.heap.size + 1) 0 0 (.slice none 0 0) [] ((w.alloc (.cells #[.int .i64 0, .int .i64 0, .slice none 0 0] 24)).alloc (.cells #[.int .i64 0, .int .i64 0, .slice none 0 0] 24)) :=
    ⟨(box3_at rfl _ _ _ _).alloc _, box3_at (by simp) _ _ _ _, own_nil _ _ _, ((Below.refl _ _).alloc (Nat.le_refl _) _).alloc (by simp) _, by omega, by simp⟩
  have HI0 := Lib.hid hinv0
  clear h hsm hinv0
  go_enter Try.func31, Try.ntmps31
  go_wp2_with fail
  go_loopw [5] (fun i wr => ∃ (k : Nat) (u : Value) (R C : Int) (cs : List Int), k ≤ n ∧ i = .int .i64 k ∧ Hid (stackB (gs.take k) = true ∧ R = sumOf (fun g => g.r) (gs.take k) ∧ C = side0 (fun g => g.c) (gs.take k) ∧ cs = (gs.take k).flatMap Gr.v) ∧ Hid (StkInv w (w.heap.size + 1) R C u cs wr)) (fun i _ => n - (intOf i).toNat)
  case atStart => exact ⟨0, .slice none 0 0, 0, 0, [], by omega, rfl, Lib.hid ⟨stackB_nil, rfl, rfl, rfl⟩, HI0⟩
  case round =>
    clear HI0
    obtain ⟨k, u, R, C, cs, hk, rfl, hS, hinv⟩ := hrel
    by_cases hlt : k < n
    · obtain ⟨b, off, g, rfl, hbw, m0, m1, m2, hgk, hin⟩ := HH.out.at_ hlt
      obtain ⟨g1, hg1, m3⟩ : ∃ g1, Hid (gs.getD 0 default = g1) ∧ w.cell? ⟨b, off + 1, none⟩ = some (.int .i64 g1.c) := by
        obtain ⟨b9, off9, g9, e9, _, _, p9, _, q9, _⟩ := HH.out.at_ (show 0 < n by omega)
        cases e9
        exact ⟨g9, q9, by simpa using p9⟩
      have c0 := cell_keep m0 hinv.out.bel
      have c1 := cell_keep m1 hinv.out.bel
      have c2 := cell_keep m2 hinv.out.bel
      have c3 := cell_keep m3 hinv.out.bel
      have HM2 := Lib.hid m2
      have hbl : b < wr.heap.size := Nat.lt_of_lt_of_le hbw hinv.out.bel.size
      clear m0 m1 m2 m3
      have hkl : k < gs.length := by rw [HL.out]; exact hlt
      have hgn := HS.out g (getD_mem_gr hkl hgk.out)
      have htk := Lib.hid (take_g gs k hkl g hgk.out)
      have i0 : (0 : Int) ≤ (k : Int) := by omega
      have i1 : (k : Int) < (n : Int) := by omega
      have i2 : 0 < n := by omega
      have hS0 : Below wr.heap.size wr wr.drew := (Below.refl _ _).drew
      have HIN := Lib.hid hin
      clear hin
      cases hf : fitB g.r g.c g.n with
      | false =>
        have HNO : Hid (stackB gs = false) := Lib.hid (stack_not_take (k := k + 1) (by rw [htk.out]; exact stack_unfit hf))
        have hfit := fun W => ref_fit g.r g.c g.a g.n g.cap W (by have := HIN.out.2.1; have := HIN.out.2.2.1; omega) false hf
        clear hf
        go_wp2_with fail
        refine wp_region_held_drew (S := (fun w' => w'.cell? ⟨b, off + k * 3, none⟩ = some (.int .i64 g.r) ∧ w'.cell? ⟨b, off + k * 3 + 1, none⟩ = some (.int .i64 g.c) ∧ w'.cell? ⟨b, off + k * 3 + 2, none⟩ = some (.slice g.a g.n g.cap) ∧ w'.cell? ⟨b, off + 1, none⟩ = some (.int .i64 g1.c))) (by kernel_rfl) ?_ (fun hHeld => ?_)
        · (first | go_keep | (go_split_ands; refine ⟨?_, ?_, ?_, ?_⟩ <;> assumption))
        refine wpAnyH_take (i := 0) (oi := ⟨some 13, _, _, _, _, _⟩) (v := ?_) rfl (by kernel_rfl) (by kernel_rfl) (by kernel_rfl) (fun _ _ _ h => h) (Or.inl ⟨by rfl, ?hy1⟩) hHeld ?rest1
        case hy1 => (intro W hSw; (try dsimp only at hSw); go_simp; (try with_reducible rfl))
        simp only [Act.put, List.setIfInBounds_toArray, List.set_cons_zero, List.set_cons_succ]
        refine wpAnyH_take (i := 1) (oi := ⟨some 14, _, _, _, _, _⟩) (v := ?_) rfl (by kernel_rfl) (by kernel_rfl) (by kernel_rfl) (fun _ _ _ h => h) (Or.inl ⟨by rfl, ?hy2⟩) hHeld ?rest2
        case hy2 => (intro W hSw; (try dsimp only at hSw); go_simp; (try with_reducible rfl))
        simp only [Act.put, List.setIfInBounds_toArray, List.set_cons_zero, List.set_cons_succ]
        refine wpAnyH_take (i := 2) (oi := ⟨some 15, _, _, _, _, _⟩) (v := ?_) rfl (by kernel_rfl) (by kernel_rfl) (by kernel_rfl) (fun _ _ _ h => h) (Or.inl ⟨by rfl, ?hy3⟩) hHeld ?rest3
        case hy3 => (intro W hSw; (try dsimp only at hSw); go_simp; (try with_reducible rfl))
        simp only [Act.put, List.setIfInBounds_toArray, List.set_cons_zero, List.set_cons_succ]
        refine wpAnyH_take (i := 3) (oi := ⟨some 16, _, _, _, _, _⟩) (v := ?_) rfl (by kernel_rfl) (by kernel_rfl) (by kernel_rfl) (fun _ _ _ h => h) (Or.inl ⟨by rfl, ?hy4⟩) hHeld ?rest4
        case hy4 => (intro W hSw; (try dsimp only at hSw); go_simp; (try with_reducible rfl))
        simp only [Act.put, List.setIfInBounds_toArray, List.set_cons_zero, List.set_cons_succ]
        refine wpAnyH_ready (rs := [4]) (by kernel_rfl) (by simp) ?_
        refine AllReadyH.cons (o := ⟨some 17, _, _, _, _, _⟩) rfl (fun K hK => ?_) AllReadyH.nil
        go_simp
        (go_at_call 24; (with_reducible refine (hfit _).mono ?_); rintro e wc ⟨rfl, hb1⟩)
        have hS1 := below_two hS0 hb1
        have inv1 := hinv.out.below hS1
        have n0 := cell_keep c0 hS1
        have n1 := cell_keep c1 hS1
        have n2 := cell_keep c2 hS1
        have n3 := cell_keep c3 hS1
        (try go_wp2_with fail)
        refine hK.out _ _ ?_ (fun hNew => ?_)
        · ((try dsimp only); (first | go_keep | (go_split_ands; refine ⟨?_, ?_, ?_, ?_⟩ <;> assumption)))
        clear hK K hHeld
        have hHeld := hNew
        clear hNew
        try simp only [Act.put, List.setIfInBounds_toArray, List.set_cons_zero, List.set_cons_succ]
        refine wpAnyH_take (i := 5) (oi := ⟨some 18, _, _, _, _, _⟩) (v := ?_) rfl (by kernel_rfl) (by kernel_rfl) (by kernel_rfl) (fun _ _ _ h => h) (Or.inl ⟨by rfl, ?hy6⟩) hHeld ?rest6
        case hy6 => (intro W hSw; (try dsimp only at hSw); go_simp; (try with_reducible rfl))
        simp only [Act.put, List.setIfInBounds_toArray, List.set_cons_zero, List.set_cons_succ]
        refine wpAnyH_take (i := 6) (oi := ⟨some 19, _, _, _, _, _⟩) (v := ?_) rfl (by kernel_rfl) (by kernel_rfl) (by kernel_rfl) (fun _ _ _ h => h) (Or.inl ⟨by rfl, ?hy7⟩) hHeld ?rest7
        case hy7 => (intro W hSw; (try dsimp only at hSw); go_simp; (try with_reducible rfl))
        simp only [Act.put, List.setIfInBounds_toArray, List.set_cons_zero, List.set_cons_succ]
        refine wpAnyH_take (i := 7) (oi := ⟨some 20, _, _, _, _, _⟩) (v := undef) rfl (by kernel_rfl) (by kernel_rfl) (by kernel_rfl) (fun _ _ _ h => h) (Or.inr ⟨by rfl, rfl⟩) hHeld ?rest8
        simp only [Act.put, List.setIfInBounds_toArray, List.set_cons_zero, List.set_cons_succ]
        refine wpAnyH_take (i := 8) (oi := ⟨some 21, _, _, _, _, _⟩) (v := undef) rfl (by kernel_rfl) (by kernel_rfl) (by kernel_rfl) (fun _ _ _ h => h) (Or.inr ⟨by rfl, rfl⟩) hHeld ?rest9
        simp only [Act.put, List.setIfInBounds_toArray, List.set_cons_zero, List.set_cons_succ]
        refine wpAnyH_take (i := 9) (oi := ⟨some 22, _, _, _, _, _⟩) (v := undef) rfl (by kernel_rfl) (by kernel_rfl) (by kernel_rfl) (fun _ _ _ h => h) (Or.inr ⟨by rfl, rfl⟩) hHeld ?rest10
        simp only [Act.put, List.setIfInBounds_toArray, List.set_cons_zero, List.set_cons_succ]
        refine wpAnyH_take (i := 10) (oi := ⟨some 23, _, _, _, _, _⟩) (v := undef) rfl (by kernel_rfl) (by kernel_rfl) (by kernel_rfl) (fun _ _ _ h => h) (Or.inr ⟨by rfl, rfl⟩) hHeld ?rest11
        simp only [Act.put, List.setIfInBounds_toArray, List.set_cons_zero, List.set_cons_succ]
        refine wpAnyH_take (i := 11) (oi := ⟨some 24, _, _, _, _, _⟩) (v := undef) rfl (by kernel_rfl) (by kernel_rfl) (by kernel_rfl) (fun _ _ _ h => h) (Or.inr ⟨by rfl, rfl⟩) hHeld ?rest12
        simp only [Act.put, List.setIfInBounds_toArray, List.set_cons_zero, List.set_cons_succ]
        refine wpAnyH_take (i := 12) (oi := ⟨some 25, _, _, _, _, _⟩) (v := undef) rfl (by kernel_rfl) (by kernel_rfl) (by kernel_rfl) (fun _ _ _ h => h) (Or.inr ⟨by rfl, rfl⟩) hHeld ?rest13
        simp only [Act.put, List.setIfInBounds_toArray, List.set_cons_zero, List.set_cons_succ]
        refine wpAnyH_take (i := 13) (oi := ⟨some 26, _, _, _, _, _⟩) (v := undef) rfl (by kernel_rfl) (by kernel_rfl) (by kernel_rfl) (fun _ _ _ h => h) (Or.inr ⟨by rfl, rfl⟩) hHeld ?rest14
        simp only [Act.put, List.setIfInBounds_toArray, List.set_cons_zero, List.set_cons_succ]
        refine wpAnyH_take (i := 14) (oi := ⟨some 27, _, _, _, _, _⟩) (v := undef) rfl (by kernel_rfl) (by kernel_rfl) (by kernel_rfl) (fun _ _ _ h => h) (Or.inr ⟨by rfl, rfl⟩) hHeld ?rest15
        simp only [Act.put, List.setIfInBounds_toArray, List.set_cons_zero, List.set_cons_succ]
        refine wpAnyH_take (i := 15) (oi := ⟨some 28, _, _, _, _, _⟩) (v := undef) rfl (by kernel_rfl) (by kernel_rfl) (by kernel_rfl) (fun _ _ _ h => h) (Or.inr ⟨by rfl, rfl⟩) hHeld ?rest16
        simp only [Act.put, List.setIfInBounds_toArray, List.set_cons_zero, List.set_cons_succ]
        refine wpAnyH_take (i := 16) (oi := ⟨some 29, _, _, _, _, _⟩) (v := undef) rfl (by kernel_rfl) (by kernel_rfl) (by kernel_rfl) (fun _ _ _ h => h) (Or.inr ⟨by rfl, rfl⟩) hHeld ?rest17
        simp only [Act.put, List.setIfInBounds_toArray, List.set_cons_zero, List.set_cons_succ]
        refine wpAnyH_take (i := 17) (oi := ⟨some 30, _, _, _, _, _⟩) (v := undef) rfl (by kernel_rfl) (by kernel_rfl) (by kernel_rfl) (fun _ _ _ h => h) (Or.inr ⟨by rfl, rfl⟩) hHeld ?rest18
        simp only [Act.put, List.setIfInBounds_toArray, List.set_cons_zero, List.set_cons_succ]
        refine wpAnyH_take (i := 18) (oi := ⟨some 31, _, _, _, _, _⟩) (v := undef) rfl (by kernel_rfl) (by kernel_rfl) (by kernel_rfl) (fun _ _ _ h => h) (Or.inr ⟨by rfl, rfl⟩) hHeld ?rest19
        simp only [Act.put, List.setIfInBounds_toArray, List.set_cons_zero, List.set_cons_succ]
        refine wpAnyH_take (i := 19) (oi := ⟨some 32, _, _, _, _, _⟩) (v := undef) rfl (by kernel_rfl) (by kernel_rfl) (by kernel_rfl) (fun _ _ _ h => h) (Or.inr ⟨by rfl, rfl⟩) hHeld ?rest20
        simp only [Act.put, List.setIfInBounds_toArray, List.set_cons_zero, List.set_cons_succ]
        refine wpAnyH_take (i := 20) (oi := ⟨some 33, _, _, _, _, _⟩) (v := undef) rfl (by kernel_rfl) (by kernel_rfl) (by kernel_rfl) (fun _ _ _ h => h) (Or.inr ⟨by rfl, rfl⟩) hHeld ?rest21
        simp only [Act.put, List.setIfInBounds_toArray, List.set_cons_zero, List.set_cons_succ]
        refine wpAnyH_take (i := 21) (oi := ⟨some 34, _, _, _, _, _⟩) (v := ?_) rfl (by kernel_rfl) (by kernel_rfl) (by kernel_rfl) (fun _ _ _ h => h) (Or.inl ⟨by rfl, ?hy22⟩) hHeld ?rest22
        case hy22 => (intro W hSw; (try dsimp only at hSw); go_simp; (try with_reducible rfl))
        simp only [Act.put, List.setIfInBounds_toArray, List.set_cons_zero, List.set_cons_succ]
        refine wpAnyH_done (by kernel_rfl) ?_ _
        obtain ⟨z1, d0, d1, d2, e0, e1, e2⟩ := inv1.b2
        have hbr := below_res inv1.bel (b := w.heap.size) (Nat.le_refl _) (.int .i64 0) (.int .i64 0) (.slice none 0 0)
        clear inv1 n0 n1 n2 n3 hS1 hHeld
        go_wp2
        exact bodyPost_ret (v := .tuple #[.agg #[.int .i64 0, .int .i64 0, .slice none 0 0], .bool false]) (by simp [results, Try.results31, go_sem, d0, d1, d2]) rfl
          ⟨.inl ⟨HNO.out, rfl⟩, hbr⟩
      | true =>
        obtain ⟨gR, gC, x1, x2, x3, x4, x5, _⟩ := fitB_yes hf
        obtain ⟨y1, y2, y3, y4, y5, y6, y7, y8⟩ := stackB_yes hS.out.1
        rw [← hS.out.2.1] at y3 y4 y7
        rw [← hS.out.2.2.1] at y5 y6 y7
        have gr0 : 0 ≤ g.r := by omega
        have gr1 : g.r ≤ 4096 := by omega
        have hcl : cs.length = cells (gs.take k) := by rw [hS.out.2.2.2]; exact flat_len_cells (fun x hx => HH.out.2.2.1 x (List.mem_of_mem_take hx))
        have HCL := Lib.hid hcl
        have HF := Lib.hid hf
        have hfit := fun W => ref_fit g.r g.c g.a g.n g.cap W (by have := HIN.out.2.1; have := HIN.out.2.2.1; omega) true hf
        have ew : IntKind.i64.wrap (R + g.r) = R + g.r := IntWalk.i64_in _ (by omega)
        clear hf x1 x2 x3 x4 x5 y1 y2 y7 hcl
        by_cases hk0 : k = 0
        · have HC : Hid (gs.take k = [] ∨ g.c = side0 (fun g => g.c) (gs.take k)) := Lib.hid (.inl (by rw [hk0]; rfl))
          have hgt : decide (0 < k) = false := decide_eq_false (by omega)
          clear hk0
          go_wp2_with fail
          refine wp_region_held_drew (S := (fun w' => w'.cell? ⟨b, off + k * 3, none⟩ = some (.int .i64 g.r) ∧ w'.cell? ⟨b, off + k * 3 + 1, none⟩ = some (.int .i64 g.c) ∧ w'.cell? ⟨b, off + k * 3 + 2, none⟩ = some (.slice g.a g.n g.cap) ∧ w'.cell? ⟨b, off + 1, none⟩ = some (.int .i64 g1.c))) (by kernel_rfl) ?_ (fun hHeld => ?_)
          · (first | go_keep | (go_split_ands; refine ⟨?_, ?_, ?_, ?_⟩ <;> assumption))
          refine wpAnyH_take (i := 0) (oi := ⟨some 13, _, _, _, _, _⟩) (v := ?_) rfl (by kernel_rfl) (by kernel_rfl) (by kernel_rfl) (fun _ _ _ h => h) (Or.inl ⟨by rfl, ?hy23⟩) hHeld ?rest23
          case hy23 => (intro W hSw; (try dsimp only at hSw); go_simp; (try with_reducible rfl))
          simp only [Act.put, List.setIfInBounds_toArray, List.set_cons_zero, List.set_cons_succ]
          refine wpAnyH_take (i := 1) (oi := ⟨some 14, _, _, _, _, _⟩) (v := ?_) rfl (by kernel_rfl) (by kernel_rfl) (by kernel_rfl) (fun _ _ _ h => h) (Or.inl ⟨by rfl, ?hy24⟩) hHeld ?rest24
          case hy24 => (intro W hSw; (try dsimp only at hSw); go_simp; (try with_reducible rfl))
          simp only [Act.put, List.setIfInBounds_toArray, List.set_cons_zero, List.set_cons_succ]
          refine wpAnyH_take (i := 2) (oi := ⟨some 15, _, _, _, _, _⟩) (v := ?_) rfl (by kernel_rfl) (by kernel_rfl) (by kernel_rfl) (fun _ _ _ h => h) (Or.inl ⟨by rfl, ?hy25⟩) hHeld ?rest25
          case hy25 => (intro W hSw; (try dsimp only at hSw); go_simp; (try with_reducible rfl))
          simp only [Act.put, List.setIfInBounds_toArray, List.set_cons_zero, List.set_cons_succ]
          refine wpAnyH_take (i := 3) (oi := ⟨some 16, _, _, _, _, _⟩) (v := ?_) rfl (by kernel_rfl) (by kernel_rfl) (by kernel_rfl) (fun _ _ _ h => h) (Or.inl ⟨by rfl, ?hy26⟩) hHeld ?rest26
          case hy26 => (intro W hSw; (try dsimp only at hSw); go_simp; (try with_reducible rfl))
          simp only [Act.put, List.setIfInBounds_toArray, List.set_cons_zero, List.set_cons_succ]
          refine wpAnyH_ready (rs := [4]) (by kernel_rfl) (by simp) ?_
          refine AllReadyH.cons (o := ⟨some 17, _, _, _, _, _⟩) rfl (fun K hK => ?_) AllReadyH.nil
          go_simp
          (go_at_call 24; (with_reducible refine (hfit _).mono ?_); rintro e wc ⟨rfl, hb1⟩)
          have hS1 := below_two hS0 hb1
          have inv1 := hinv.out.below hS1
          have n0 := cell_keep c0 hS1
          have n1 := cell_keep c1 hS1
          have n2 := cell_keep c2 hS1
          have n3 := cell_keep c3 hS1
          (try go_wp2_with fail)
          refine hK.out _ _ ?_ (fun hNew => ?_)
          · ((try dsimp only); (first | go_keep | (go_split_ands; refine ⟨?_, ?_, ?_, ?_⟩ <;> assumption)))
          clear hK K hHeld
          have hHeld := hNew
          clear hNew
          try simp only [Act.put, List.setIfInBounds_toArray, List.set_cons_zero, List.set_cons_succ]
          refine wpAnyH_take (i := 5) (oi := ⟨some 18, _, _, _, _, _⟩) (v := ?_) rfl (by kernel_rfl) (by kernel_rfl) (by kernel_rfl) (fun _ _ _ h => h) (Or.inl ⟨by rfl, ?hy28⟩) hHeld ?rest28
          case hy28 => (intro W hSw; (try dsimp only at hSw); go_simp; (try with_reducible rfl))
          simp only [Act.put, List.setIfInBounds_toArray, List.set_cons_zero, List.set_cons_succ]
          refine wpAnyH_take (i := 6) (oi := ⟨some 19, _, _, _, _, _⟩) (v := ?_) rfl (by kernel_rfl) (by kernel_rfl) (by kernel_rfl) (fun _ _ _ h => h) (Or.inl ⟨by rfl, ?hy29⟩) hHeld ?rest29
          case hy29 => (intro W hSw; (try dsimp only at hSw); go_simp; (try with_reducible rfl))
          simp only [Act.put, List.setIfInBounds_toArray, List.set_cons_zero, List.set_cons_succ]
          refine wpAnyH_take (i := 7) (oi := ⟨some 20, _, _, _, _, _⟩) (v := ?_) rfl (by kernel_rfl) (by kernel_rfl) (by kernel_rfl) (fun _ _ _ h => h) (Or.inl ⟨by rfl, ?hy30⟩) hHeld ?rest30
          case hy30 => (intro W hSw; (try dsimp only at hSw); go_simp; (try with_reducible rfl))
          simp only [Act.put, List.setIfInBounds_toArray, List.set_cons_zero, List.set_cons_succ]
          refine wpAnyH_take (i := 8) (oi := ⟨some 21, _, _, _, _, _⟩) (v := ?_) rfl (by kernel_rfl) (by kernel_rfl) (by kernel_rfl) (fun _ _ _ h => h) (Or.inl ⟨by rfl, ?hy31⟩) hHeld ?rest31
          case hy31 => (intro W hSw; (try dsimp only at hSw); go_simp; (try with_reducible rfl))
          simp only [Act.put, List.setIfInBounds_toArray, List.set_cons_zero, List.set_cons_succ]
          refine wpAnyH_take (i := 9) (oi := ⟨some 22, _, _, _, _, _⟩) (v := ?_) rfl (by kernel_rfl) (by kernel_rfl) (by kernel_rfl) (fun _ _ _ h => h) (Or.inl ⟨by rfl, ?hy32⟩) hHeld ?rest32
          case hy32 => (intro W hSw; (try dsimp only at hSw); go_simp; (try with_reducible rfl))
          simp only [Act.put, List.setIfInBounds_toArray, List.set_cons_zero, List.set_cons_succ]
          refine wpAnyH_take (i := 10) (oi := ⟨some 23, _, _, _, _, _⟩) (v := undef) rfl (by kernel_rfl) (by kernel_rfl) (by kernel_rfl) (fun _ _ _ h => h) (Or.inr ⟨by rfl, rfl⟩) hHeld ?rest33
          simp only [Act.put, List.setIfInBounds_toArray, List.set_cons_zero, List.set_cons_succ]
          refine wpAnyH_take (i := 11) (oi := ⟨some 24, _, _, _, _, _⟩) (v := undef) rfl (by kernel_rfl) (by kernel_rfl) (by kernel_rfl) (fun _ _ _ h => h) (Or.inr ⟨by rfl, rfl⟩) hHeld ?rest34
          simp only [Act.put, List.setIfInBounds_toArray, List.set_cons_zero, List.set_cons_succ]
          refine wpAnyH_take (i := 12) (oi := ⟨some 25, _, _, _, _, _⟩) (v := undef) rfl (by kernel_rfl) (by kernel_rfl) (by kernel_rfl) (fun _ _ _ h => h) (Or.inr ⟨by rfl, rfl⟩) hHeld ?rest35
          simp only [Act.put, List.setIfInBounds_toArray, List.set_cons_zero, List.set_cons_succ]
          refine wpAnyH_take (i := 13) (oi := ⟨some 26, _, _, _, _, _⟩) (v := undef) rfl (by kernel_rfl) (by kernel_rfl) (by kernel_rfl) (fun _ _ _ h => h) (Or.inr ⟨by rfl, rfl⟩) hHeld ?rest36
          simp only [Act.put, List.setIfInBounds_toArray, List.set_cons_zero, List.set_cons_succ]
          refine wpAnyH_take (i := 14) (oi := ⟨some 27, _, _, _, _, _⟩) (v := undef) rfl (by kernel_rfl) (by kernel_rfl) (by kernel_rfl) (fun _ _ _ h => h) (Or.inr ⟨by rfl, rfl⟩) hHeld ?rest37
          simp only [Act.put, List.setIfInBounds_toArray, List.set_cons_zero, List.set_cons_succ]
          refine wpAnyH_take (i := 15) (oi := ⟨some 28, _, _, _, _, _⟩) (v := undef) rfl (by kernel_rfl) (by kernel_rfl) (by kernel_rfl) (fun _ _ _ h => h) (Or.inr ⟨by rfl, rfl⟩) hHeld ?rest38
          simp only [Act.put, List.setIfInBounds_toArray, List.set_cons_zero, List.set_cons_succ]
          refine wpAnyH_take (i := 16) (oi := ⟨some 29, _, _, _, _, _⟩) (v := undef) rfl (by kernel_rfl) (by kernel_rfl) (by kernel_rfl) (fun _ _ _ h => h) (Or.inr ⟨by rfl, rfl⟩) hHeld ?rest39
          simp only [Act.put, List.setIfInBounds_toArray, List.set_cons_zero, List.set_cons_succ]
          refine wpAnyH_take (i := 17) (oi := ⟨some 30, _, _, _, _, _⟩) (v := undef) rfl (by kernel_rfl) (by kernel_rfl) (by kernel_rfl) (fun _ _ _ h => h) (Or.inr ⟨by rfl, rfl⟩) hHeld ?rest40
          simp only [Act.put, List.setIfInBounds_toArray, List.set_cons_zero, List.set_cons_succ]
          refine wpAnyH_take (i := 18) (oi := ⟨some 31, _, _, _, _, _⟩) (v := undef) rfl (by kernel_rfl) (by kernel_rfl) (by kernel_rfl) (fun _ _ _ h => h) (Or.inr ⟨by rfl, rfl⟩) hHeld ?rest41
          simp only [Act.put, List.setIfInBounds_toArray, List.set_cons_zero, List.set_cons_succ]
          refine wpAnyH_take (i := 19) (oi := ⟨some 32, _, _, _, _, _⟩) (v := undef) rfl (by kernel_rfl) (by kernel_rfl) (by kernel_rfl) (fun _ _ _ h => h) (Or.inr ⟨by rfl, rfl⟩) hHeld ?rest42
          simp only [Act.put, List.setIfInBounds_toArray, List.set_cons_zero, List.set_cons_succ]
          refine wpAnyH_take (i := 20) (oi := ⟨some 33, _, _, _, _, _⟩) (v := ?_) rfl (by kernel_rfl) (by kernel_rfl) (by kernel_rfl) (fun _ _ _ h => h) (Or.inl ⟨by rfl, ?hy43⟩) hHeld ?rest43
          case hy43 => (intro W hSw; (try dsimp only at hSw); go_simp; (try with_reducible rfl))
          simp only [Act.put, List.setIfInBounds_toArray, List.set_cons_zero, List.set_cons_succ]
          refine wpAnyH_take (i := 21) (oi := ⟨some 34, _, _, _, _, _⟩) (v := ?_) rfl (by kernel_rfl) (by kernel_rfl) (by kernel_rfl) (fun _ _ _ h => h) (Or.inl ⟨by rfl, ?hy44⟩) hHeld ?rest44
          case hy44 => (intro W hSw; (try dsimp only at hSw); go_simp; (try with_reducible rfl))
          simp only [Act.put, List.setIfInBounds_toArray, List.set_cons_zero, List.set_cons_succ]
          refine wpAnyH_done (by kernel_rfl) ?_ _
          have HI := Lib.hid inv1
          obtain ⟨z1, d0, d1, d2, e0, e1, e2⟩ := inv1.b3
          have hne : ¬ b = w.heap.size + 1 := by omega
          have hbb := hS1.size
          clear inv1 hHeld c0 c1 c2 c3 hinv
          go_wp2_with fail
          go_region
          all_goals go_wp2_with fail
          obtain ⟨W2, hW2⟩ : ∃ W2, W2 = ((wc.setCell ⟨w.heap.size + 1, 0, none⟩ (.int .i64 (R + g.r))).setCell ⟨w.heap.size + 1, 1, none⟩ (.int .i64 g.c)).drew := ⟨_, rfl⟩
          rw [← hW2]
          have inv2 : StkInv w (w.heap.size + 1) (R + g.r) g.c u cs W2 := by rw [hW2]; exact (HI.out.set01 _ _).drew
          have hmore := stack_more hS.out.1 HF.out HC.out
          rw [← hS.out.2.1, ← HCL.out, ← htk.out] at hmore
          have hcs : cs ++ g.v = (gs.take (k + 1)).flatMap Gr.v := by rw [htk.out, List.flatMap_append, hS.out.2.2.2]; simp
          have hwf : ∀ x ∈ cs ++ g.v, (Lit.int .i32 x).wf = true := by rw [hcs]; exact take_wf (fun x hx => HH.out.2.2.1 x (List.mem_of_mem_take hx))
          have hlen : (cs ++ g.v).length = cs.length + g.n := by rw [List.length_append, HIN.out.1.1]
          have hcl8 : cs.length ≤ 1048576 := by rw [HCL.out]; exact y8
          obtain ⟨u', w3, hrun, ⟨_, s0, s1, s2, t0, t1, t2⟩, hnext⟩ := inv2.drew.app g.a g.n g.cap g.v (HIN.out.below inv2.drew.bel).1 HIN.out.2.2.2.1 HIN.out.2.1 hgn (by omega)
          obtain ⟨ua, ucap, hu, _⟩ := own_form hnext.own (by omega) hwf
          subst hu
          rw [hlen] at hrun hnext
          have p2 := cell_keep HM2.out inv2.bel
          obtain ⟨_, q0, q1, q2, _, _, _⟩ := inv2.b3
          have HN := Lib.hid hnext
          have HCS := Lib.hid hcs
          have HLEN := Lib.hid hlen
          have HMORE := Lib.hid hmore
          obtain ⟨_, r0, r1, r2, _, _, _⟩ := hnext.b3
          clear hW2 inv2 hcs hwf hlen hnext hmore d0 d1 d2 e0 e1 e2 n0 n1 n2 n3 z1
          go_region_law (refine step_append_run (by rfl) _ _ _ (by rfl) _ _ (by rfl) (by rfl) hrun ?_)
          all_goals go_wp2_with fail
          all_goals
            cases hx : fitB (R + g.r) g.c (cs.length + g.n) with
            | false =>
              refine (ref_fit (R + g.r) g.c ua (cs.length + g.n) ucap _ (by omega) false hx).mono ?_
              rintro e w4 ⟨rfl, hb4⟩
              have HNO : Hid (stackB gs = false) := Lib.hid (stack_not_take (k := k + 1) (by rw [← HMORE.out.2]; exact hx))
              have inv4 := HN.out.below hb4
              obtain ⟨_, d0, d1, d2, e0, e1, e2⟩ := inv4.b2
              have hbr := below_res inv4.bel (b := w.heap.size) (Nat.le_refl _) (.int .i64 0) (.int .i64 0) (.slice none 0 0)
              clear hx hb4 inv4 r0 r1 r2 s0 s1 s2 t0 t1 t2 q0 q1 q2 p2 hrun
              go_wp2
              exact bodyPost_ret (v := .tuple #[.agg #[.int .i64 0, .int .i64 0, .slice none 0 0], .bool false]) (by simp [results, Try.results31, go_sem, d0, d1, d2]) rfl
                ⟨.inl ⟨HNO.out, rfl⟩, hbr⟩
            | true =>
              refine (ref_fit (R + g.r) g.c ua (cs.length + g.n) ucap _ (by omega) true hx).mono ?_
              rintro e w4 ⟨rfl, hb4⟩
              have inv4 := Lib.hid (HN.out.below hb4)
              have hrel2 := Lib.hid (show stackB (gs.take (k + 1)) = true ∧ R + g.r = sumOf (fun g => g.r) (gs.take (k + 1)) ∧ g.c = side0 (fun g => g.c) (gs.take (k + 1)) ∧ cs ++ g.v = (gs.take (k + 1)).flatMap Gr.v from
                ⟨by rw [← HMORE.out.2]; exact hx, by rw [htk.out, sumOf_app, sumOf_one, hS.out.2.1], HMORE.out.1.symm, HCS.out⟩)
              clear hx hb4 r0 r1 r2 s0 s1 s2 t0 t1 t2 q0 q1 q2 p2 hrun
              go_wp2
              go_roundw
              case rel => exact ⟨k + 1, _, _, _, _, by omega, by go_num, hrel2, inv4⟩
              case measure => simp [intOf]; omega
        · have hgt : decide (0 < k) = true := decide_eq_true (by omega)
          have hs0 : side0 (fun g => g.c) (gs.take k) = g1.c := by
            have h9 := hg1.out
            rcases hgs : gs with _ | ⟨y, ys⟩
            · rw [hgs] at hkl; simp at hkl
            · rw [hgs] at h9
              obtain ⟨m, rfl⟩ : ∃ m, k = m + 1 := ⟨k - 1, by omega⟩
              rw [← h9]; simp [side0]
          by_cases hcc : g.c = g1.c
          · have HC : Hid (gs.take k = [] ∨ g.c = side0 (fun g => g.c) (gs.take k)) := Lib.hid (.inr (by rw [hs0]; exact hcc))
            have hcd : (g.c != g1.c) = false := by simp [hcc]
            clear hk0 hs0 hcc
            go_wp2_with fail
            refine wp_region_held_drew (S := (fun w' => w'.cell? ⟨b, off + k * 3, none⟩ = some (.int .i64 g.r) ∧ w'.cell? ⟨b, off + k * 3 + 1, none⟩ = some (.int .i64 g.c) ∧ w'.cell? ⟨b, off + k * 3 + 2, none⟩ = some (.slice g.a g.n g.cap) ∧ w'.cell? ⟨b, off + 1, none⟩ = some (.int .i64 g1.c))) (by kernel_rfl) ?_ (fun hHeld => ?_)
            · (first | go_keep | (go_split_ands; refine ⟨?_, ?_, ?_, ?_⟩ <;> assumption))
            refine wpAnyH_take (i := 0) (oi := ⟨some 13, _, _, _, _, _⟩) (v := ?_) rfl (by kernel_rfl) (by kernel_rfl) (by kernel_rfl) (fun _ _ _ h => h) (Or.inl ⟨by rfl, ?hy45⟩) hHeld ?rest45
            case hy45 => (intro W hSw; (try dsimp only at hSw); go_simp; (try with_reducible rfl))
            simp only [Act.put, List.setIfInBounds_toArray, List.set_cons_zero, List.set_cons_succ]
            refine wpAnyH_take (i := 1) (oi := ⟨some 14, _, _, _, _, _⟩) (v := ?_) rfl (by kernel_rfl) (by kernel_rfl) (by kernel_rfl) (fun _ _ _ h => h) (Or.inl ⟨by rfl, ?hy46⟩) hHeld ?rest46
            case hy46 => (intro W hSw; (try dsimp only at hSw); go_simp; (try with_reducible rfl))
            simp only [Act.put, List.setIfInBounds_toArray, List.set_cons_zero, List.set_cons_succ]
            refine wpAnyH_take (i := 2) (oi := ⟨some 15, _, _, _, _, _⟩) (v := ?_) rfl (by kernel_rfl) (by kernel_rfl) (by kernel_rfl) (fun _ _ _ h => h) (Or.inl ⟨by rfl, ?hy47⟩) hHeld ?rest47
            case hy47 => (intro W hSw; (try dsimp only at hSw); go_simp; (try with_reducible rfl))
            simp only [Act.put, List.setIfInBounds_toArray, List.set_cons_zero, List.set_cons_succ]
            refine wpAnyH_take (i := 3) (oi := ⟨some 16, _, _, _, _, _⟩) (v := ?_) rfl (by kernel_rfl) (by kernel_rfl) (by kernel_rfl) (fun _ _ _ h => h) (Or.inl ⟨by rfl, ?hy48⟩) hHeld ?rest48
            case hy48 => (intro W hSw; (try dsimp only at hSw); go_simp; (try with_reducible rfl))
            simp only [Act.put, List.setIfInBounds_toArray, List.set_cons_zero, List.set_cons_succ]
            refine wpAnyH_ready (rs := [4]) (by kernel_rfl) (by simp) ?_
            refine AllReadyH.cons (o := ⟨some 17, _, _, _, _, _⟩) rfl (fun K hK => ?_) AllReadyH.nil
            go_simp
            (go_at_call 24; (with_reducible refine (hfit _).mono ?_); rintro e wc ⟨rfl, hb1⟩)
            have hS1 := below_two hS0 hb1
            have inv1 := hinv.out.below hS1
            have n0 := cell_keep c0 hS1
            have n1 := cell_keep c1 hS1
            have n2 := cell_keep c2 hS1
            have n3 := cell_keep c3 hS1
            (try go_wp2_with fail)
            refine hK.out _ _ ?_ (fun hNew => ?_)
            · ((try dsimp only); (first | go_keep | (go_split_ands; refine ⟨?_, ?_, ?_, ?_⟩ <;> assumption)))
            clear hK K hHeld
            have hHeld := hNew
            clear hNew
            try simp only [Act.put, List.setIfInBounds_toArray, List.set_cons_zero, List.set_cons_succ]
            refine wpAnyH_take (i := 5) (oi := ⟨some 18, _, _, _, _, _⟩) (v := ?_) rfl (by kernel_rfl) (by kernel_rfl) (by kernel_rfl) (fun _ _ _ h => h) (Or.inl ⟨by rfl, ?hy50⟩) hHeld ?rest50
            case hy50 => (intro W hSw; (try dsimp only at hSw); go_simp; (try with_reducible rfl))
            simp only [Act.put, List.setIfInBounds_toArray, List.set_cons_zero, List.set_cons_succ]
            refine wpAnyH_take (i := 6) (oi := ⟨some 19, _, _, _, _, _⟩) (v := ?_) rfl (by kernel_rfl) (by kernel_rfl) (by kernel_rfl) (fun _ _ _ h => h) (Or.inl ⟨by rfl, ?hy51⟩) hHeld ?rest51
            case hy51 => (intro W hSw; (try dsimp only at hSw); go_simp; (try with_reducible rfl))
            simp only [Act.put, List.setIfInBounds_toArray, List.set_cons_zero, List.set_cons_succ]
            refine wpAnyH_take (i := 7) (oi := ⟨some 20, _, _, _, _, _⟩) (v := ?_) rfl (by kernel_rfl) (by kernel_rfl) (by kernel_rfl) (fun _ _ _ h => h) (Or.inl ⟨by rfl, ?hy52⟩) hHeld ?rest52
            case hy52 => (intro W hSw; (try dsimp only at hSw); go_simp; (try with_reducible rfl))
            simp only [Act.put, List.setIfInBounds_toArray, List.set_cons_zero, List.set_cons_succ]
            refine wpAnyH_take (i := 8) (oi := ⟨some 21, _, _, _, _, _⟩) (v := ?_) rfl (by kernel_rfl) (by kernel_rfl) (by kernel_rfl) (fun _ _ _ h => h) (Or.inl ⟨by rfl, ?hy53⟩) hHeld ?rest53
            case hy53 => (intro W hSw; (try dsimp only at hSw); go_simp; (try with_reducible rfl))
            simp only [Act.put, List.setIfInBounds_toArray, List.set_cons_zero, List.set_cons_succ]
            refine wpAnyH_take (i := 9) (oi := ⟨some 22, _, _, _, _, _⟩) (v := ?_) rfl (by kernel_rfl) (by kernel_rfl) (by kernel_rfl) (fun _ _ _ h => h) (Or.inl ⟨by rfl, ?hy54⟩) hHeld ?rest54
            case hy54 => (intro W hSw; (try dsimp only at hSw); go_simp; (try with_reducible rfl))
            simp only [Act.put, List.setIfInBounds_toArray, List.set_cons_zero, List.set_cons_succ]
            refine wpAnyH_take (i := 10) (oi := ⟨some 23, _, _, _, _, _⟩) (v := ?_) rfl (by kernel_rfl) (by kernel_rfl) (by kernel_rfl) (fun _ _ _ h => h) (Or.inl ⟨by rfl, ?hy55⟩) hHeld ?rest55
            case hy55 => (intro W hSw; (try dsimp only at hSw); go_simp; (try with_reducible rfl))
            simp only [Act.put, List.setIfInBounds_toArray, List.set_cons_zero, List.set_cons_succ]
            refine wpAnyH_take (i := 11) (oi := ⟨some 24, _, _, _, _, _⟩) (v := ?_) rfl (by kernel_rfl) (by kernel_rfl) (by kernel_rfl) (fun _ _ _ h => h) (Or.inl ⟨by rfl, ?hy56⟩) hHeld ?rest56
            case hy56 => (intro W hSw; (try dsimp only at hSw); go_simp; (try with_reducible rfl))
            simp only [Act.put, List.setIfInBounds_toArray, List.set_cons_zero, List.set_cons_succ]
            refine wpAnyH_take (i := 12) (oi := ⟨some 25, _, _, _, _, _⟩) (v := ?_) rfl (by kernel_rfl) (by kernel_rfl) (by kernel_rfl) (fun _ _ _ h => h) (Or.inl ⟨by rfl, ?hy57⟩) hHeld ?rest57
            case hy57 => (intro W hSw; (try dsimp only at hSw); go_simp; (try with_reducible rfl))
            simp only [Act.put, List.setIfInBounds_toArray, List.set_cons_zero, List.set_cons_succ]
            refine wpAnyH_take (i := 13) (oi := ⟨some 26, _, _, _, _, _⟩) (v := ?_) rfl (by kernel_rfl) (by kernel_rfl) (by kernel_rfl) (fun _ _ _ h => h) (Or.inl ⟨by rfl, ?hy58⟩) hHeld ?rest58
            case hy58 => (intro W hSw; (try dsimp only at hSw); go_simp; (try with_reducible rfl))
            simp only [Act.put, List.setIfInBounds_toArray, List.set_cons_zero, List.set_cons_succ]
            refine wpAnyH_take (i := 14) (oi := ⟨some 27, _, _, _, _, _⟩) (v := ?_) rfl (by kernel_rfl) (by kernel_rfl) (by kernel_rfl) (fun _ _ _ h => h) (Or.inl ⟨by rfl, ?hy59⟩) hHeld ?rest59
            case hy59 => (intro W hSw; (try dsimp only at hSw); go_simp; (try with_reducible rfl))
            simp only [Act.put, List.setIfInBounds_toArray, List.set_cons_zero, List.set_cons_succ]
            refine wpAnyH_take (i := 15) (oi := ⟨some 28, _, _, _, _, _⟩) (v := ?_) rfl (by kernel_rfl) (by kernel_rfl) (by kernel_rfl) (fun _ _ _ h => h) (Or.inl ⟨by rfl, ?hy60⟩) hHeld ?rest60
            case hy60 => (intro W hSw; (try dsimp only at hSw); go_simp; (try with_reducible rfl))
            simp only [Act.put, List.setIfInBounds_toArray, List.set_cons_zero, List.set_cons_succ]
            refine wpAnyH_take (i := 16) (oi := ⟨some 29, _, _, _, _, _⟩) (v := ?_) rfl (by kernel_rfl) (by kernel_rfl) (by kernel_rfl) (fun _ _ _ h => h) (Or.inl ⟨by rfl, ?hy61⟩) hHeld ?rest61
            case hy61 => (intro W hSw; (try dsimp only at hSw); go_simp; (try with_reducible rfl))
            simp only [Act.put, List.setIfInBounds_toArray, List.set_cons_zero, List.set_cons_succ]
            refine wpAnyH_take (i := 17) (oi := ⟨some 30, _, _, _, _, _⟩) (v := ?_) rfl (by kernel_rfl) (by kernel_rfl) (by kernel_rfl) (fun _ _ _ h => h) (Or.inl ⟨by rfl, ?hy62⟩) hHeld ?rest62
            case hy62 => (intro W hSw; (try dsimp only at hSw); go_simp; (try with_reducible rfl))
            simp only [Act.put, List.setIfInBounds_toArray, List.set_cons_zero, List.set_cons_succ]
            refine wpAnyH_take (i := 18) (oi := ⟨some 31, _, _, _, _, _⟩) (v := ?_) rfl (by kernel_rfl) (by kernel_rfl) (by kernel_rfl) (fun _ _ _ h => h) (Or.inl ⟨by rfl, ?hy63⟩) hHeld ?rest63
            case hy63 => (intro W hSw; (try dsimp only at hSw); go_simp; (try with_reducible rfl))
            simp only [Act.put, List.setIfInBounds_toArray, List.set_cons_zero, List.set_cons_succ]
            refine wpAnyH_take (i := 19) (oi := ⟨some 32, _, _, _, _, _⟩) (v := ?_) rfl (by kernel_rfl) (by kernel_rfl) (by kernel_rfl) (fun _ _ _ h => h) (Or.inl ⟨by rfl, ?hy64⟩) hHeld ?rest64
            case hy64 => (intro W hSw; (try dsimp only at hSw); go_simp; (try with_reducible rfl))
            simp only [Act.put, List.setIfInBounds_toArray, List.set_cons_zero, List.set_cons_succ]
            refine wpAnyH_take (i := 20) (oi := ⟨some 33, _, _, _, _, _⟩) (v := ?_) rfl (by kernel_rfl) (by kernel_rfl) (by kernel_rfl) (fun _ _ _ h => h) (Or.inl ⟨by rfl, ?hy65⟩) hHeld ?rest65
            case hy65 => (intro W hSw; (try dsimp only at hSw); go_simp; (try with_reducible rfl))
            simp only [Act.put, List.setIfInBounds_toArray, List.set_cons_zero, List.set_cons_succ]
            refine wpAnyH_take (i := 21) (oi := ⟨some 34, _, _, _, _, _⟩) (v := ?_) rfl (by kernel_rfl) (by kernel_rfl) (by kernel_rfl) (fun _ _ _ h => h) (Or.inl ⟨by rfl, ?hy66⟩) hHeld ?rest66
            case hy66 => (intro W hSw; (try dsimp only at hSw); go_simp; (try with_reducible rfl))
            simp only [Act.put, List.setIfInBounds_toArray, List.set_cons_zero, List.set_cons_succ]
            refine wpAnyH_done (by kernel_rfl) ?_ _
            have HI := Lib.hid inv1
            obtain ⟨z1, d0, d1, d2, e0, e1, e2⟩ := inv1.b3
            have hne : ¬ b = w.heap.size + 1 := by omega
            have hbb := hS1.size
            clear inv1 hHeld c0 c1 c2 c3 hinv
            go_wp2_with fail
            go_region
            all_goals go_wp2_with fail
            obtain ⟨W2, hW2⟩ : ∃ W2, W2 = ((wc.setCell ⟨w.heap.size + 1, 0, none⟩ (.int .i64 (R + g.r))).setCell ⟨w.heap.size + 1, 1, none⟩ (.int .i64 g.c)).drew := ⟨_, rfl⟩
            rw [← hW2]
            have inv2 : StkInv w (w.heap.size + 1) (R + g.r) g.c u cs W2 := by rw [hW2]; exact (HI.out.set01 _ _).drew
            have hmore := stack_more hS.out.1 HF.out HC.out
            rw [← hS.out.2.1, ← HCL.out, ← htk.out] at hmore
            have hcs : cs ++ g.v = (gs.take (k + 1)).flatMap Gr.v := by rw [htk.out, List.flatMap_append, hS.out.2.2.2]; simp
            have hwf : ∀ x ∈ cs ++ g.v, (Lit.int .i32 x).wf = true := by rw [hcs]; exact take_wf (fun x hx => HH.out.2.2.1 x (List.mem_of_mem_take hx))
            have hlen : (cs ++ g.v).length = cs.length + g.n := by rw [List.length_append, HIN.out.1.1]
            have hcl8 : cs.length ≤ 1048576 := by rw [HCL.out]; exact y8
            obtain ⟨u', w3, hrun, ⟨_, s0, s1, s2, t0, t1, t2⟩, hnext⟩ := inv2.drew.app g.a g.n g.cap g.v (HIN.out.below inv2.drew.bel).1 HIN.out.2.2.2.1 HIN.out.2.1 hgn (by omega)
            obtain ⟨ua, ucap, hu, _⟩ := own_form hnext.own (by omega) hwf
            subst hu
            rw [hlen] at hrun hnext
            have p2 := cell_keep HM2.out inv2.bel
            obtain ⟨_, q0, q1, q2, _, _, _⟩ := inv2.b3
            have HN := Lib.hid hnext
            have HCS := Lib.hid hcs
            have HLEN := Lib.hid hlen
            have HMORE := Lib.hid hmore
            obtain ⟨_, r0, r1, r2, _, _, _⟩ := hnext.b3
            clear hW2 inv2 hcs hwf hlen hnext hmore d0 d1 d2 e0 e1 e2 n0 n1 n2 n3 z1
            go_region_law (refine step_append_run (by rfl) _ _ _ (by rfl) _ _ (by rfl) (by rfl) hrun ?_)
            all_goals go_wp2_with fail
            all_goals
              cases hx : fitB (R + g.r) g.c (cs.length + g.n) with
              | false =>
                refine (ref_fit (R + g.r) g.c ua (cs.length + g.n) ucap _ (by omega) false hx).mono ?_
                rintro e w4 ⟨rfl, hb4⟩
                have HNO : Hid (stackB gs = false) := Lib.hid (stack_not_take (k := k + 1) (by rw [← HMORE.out.2]; exact hx))
                have inv4 := HN.out.below hb4
                obtain ⟨_, d0, d1, d2, e0, e1, e2⟩ := inv4.b2
                have hbr := below_res inv4.bel (b := w.heap.size) (Nat.le_refl _) (.int .i64 0) (.int .i64 0) (.slice none 0 0)
                clear hx hb4 inv4 r0 r1 r2 s0 s1 s2 t0 t1 t2 q0 q1 q2 p2 hrun
                go_wp2
                exact bodyPost_ret (v := .tuple #[.agg #[.int .i64 0, .int .i64 0, .slice none 0 0], .bool false]) (by simp [results, Try.results31, go_sem, d0, d1, d2]) rfl
                  ⟨.inl ⟨HNO.out, rfl⟩, hbr⟩
              | true =>
                refine (ref_fit (R + g.r) g.c ua (cs.length + g.n) ucap _ (by omega) true hx).mono ?_
                rintro e w4 ⟨rfl, hb4⟩
                have inv4 := Lib.hid (HN.out.below hb4)
                have hrel2 := Lib.hid (show stackB (gs.take (k + 1)) = true ∧ R + g.r = sumOf (fun g => g.r) (gs.take (k + 1)) ∧ g.c = side0 (fun g => g.c) (gs.take (k + 1)) ∧ cs ++ g.v = (gs.take (k + 1)).flatMap Gr.v from
                  ⟨by rw [← HMORE.out.2]; exact hx, by rw [htk.out, sumOf_app, sumOf_one, hS.out.2.1], HMORE.out.1.symm, HCS.out⟩)
                clear hx hb4 r0 r1 r2 s0 s1 s2 t0 t1 t2 q0 q1 q2 p2 hrun
                go_wp2
                go_roundw
                case rel => exact ⟨k + 1, _, _, _, _, by omega, by go_num, hrel2, inv4⟩
                case measure => simp [intOf]; omega
          · have HNO : Hid (stackB gs = false) := Lib.hid (stack_not_take (k := k + 1) (by rw [htk.out]; exact stack_uncommon (fun e => by have := congrArg List.length e; rw [List.length_take, List.length_nil] at this; omega) (by rw [hs0]; exact hcc)))
            have hcd : (g.c != g1.c) = true := by simp [hcc]
            clear hk0 hs0 hcc
            go_wp2_with fail
            refine wp_region_held_drew (S := (fun w' => w'.cell? ⟨b, off + k * 3, none⟩ = some (.int .i64 g.r) ∧ w'.cell? ⟨b, off + k * 3 + 1, none⟩ = some (.int .i64 g.c) ∧ w'.cell? ⟨b, off + k * 3 + 2, none⟩ = some (.slice g.a g.n g.cap) ∧ w'.cell? ⟨b, off + 1, none⟩ = some (.int .i64 g1.c))) (by kernel_rfl) ?_ (fun hHeld => ?_)
            · (first | go_keep | (go_split_ands; refine ⟨?_, ?_, ?_, ?_⟩ <;> assumption))
            refine wpAnyH_take (i := 0) (oi := ⟨some 13, _, _, _, _, _⟩) (v := ?_) rfl (by kernel_rfl) (by kernel_rfl) (by kernel_rfl) (fun _ _ _ h => h) (Or.inl ⟨by rfl, ?hy67⟩) hHeld ?rest67
            case hy67 => (intro W hSw; (try dsimp only at hSw); go_simp; (try with_reducible rfl))
            simp only [Act.put, List.setIfInBounds_toArray, List.set_cons_zero, List.set_cons_succ]
            refine wpAnyH_take (i := 1) (oi := ⟨some 14, _, _, _, _, _⟩) (v := ?_) rfl (by kernel_rfl) (by kernel_rfl) (by kernel_rfl) (fun _ _ _ h => h) (Or.inl ⟨by rfl, ?hy68⟩) hHeld ?rest68
            case hy68 => (intro W hSw; (try dsimp only at hSw); go_simp; (try with_reducible rfl))
            simp only [Act.put, List.setIfInBounds_toArray, List.set_cons_zero, List.set_cons_succ]
            refine wpAnyH_take (i := 2) (oi := ⟨some 15, _, _, _, _, _⟩) (v := ?_) rfl (by kernel_rfl) (by kernel_rfl) (by kernel_rfl) (fun _ _ _ h => h) (Or.inl ⟨by rfl, ?hy69⟩) hHeld ?rest69
            case hy69 => (intro W hSw; (try dsimp only at hSw); go_simp; (try with_reducible rfl))
            simp only [Act.put, List.setIfInBounds_toArray, List.set_cons_zero, List.set_cons_succ]
            refine wpAnyH_take (i := 3) (oi := ⟨some 16, _, _, _, _, _⟩) (v := ?_) rfl (by kernel_rfl) (by kernel_rfl) (by kernel_rfl) (fun _ _ _ h => h) (Or.inl ⟨by rfl, ?hy70⟩) hHeld ?rest70
            case hy70 => (intro W hSw; (try dsimp only at hSw); go_simp; (try with_reducible rfl))
            simp only [Act.put, List.setIfInBounds_toArray, List.set_cons_zero, List.set_cons_succ]
            refine wpAnyH_ready (rs := [4]) (by kernel_rfl) (by simp) ?_
            refine AllReadyH.cons (o := ⟨some 17, _, _, _, _, _⟩) rfl (fun K hK => ?_) AllReadyH.nil
            go_simp
            (go_at_call 24; (with_reducible refine (hfit _).mono ?_); rintro e wc ⟨rfl, hb1⟩)
            have hS1 := below_two hS0 hb1
            have inv1 := hinv.out.below hS1
            have n0 := cell_keep c0 hS1
            have n1 := cell_keep c1 hS1
            have n2 := cell_keep c2 hS1
            have n3 := cell_keep c3 hS1
            (try go_wp2_with fail)
            refine hK.out _ _ ?_ (fun hNew => ?_)
            · ((try dsimp only); (first | go_keep | (go_split_ands; refine ⟨?_, ?_, ?_, ?_⟩ <;> assumption)))
            clear hK K hHeld
            have hHeld := hNew
            clear hNew
            try simp only [Act.put, List.setIfInBounds_toArray, List.set_cons_zero, List.set_cons_succ]
            refine wpAnyH_take (i := 5) (oi := ⟨some 18, _, _, _, _, _⟩) (v := ?_) rfl (by kernel_rfl) (by kernel_rfl) (by kernel_rfl) (fun _ _ _ h => h) (Or.inl ⟨by rfl, ?hy72⟩) hHeld ?rest72
            case hy72 => (intro W hSw; (try dsimp only at hSw); go_simp; (try with_reducible rfl))
            simp only [Act.put, List.setIfInBounds_toArray, List.set_cons_zero, List.set_cons_succ]
            refine wpAnyH_take (i := 6) (oi := ⟨some 19, _, _, _, _, _⟩) (v := ?_) rfl (by kernel_rfl) (by kernel_rfl) (by kernel_rfl) (fun _ _ _ h => h) (Or.inl ⟨by rfl, ?hy73⟩) hHeld ?rest73
            case hy73 => (intro W hSw; (try dsimp only at hSw); go_simp; (try with_reducible rfl))
            simp only [Act.put, List.setIfInBounds_toArray, List.set_cons_zero, List.set_cons_succ]
            refine wpAnyH_take (i := 7) (oi := ⟨some 20, _, _, _, _, _⟩) (v := ?_) rfl (by kernel_rfl) (by kernel_rfl) (by kernel_rfl) (fun _ _ _ h => h) (Or.inl ⟨by rfl, ?hy74⟩) hHeld ?rest74
            case hy74 => (intro W hSw; (try dsimp only at hSw); go_simp; (try with_reducible rfl))
            simp only [Act.put, List.setIfInBounds_toArray, List.set_cons_zero, List.set_cons_succ]
            refine wpAnyH_take (i := 8) (oi := ⟨some 21, _, _, _, _, _⟩) (v := ?_) rfl (by kernel_rfl) (by kernel_rfl) (by kernel_rfl) (fun _ _ _ h => h) (Or.inl ⟨by rfl, ?hy75⟩) hHeld ?rest75
            case hy75 => (intro W hSw; (try dsimp only at hSw); go_simp; (try with_reducible rfl))
            simp only [Act.put, List.setIfInBounds_toArray, List.set_cons_zero, List.set_cons_succ]
            refine wpAnyH_take (i := 9) (oi := ⟨some 22, _, _, _, _, _⟩) (v := ?_) rfl (by kernel_rfl) (by kernel_rfl) (by kernel_rfl) (fun _ _ _ h => h) (Or.inl ⟨by rfl, ?hy76⟩) hHeld ?rest76
            case hy76 => (intro W hSw; (try dsimp only at hSw); go_simp; (try with_reducible rfl))
            simp only [Act.put, List.setIfInBounds_toArray, List.set_cons_zero, List.set_cons_succ]
            refine wpAnyH_take (i := 10) (oi := ⟨some 23, _, _, _, _, _⟩) (v := ?_) rfl (by kernel_rfl) (by kernel_rfl) (by kernel_rfl) (fun _ _ _ h => h) (Or.inl ⟨by rfl, ?hy77⟩) hHeld ?rest77
            case hy77 => (intro W hSw; (try dsimp only at hSw); go_simp; (try with_reducible rfl))
            simp only [Act.put, List.setIfInBounds_toArray, List.set_cons_zero, List.set_cons_succ]
            refine wpAnyH_take (i := 11) (oi := ⟨some 24, _, _, _, _, _⟩) (v := ?_) rfl (by kernel_rfl) (by kernel_rfl) (by kernel_rfl) (fun _ _ _ h => h) (Or.inl ⟨by rfl, ?hy78⟩) hHeld ?rest78
            case hy78 => (intro W hSw; (try dsimp only at hSw); go_simp; (try with_reducible rfl))
            simp only [Act.put, List.setIfInBounds_toArray, List.set_cons_zero, List.set_cons_succ]
            refine wpAnyH_take (i := 12) (oi := ⟨some 25, _, _, _, _, _⟩) (v := ?_) rfl (by kernel_rfl) (by kernel_rfl) (by kernel_rfl) (fun _ _ _ h => h) (Or.inl ⟨by rfl, ?hy79⟩) hHeld ?rest79
            case hy79 => (intro W hSw; (try dsimp only at hSw); go_simp; (try with_reducible rfl))
            simp only [Act.put, List.setIfInBounds_toArray, List.set_cons_zero, List.set_cons_succ]
            refine wpAnyH_take (i := 13) (oi := ⟨some 26, _, _, _, _, _⟩) (v := ?_) rfl (by kernel_rfl) (by kernel_rfl) (by kernel_rfl) (fun _ _ _ h => h) (Or.inl ⟨by rfl, ?hy80⟩) hHeld ?rest80
            case hy80 => (intro W hSw; (try dsimp only at hSw); go_simp; (try with_reducible rfl))
            simp only [Act.put, List.setIfInBounds_toArray, List.set_cons_zero, List.set_cons_succ]
            refine wpAnyH_take (i := 14) (oi := ⟨some 27, _, _, _, _, _⟩) (v := ?_) rfl (by kernel_rfl) (by kernel_rfl) (by kernel_rfl) (fun _ _ _ h => h) (Or.inl ⟨by rfl, ?hy81⟩) hHeld ?rest81
            case hy81 => (intro W hSw; (try dsimp only at hSw); go_simp; (try with_reducible rfl))
            simp only [Act.put, List.setIfInBounds_toArray, List.set_cons_zero, List.set_cons_succ]
            refine wpAnyH_take (i := 15) (oi := ⟨some 28, _, _, _, _, _⟩) (v := ?_) rfl (by kernel_rfl) (by kernel_rfl) (by kernel_rfl) (fun _ _ _ h => h) (Or.inl ⟨by rfl, ?hy82⟩) hHeld ?rest82
            case hy82 => (intro W hSw; (try dsimp only at hSw); go_simp; (try with_reducible rfl))
            simp only [Act.put, List.setIfInBounds_toArray, List.set_cons_zero, List.set_cons_succ]
            refine wpAnyH_take (i := 16) (oi := ⟨some 29, _, _, _, _, _⟩) (v := ?_) rfl (by kernel_rfl) (by kernel_rfl) (by kernel_rfl) (fun _ _ _ h => h) (Or.inl ⟨by rfl, ?hy83⟩) hHeld ?rest83
            case hy83 => (intro W hSw; (try dsimp only at hSw); go_simp; (try with_reducible rfl))
            simp only [Act.put, List.setIfInBounds_toArray, List.set_cons_zero, List.set_cons_succ]
            refine wpAnyH_take (i := 17) (oi := ⟨some 30, _, _, _, _, _⟩) (v := ?_) rfl (by kernel_rfl) (by kernel_rfl) (by kernel_rfl) (fun _ _ _ h => h) (Or.inl ⟨by rfl, ?hy84⟩) hHeld ?rest84
            case hy84 => (intro W hSw; (try dsimp only at hSw); go_simp; (try with_reducible rfl))
            simp only [Act.put, List.setIfInBounds_toArray, List.set_cons_zero, List.set_cons_succ]
            refine wpAnyH_take (i := 18) (oi := ⟨some 31, _, _, _, _, _⟩) (v := ?_) rfl (by kernel_rfl) (by kernel_rfl) (by kernel_rfl) (fun _ _ _ h => h) (Or.inl ⟨by rfl, ?hy85⟩) hHeld ?rest85
            case hy85 => (intro W hSw; (try dsimp only at hSw); go_simp; (try with_reducible rfl))
            simp only [Act.put, List.setIfInBounds_toArray, List.set_cons_zero, List.set_cons_succ]
            refine wpAnyH_take (i := 19) (oi := ⟨some 32, _, _, _, _, _⟩) (v := ?_) rfl (by kernel_rfl) (by kernel_rfl) (by kernel_rfl) (fun _ _ _ h => h) (Or.inl ⟨by rfl, ?hy86⟩) hHeld ?rest86
            case hy86 => (intro W hSw; (try dsimp only at hSw); go_simp; (try with_reducible rfl))
            simp only [Act.put, List.setIfInBounds_toArray, List.set_cons_zero, List.set_cons_succ]
            refine wpAnyH_take (i := 20) (oi := ⟨some 33, _, _, _, _, _⟩) (v := ?_) rfl (by kernel_rfl) (by kernel_rfl) (by kernel_rfl) (fun _ _ _ h => h) (Or.inl ⟨by rfl, ?hy87⟩) hHeld ?rest87
            case hy87 => (intro W hSw; (try dsimp only at hSw); go_simp; (try with_reducible rfl))
            simp only [Act.put, List.setIfInBounds_toArray, List.set_cons_zero, List.set_cons_succ]
            refine wpAnyH_take (i := 21) (oi := ⟨some 34, _, _, _, _, _⟩) (v := ?_) rfl (by kernel_rfl) (by kernel_rfl) (by kernel_rfl) (fun _ _ _ h => h) (Or.inl ⟨by rfl, ?hy88⟩) hHeld ?rest88
            case hy88 => (intro W hSw; (try dsimp only at hSw); go_simp; (try with_reducible rfl))
            simp only [Act.put, List.setIfInBounds_toArray, List.set_cons_zero, List.set_cons_succ]
            refine wpAnyH_done (by kernel_rfl) ?_ _
            obtain ⟨z1, d0, d1, d2, e0, e1, e2⟩ := inv1.b2
            have hbr := below_res inv1.bel (b := w.heap.size) (Nat.le_refl _) (.int .i64 0) (.int .i64 0) (.slice none 0 0)
            clear inv1 n0 n1 n2 n3 hS1 hHeld
            go_wp2
            exact bodyPost_ret (v := .tuple #[.agg #[.int .i64 0, .int .i64 0, .slice none 0 0], .bool false]) (by simp [results, Try.results31, go_sem, d0, d1, d2]) rfl
              ⟨.inl ⟨HNO.out, rfl⟩, hbr⟩
    · obtain rfl : k = n := by omega
      have ht : gs.take k = gs := List.take_of_length_le (by rw [HL.out]; omega)
      have hs := hS.out
      rw [ht] at hs
      obtain ⟨y1, y2, y3, y4, y5, y6, y7, y8⟩ := stackB_yes hs.1
      rw [← hs.2.1] at y3 y4
      rw [← hs.2.2.1] at y5 y6
      have hcl : cs.length ≤ 1048576 := by rw [hs.2.2.2, flat_len_cells HH.out.2.2.1]; exact y8
      have hwf : ∀ x ∈ cs, (Lit.int .i32 x).wf = true := by rw [hs.2.2.2]; exact take_wf HH.out.2.2.1
      have inv := hinv.out
      obtain ⟨K, hu, f1, f2, f3, f4, hK⟩ := own_gr (own_grown inv.own (grownBy_res wr w.heap.size (.int .i64 R) (.int .i64 C) u) (by omega)) (by omega) hwf R C ⟨y3, y4⟩ ⟨y5, y6⟩
      subst hu
      have hbr := below_res inv.bel (b := w.heap.size) (Nat.le_refl _) (.int .i64 R) (.int .i64 C) (.slice K.a K.n K.cap)
      obtain ⟨_, d0, d1, d2, e0, e1, e2⟩ := inv.b2
      obtain ⟨_, r0, r1, r2, _, _, _⟩ := inv.b3
      have HR := Lib.hid (And.intro hs.1 (And.intro hs.2.1 (And.intro hs.2.2.1 hs.2.2.2)))
      have HK := Lib.hid (And.intro f1 (And.intro f2 (And.intro f3 (And.intro f4 hK))))
      clear hS hinv inv hs y1 y2 y7 ht hwf f1 f2 f3 f4 hK
      go_wp2
      exact bodyPost_ret (v := .tuple #[.agg #[.int .i64 R, .int .i64 C, .slice K.a K.n K.cap], .bool true]) (by simp [results, Try.results31, go_sem, d0, d1, d2]) rfl
        ⟨.inr ⟨HR.out.1, K, by rw [HK.out.1, HK.out.2.1], by rw [HK.out.1, HR.out.2.1], by rw [HK.out.2.1, HR.out.2.2.1], by rw [HK.out.2.2.1, HR.out.2.2.2], by rw [HK.out.2.2.2.1, HR.out.2.2.2], HK.out.2.2.2.2⟩, hbr⟩

end Go.Proofs.Ytocjcfblpifdhaa
