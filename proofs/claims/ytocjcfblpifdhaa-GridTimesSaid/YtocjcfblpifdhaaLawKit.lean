/-
  What the laws on grids have in common.
-/
import Derived.Test.YtocjcfblpifdhaaAwake3
import Derived.Test.YtocjcfblpifdhaaRefTimes
import Derived.Test.YtocjcfblpifdhaaRefTurn
namespace Go.Proofs.Ytocjcfblpifdhaa
open Go.RowKit
set_option linter.unusedVariables false

theorem small_c (a : Option Addr) (n cap : Nat) (gs : List Gr) (w : World) (h : Grids w a n gs) (x : Bool) (hx : smallB gs = x) :
    Calls Try.prog 12 #[.slice a n cap] w fun e w' => e = .returned (.bool x) ∧ w = w' := by
  rw [← hx]; exact small_any a n cap gs w h

/-- the grid g lies in block b, and its numbers where it says -/
structure Boxed (w wr : World) (b : Nat) (g : Gr) : Prop where
  box : Box3 wr b (.int .i64 g.r) (.int .i64 g.c) (.slice g.a g.n g.cap)
  inn : g.In wr
theorem Boxed.below {w wr wc : World} {b : Nat} {g : Gr} (h : Boxed w wr b g) (hb : Below wr.heap.size wr wc) : Boxed w wc b g := ⟨h.box.below hb, h.inn.below hb⟩
theorem Boxed.alloc {w wr : World} {b : Nat} {g : Gr} (h : Boxed w wr b g) (o : Obj) : Boxed w (wr.alloc o) b g := h.below ((Below.refl _ _).alloc (Nat.le_refl _) o)
theorem boxed_new {w wr : World} {T : TypeId} {b : Nat} {g : Gr} (hi : g.In wr) (hb : b = wr.heap.size) : Boxed w (wr.alloc (.cells #[.int .i64 g.r, .int .i64 g.c, .slice g.a g.n g.cap] T)) b g :=
  ⟨box3_at hb _ _ _ _, hi.below ((Below.refl _ _).alloc (Nat.le_refl _) _)⟩
theorem below_alloc {w wr : World} (h : Below w.heap.size w wr) (o : Obj) : Below w.heap.size w (wr.alloc o) := h.alloc h.size o

/-- what Times asks, in the document's words and in the code's -/
theorem times_cond {r c r2 c2 : Int} {n n2 : Nat} : (fitB r c n && (fitB r2 c2 n2 && (decide (c = r2) && newB r c2))) = (fitB r c n && (fitB r2 c2 n2 && (decide (c = r2) && decide (r * c2 ≤ 1048576)))) := by
  cases h1 : fitB r c n with
  | false => rfl
  | true =>
    cases h2 : fitB r2 c2 n2 with
    | false => rfl
    | true =>
      obtain ⟨R, C, rfl, rfl, hR, hC, _, _⟩ := fitB_yes h1
      obtain ⟨R2, C2, rfl, rfl, hR2, hC2, _, _⟩ := fitB_yes h2
      have e1 : sideB (R : Int) = true := by unfold sideB; exact decide_eq_true (by omega)
      have e2 : sideB (C2 : Int) = true := by unfold sideB; exact decide_eq_true (by omega)
      unfold newB
      rw [e1, e2]; rfl

/-- all that follows where two grids have a product -/
theorem times_ok {r c r2 c2 : Int} {n n2 : Nat} (h : (fitB r c n && (fitB r2 c2 n2 && (decide (c = r2) && newB r c2))) = true) :
    ∃ R K C : Nat, r = R ∧ c = K ∧ r2 = K ∧ c2 = C ∧ n = R * K ∧ n2 = K * C ∧ R ≤ 4096 ∧ K ≤ 4096 ∧ C ≤ 4096 ∧ R * K ≤ 1048576 ∧ K * C ≤ 1048576 ∧ R * C ≤ 1048576 := by
  simp only [Bool.and_eq_true] at h
  obtain ⟨h1, h2, h3, h4⟩ := h
  obtain ⟨R, K, rfl, rfl, hR, hK, rfl, hle⟩ := fitB_yes h1
  obtain ⟨R2, C2, rfl, rfl, hR2, hC2, rfl, hle2⟩ := fitB_yes h2
  have h3 := of_decide_eq_true h3
  obtain rfl : K = R2 := by omega
  obtain ⟨R', C', e1, e2, _, _, hle3⟩ := newB_yes h4
  obtain rfl : R = R' := by omega
  obtain rfl : C2 = C' := by omega
  exact ⟨R, K, C2, rfl, rfl, rfl, rfl, rfl, rfl, hR, hK, hC2, hle, hle2, hle3⟩

/-- Times, refused or not -/
theorem times_any (g k : Gr) (w : World) (h : g.In w) (h2 : k.In w) :
    Calls Try.prog 34 #[.agg #[.int .i64 g.r, .int .i64 g.c, .slice g.a g.n g.cap], .agg #[.int .i64 k.r, .int .i64 k.c, .slice k.a k.n k.cap]] w fun e w' =>
      ((((fitB g.r g.c g.n && (fitB k.r k.c k.n && (decide (g.c = k.r) && newB g.r k.c))) = false ∧ NoGrid 30 e)) ∨
        ((fitB g.r g.c g.n && (fitB k.r k.c k.n && (decide (g.c = k.r) && newB g.r k.c))) = true ∧ ∃ R K C : Nat, g.r = R ∧ g.c = K ∧ k.r = K ∧ k.c = C ∧ R ≤ 4096 ∧ K ≤ 4096 ∧ C ≤ 4096 ∧ R * C ≤ 1048576 ∧ NewGrid w' R C (tab R C fun i j => prod g.v k.v K C i j) e)) ∧ Below w.heap.size w w' := by
  cases hc : (fitB g.r g.c g.n && (fitB k.r k.c k.n && (decide (g.c = k.r) && newB g.r k.c))) with
  | false => exact (times_no g.r g.c k.r k.c g.a k.a g.n k.n g.cap k.cap g.v k.v w h h2 hc).mono fun e w' ⟨he, hb⟩ => ⟨.inl ⟨rfl, he⟩, hb⟩
  | true =>
    obtain ⟨R, K, C, e1, e2, e3, e4, e5, e6, hR, hK, hC, l1, l2, l3⟩ := times_ok hc
    exact (times_yes g.r g.c k.r k.c g.a k.a g.n k.n g.cap k.cap g.v k.v w h h2 R K C e1 e2 e3 e4 e5 e6 hR hK hC l1 l2 l3).mono fun e w' ⟨he, hb⟩ => ⟨.inr ⟨rfl, R, K, C, e1, e2, e3, e4, hR, hK, hC, l3, he⟩, hb⟩

/-- the document's Times, where there is a product -/
theorem ref_times_gr (g k : Gr) (w : World) (h : g.In w) (h2 : k.In w) (hc : (fitB g.r g.c g.n && (fitB k.r k.c k.n && (decide (g.c = k.r) && newB g.r k.c))) = true) (R K C : Nat) (e1 : g.r = R) (e2 : g.c = K) (e4 : k.c = C) :
    Calls Try.prog 35 #[.agg #[.int .i64 g.r, .int .i64 g.c, .slice g.a g.n g.cap], .agg #[.int .i64 k.r, .int .i64 k.c, .slice k.a k.n k.cap]] w fun e w' =>
      (∃ ua ucap, e = .returned (.tuple #[.agg #[.int .i64 R, .int .i64 C, .slice ua (R * C) ucap], .bool true]) ∧ Elems .i32 w' ua (R * C) (tab R C fun i j => prod g.v k.v K C i j)) ∧ Below w.heap.size w w' := by
  obtain ⟨R', K', C', f1, f2, f3, f4, f5, f6, hR, hK, hC, l1, l2, l3⟩ := times_ok hc
  obtain ⟨r0, c0, a0, n0, p0, v0⟩ := g
  obtain ⟨r1, c1, a1, n1, p1, v1⟩ := k
  simp only at e1 e2 e4 f1 f2 f3 f4 f5 f6 ⊢
  subst e1 e2 e4 f3 f5 f6
  obtain rfl : R = R' := by omega
  obtain rfl : K = K' := by omega
  obtain rfl : C = C' := by omega
  refine (ref_times_yes R K C a0 a1 p0 p1 v0 v1 w h.1 h2.1 hR hK hC l1 l2 l3).mono ?_
  rintro e w' ⟨⟨v, rfl, ua, ucap, rfl, hE, _, _⟩, hb⟩
  rw [tab_length] at hE ⊢
  exact ⟨⟨ua, ucap, rfl, hE⟩, hb⟩

/-- a grid that was answered, as a grid -/
theorem NewGrid.gr {w : World} {R C : Nat} {xs : List Int} {e : Ending} (h : NewGrid w R C xs e) (hR : R ≤ 4096) (hC : C ≤ 4096) :
    ∃ k : Gr, e = .returned (.tuple #[.agg #[.int .i64 k.r, .int .i64 k.c, .slice k.a k.n k.cap], .int .i64 0]) ∧ k.r = R ∧ k.c = C ∧ k.n = R * C ∧ k.v = xs ∧ k.In w := by
  obtain ⟨g, rfl, hE⟩ := h
  have hle : R * C ≤ 4096 * 4096 := Nat.mul_le_mul hR hC
  exact ⟨⟨R, C, some ⟨g, 0, none⟩, R * C, R * C, xs⟩, rfl, rfl, rfl, rfl, rfl, hE, Nat.le_refl _, by show R * C ≤ _; omega, ⟨fun e => (by cases e), fun x e _ => (by cases e; rfl)⟩, by show _ ≤ (R : Int); omega, by show (R : Int) ≤ _; omega, by show _ ≤ (C : Int); omega, by show (C : Int) ≤ _; omega⟩
theorem fit_of {k : Gr} {R C : Nat} (hr : k.r = R) (hc : k.c = C) (hn : k.n = R * C) (hR : R ≤ 4096) (hC : C ≤ 4096) (hle : R * C ≤ 1048576) : fitB k.r k.c k.n = true := by
  rw [hr, hc, hn]; exact fitB_nat R C hR hC hle

end Go.Proofs.Ytocjcfblpifdhaa
