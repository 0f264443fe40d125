/-
  What the laws on grids have in common.
-/
import Derived.Test.YtocjcfblpifdhaaAwake3
import Derived.Test.YtocjcfblpifdhaaRefTimes
import Derived.Test.YtocjcfblpifdhaaRefTurn
namespace Go.Proofs.Ytocjcfblpifdhaa
open Go.RowKit
set_option linter.unusedVariables false

theorem small_c (a : Option Addr) (n cap : Nat) (gs : List Gr) (w : World) (h : Grids w a n gs) (x : Bool) (hx : smallB gs = x) :
    Calls Try.prog 12 #[.slice a n cap] w fun e w' => e = .returned (.bool x) ∧ w = w' := by
  rw [← hx]; exact small_any a n cap gs w h

/-- the grid g lies in block b, and its numbers where it says -/
structure Boxed (w wr : World) (b : Nat) (g : Gr) : Prop where
  box : Box3 wr b (.int .i64 g.r) (.int .i64 g.c) (.slice g.a g.n g.cap)
  inn : g.In wr
theorem Boxed.below {w wr wc : World} {b : Nat} {g : Gr} (h : Boxed w wr b g) (hb : Below wr.heap.size wr wc) : Boxed w wc b g := ⟨h.box.below hb, h.inn.below hb⟩
theorem Boxed.alloc {w wr : World} {b : Nat} {g : Gr} (h : Boxed w wr b g) (o : Obj) : Boxed w (wr.alloc o) b g := h.below ((Below.refl _ _).alloc (Nat.le_refl _) o)
theorem boxed_new {w wr : World} {T : TypeId} {b : Nat} {g : Gr} (hi : g.In wr) (hb : b = wr.heap.size) : Boxed w (wr.alloc (.cells #[.int .i64 g.r, .int .i64 g.c, .slice g.a g.n g.cap] T)) b g :=
  ⟨box3_at hb _ _ _ _, hi.below ((Below.refl _ _).alloc (Nat.le_refl _) _)⟩
theorem below_alloc {w wr : World} (h : Below w.heap.size w wr) (o : Obj) : Below w.heap.size w (wr.alloc o) := h.alloc h.size o

/-- what Times asks, in the document's words and in the code's -/
theorem times_cond {r c r2 c2 : Int} {n n2 : Nat} : (fitB r c n && (fitB r2 c2 n2 && (decide (c = r2) && newB r c2))) = (fitB r c n && (fitB r2 c2 n2 && (decide (c = r2) && decide (r * c2 ≤ 1048576)))) := by
  cases h1 : fitB r c n with
  | false => rfl
  | true =>
    cases h2 : fitB r2 c2 n2 with
    | false => rfl
    | true =>
      obtain ⟨R, C, rfl, rfl, hR, hC, _, _⟩ := fitB_yes h1
      obtain ⟨R2, C2, rfl, rfl, hR2, hC2, _, _⟩ := fitB_yes h2
      have e1 : sideB (R : Int) = true := by unfold sideB; exact decide_eq_true (by omega)
      have e2 : sideB (C2 : Int) = true := by unfold sideB; exact decide_eq_true (by omega)
      unfold newB
      rw [e1, e2]; rfl

/-- all that follows where two grids have a product -/
theorem times_ok {r c r2 c2 : Int} {n n2 : Nat} (h : (fitB r c n && (fitB r2 c2 n2 && (decide (c = r2) && newB r c2))) = true) :
    ∃ R K C : Nat, r = R ∧ c = K ∧ r2 = K ∧ c2 = C ∧ n = R * K ∧ n2 = K * C ∧ R ≤ 4096 ∧ K ≤ 4096 ∧ C ≤ 4096 ∧ R * K ≤ 1048576 ∧ K * C ≤ 1048576 ∧ R * C ≤ 1048576 := by
  simp only [Bool.and_eq_true] at h
  obtain ⟨h1, h2, h3, h4⟩ := h
  obtain ⟨R, K, rfl, rfl, hR, hK, rfl, hle⟩ := fitB_yes h1
  obtain ⟨R2, C2, rfl, rfl, hR2, hC2, rfl, hle2⟩ := fitB_yes h2
  have h3 := of_decide_eq_true h3
  obtain rfl : K = R2 := by omega
  obtain ⟨R', C', e1, e2, _, _, hle3⟩ := newB_yes h4
  obtain rfl : R = R' := by omega
  obtain rfl : C2 = C' := by omega
  exact ⟨R, K, C2, rfl, rfl, rfl, rfl, rfl, rfl, hR, hK, hC2, hle, hle2, hle3⟩

/-- Times, refused or not -/
theorem times_any (g k : Gr) (w : World) (h : g.In w) (h2 : k.In w) :
    Calls Try.prog 34 #[.agg #[.int .i64 g.r, .int .i64 g.c, .slice g.a g.n g.cap], .agg #[.int .i64 k.r, .int .i64 k.c, .slice k.a k.n k.cap]] w fun e w' =>
      ((((fitB g.r g.c g.n && (fitB k.r k.c k.n && (decide (g.c = k.r) && newB g.r k.c))) = false ∧ NoGrid 30 e)) ∨
        ((fitB g.r g.c g.n && (fitB k.r k.c k.n && (decide (g.c = k.r) && newB g.r k.c))) = true ∧ ∃ R K C : Nat, g.r = R ∧ g.c = K ∧ k.r = K ∧ k.c = C ∧ R ≤ 4096 ∧ K ≤ 4096 ∧ C ≤ 4096 ∧ R * C ≤ 1048576 ∧ NewGrid w' R C (tab R C fun i j => prod g.v k.v K C i j) e)) ∧ Below w.heap.size w w' := by
  cases hc : (fitB g.r g.c g.n && (fitB k.r k.c k.n && (decide (g.c = k.r) && newB g.r k.c))) with
  | false => exact (times_no g.r g.c k.r k.c g.a k.a g.n k.n g.cap k.cap g.v k.v w h h2 hc).mono fun e w' ⟨he, hb⟩ => ⟨.inl ⟨rfl, he⟩, hb⟩
  | true =>
    obtain ⟨R, K, C, e1, e2, e3, e4, e5, e6, hR, hK, hC, l1, l2, l3⟩ := times_ok hc
    exact (times_yes g.r g.c k.r k.c g.a k.a g.n k.n g.cap k.cap g.v k.v w h h2 R K C e1 e2 e3 e4 e5 e6 hR hK hC l1 l2 l3).mono fun e w' ⟨he, hb⟩ => ⟨.inr ⟨rfl, R, K, C, e1, e2, e3, e4, hR, hK, hC, l3, he⟩, hb⟩

/-- the document's Times, where there is a product -/
theorem ref_times_gr (g k : Gr) (w : World) (h : g.In w) (h2 : k.In w) (hc : (fitB g.r g.c g.n && (fitB k.r k.c k.n && (decide (g.c = k.r) && newB g.r k.c))) = true) (R K C : Nat) (e1 : g.r = R) (e2 : g.c = K) (e4 : k.c = C) :
    Calls Try.prog 35 #[.agg #[.int .i64 g.r, .int .i64 g.c, .slice g.a g.n g.cap], .agg #[.int .i64 k.r, .int .i64 k.c, .slice k.a k.n k.cap]] w fun e w' =>
      (∃ ua ucap, e = .returned (.tuple #[.agg #[.int .i64 R, .int .i64 C, .slice ua (R * C) ucap], .bool true]) ∧ Elems .i32 w' ua (R * C) (tab R C fun i j => prod g.v k.v K C i j)) ∧ Below w.heap.size w w' := by
  obtain ⟨R', K', C', f1, f2, f3, f4, f5, f6, hR, hK, hC, l1, l2, l3⟩ := times_ok hc
  obtain ⟨r0, c0, a0, n0, p0, v0⟩ := g
  obtain ⟨r1, c1, a1, n1, p1, v1⟩ := k
  simp only at e1 e2 e4 f1 f2 f3 f4 f5 f6 ⊢
  subst e1 e2 e4 f3 f5 f6
  obtain rfl : R = R' := by omega
  obtain rfl : K = K' := by omega
  obtain rfl : C = C' := by omega
  refine (ref_times_yes R K C a0 a1 p0 p1 v0 v1 w h.1 h2.1 hR hK hC l1 l2 l3).mono ?_
  rintro e w' ⟨⟨v, rfl, ua, ucap, rfl, hE, _, _⟩, hb⟩
  rw [tab_length] at hE ⊢
  exact ⟨⟨ua, ucap, rfl, hE⟩, hb⟩

/-- a grid that was answered, as a grid -/
theorem NewGrid.gr {w : World} {R C : Nat} {xs : List Int} {e : Ending} (h : NewGrid w R C xs e) (hR : R ≤ 4096) (hC : C ≤ 4096) :
    ∃ k : Gr, e = .returned (.tuple #[.agg #[.int .i64 k.r, .int .i64 k.c, .slice k.a k.n k.cap], .int .i64 0]) ∧ k.r = R ∧ k.c = C ∧ k.n = R * C ∧ k.v = xs ∧ k.In w := by
  obtain ⟨g, rfl, hE⟩ := h
  have hle : R * C ≤ 4096 * 4096 := Nat.mul_le_mul hR hC
  exact ⟨⟨R, C, some ⟨g, 0, none⟩, R * C, R * C, xs⟩, rfl, rfl, rfl, rfl, rfl, hE, Nat.le_refl _, by show R * C ≤ _; omega, ⟨fun e => (by cases e), fun x e _ => (by cases e; rfl)⟩, by show _ ≤ (R : Int); omega, by show (R : Int) ≤ _; omega, by show _ ≤ (C : Int); omega, by show (C : Int) ≤ _; omega⟩
theorem fit_of {k : Gr} {R C : Nat} (hr : k.r = R) (hc : k.c = C) (hn : k.n = R * C) (hR : R ≤ 4096) (hC : C ≤ 4096) (hle : R * C ≤ 1048576) : fitB k.r k.c k.n = true := by
  rw [hr, hc, hn]; exact fitB_nat R C hR hC hle

theorem zero_in (w : World) : Gr.In w ⟨0, 0, none, 0, 0, []⟩ := ⟨Elems.nil_ _ _ _, Nat.le_refl _, by show (0 : Nat) ≤ _; omega, ⟨fun _ => rfl, fun x e => (by cases e)⟩, by show _ ≤ (0 : Int); omega, by show (0 : Int) ≤ _; omega, by show _ ≤ (0 : Int); omega, by show (0 : Int) ≤ _; omega⟩

/-- the boxes of a law: which grid lies in which block; what lay ahead of the law lies unturned -/
structure St (w wr : World) (L : List (Nat × Gr)) : Prop where
  bel : Below w.heap.size w wr
  all : ∀ x ∈ L, Boxed w wr x.1 x.2
theorem St.below {w wr wc : World} {L : List (Nat × Gr)} (h : St w wr L) (hb : Below wr.heap.size wr wc) : St w wc L := ⟨below_two h.bel hb, fun x hx => (h.all x hx).below hb⟩
theorem St.alloc {w wr : World} {L : List (Nat × Gr)} (h : St w wr L) (o : Obj) : St w (wr.alloc o) L := h.below ((Below.refl _ _).alloc (Nat.le_refl _) o)
theorem St.push {w wr : World} {L : List (Nat × Gr)} (h : St w wr L) (k : Gr) (hk : k.In wr) (T : TypeId) : St w (wr.alloc (.cells #[.int .i64 k.r, .int .i64 k.c, .slice k.a k.n k.cap] T)) ((wr.heap.size, k) :: L) :=
  ⟨(h.alloc _).bel, fun x hx => by
    rcases List.mem_cons.1 hx with rfl | hx
    · exact boxed_new hk rfl
    · exact (h.alloc _).all x hx⟩
theorem St.get {w wr : World} {L : List (Nat × Gr)} (h : St w wr L) {b : Nat} {g : Gr} (hm : (b, g) ∈ L) : Boxed w wr b g := h.all (b, g) hm

theorem st_nil (w : World) : St w w [] := ⟨Below.refl _ _, fun x hx => (by cases hx)⟩
/-- a grid that lay ahead of the law is boxed -/
theorem St.box {w wr : World} {L : List (Nat × Gr)} (h : St w wr L) (k : Gr) (hk : k.In w) (T : TypeId) {b : Nat} (hb : b = wr.heap.size) : St w (wr.alloc (.cells #[.int .i64 k.r, .int .i64 k.c, .slice k.a k.n k.cap] T)) ((b, k) :: L) := by
  subst hb; exact h.push k (hk.below h.bel) T
theorem St.inn {w wr : World} {L : List (Nat × Gr)} (h : St w wr L) {b : Nat} {g : Gr} (hm : (b, g) ∈ L) : g.In wr := (h.get hm).inn
/-- the error's empty grid is boxed -/
theorem St.zero {w wr : World} {L : List (Nat × Gr)} (h : St w wr L) (T : TypeId) : St w (wr.alloc (.cells #[.int .i64 0, .int .i64 0, .slice none 0 0] T)) ((wr.heap.size, (⟨0, 0, none, 0, 0, []⟩ : Gr)) :: L) := h.push ⟨0, 0, none, 0, 0, []⟩ (zero_in wr) T


theorem grids_three {w : World} {T : TypeId} {b : Nat} (g k m : Gr) (h : g.In w) (h2 : k.In w) (h3 : m.In w) (hb : b = w.heap.size) :
    Grids (w.alloc (.cells #[.int .i64 g.r, .int .i64 g.c, .slice g.a g.n g.cap, .int .i64 k.r, .int .i64 k.c, .slice k.a k.n k.cap, .int .i64 m.r, .int .i64 m.c, .slice m.a m.n m.cap] T)) (some ⟨b, 0, none⟩) 3 [g, k, m] := by
  subst hb
  refine ⟨rfl, by omega, ?_, fun _ => ⟨w.heap.size, 0, rfl, fun i hi => ?_⟩⟩
  · intro x hx
    simp only [List.mem_cons, List.not_mem_nil, or_false] at hx
    rcases hx with rfl | rfl | rfl
    · exact h.below ((Below.refl _ _).alloc (Nat.le_refl _) _)
    · exact h2.below ((Below.refl _ _).alloc (Nat.le_refl _) _)
    · exact h3.below ((Below.refl _ _).alloc (Nat.le_refl _) _)
  · match i, hi with
    | 0, _ => simp only [World.cell?_alloc_new]; exact ⟨rfl, rfl, rfl⟩
    | 1, _ => simp only [World.cell?_alloc_new]; exact ⟨rfl, rfl, rfl⟩
    | 2, _ => simp only [World.cell?_alloc_new]; exact ⟨rfl, rfl, rfl⟩

/-- the grid that was answered without an error: its sides, its numbers -/
def Got (w : World) (R C : Nat) (xs : List Int) (e : Ending) : Prop :=
  ∃ k : Gr, e = .returned (.tuple #[.agg #[.int .i64 k.r, .int .i64 k.c, .slice k.a k.n k.cap], .int .i64 0]) ∧ k.r = R ∧ k.c = C ∧ k.n = R * C ∧ k.v = xs ∧ k.In w

theorem times_gr (g k : Gr) (w : World) (h : g.In w) (h2 : k.In w) :
    Calls Try.prog 34 #[.agg #[.int .i64 g.r, .int .i64 g.c, .slice g.a g.n g.cap], .agg #[.int .i64 k.r, .int .i64 k.c, .slice k.a k.n k.cap]] w fun e w' =>
      ((((fitB g.r g.c g.n && (fitB k.r k.c k.n && (decide (g.c = k.r) && newB g.r k.c))) = false ∧ NoGrid 30 e)) ∨
        ((fitB g.r g.c g.n && (fitB k.r k.c k.n && (decide (g.c = k.r) && newB g.r k.c))) = true ∧ ∃ R K C : Nat, (g.r = R ∧ g.c = K ∧ k.r = K ∧ k.c = C ∧ R ≤ 4096 ∧ K ≤ 4096 ∧ C ≤ 4096 ∧ R * C ≤ 1048576) ∧ Got w' R C (tab R C fun i j => prod g.v k.v K C i j) e)) ∧ Below w.heap.size w w' :=
  (times_any g k w h h2).mono fun e w' ⟨hc, hb⟩ => ⟨by
    rcases hc with h | ⟨h, R, K, C, e1, e2, e3, e4, hR, hK, hC, hle, he⟩
    · exact .inl h
    · exact .inr ⟨h, R, K, C, ⟨e1, e2, e3, e4, hR, hK, hC, hle⟩, he.gr hR hC⟩, hb⟩

/-- Times of grids whose sides are known: where it is not too large -/
theorem times_sides (g k : Gr) (R K C : Nat) (w : World) (h : g.In w) (h2 : k.In w) (e1 : g.r = R) (e2 : g.c = K) (e3 : g.n = R * K) (f1 : k.r = K) (f2 : k.c = C) (f3 : k.n = K * C) (hR : R ≤ 4096) (hK : K ≤ 4096) (hC : C ≤ 4096) (l1 : R * K ≤ 1048576) (l2 : K * C ≤ 1048576) (l3 : R * C ≤ 1048576) :
    Calls Try.prog 34 #[.agg #[.int .i64 g.r, .int .i64 g.c, .slice g.a g.n g.cap], .agg #[.int .i64 k.r, .int .i64 k.c, .slice k.a k.n k.cap]] w fun e w' => Got w' R C (tab R C fun i j => prod g.v k.v K C i j) e ∧ Below w.heap.size w w' :=
  (times_yes g.r g.c k.r k.c g.a k.a g.n k.n g.cap k.cap g.v k.v w h h2 R K C e1 e2 f1 f2 e3 f3 hR hK hC l1 l2 l3).mono fun e w' ⟨he, hb⟩ => ⟨he.gr hR hC, hb⟩

theorem turn_gr (g : Gr) (R C : Nat) (w : World) (h : g.In w) (e1 : g.r = R) (e2 : g.c = C) (e3 : g.n = R * C) (hR : R ≤ 4096) (hC : C ≤ 4096) (l1 : R * C ≤ 1048576) :
    Calls Try.prog 22 #[.agg #[.int .i64 g.r, .int .i64 g.c, .slice g.a g.n g.cap]] w fun e w' => Got w' C R (tab C R fun i j => g.v.getD (j * C + i) 0) e ∧ Below w.heap.size w w' :=
  (turn_yes g.r g.c g.a g.n g.cap g.v w h R C e1 e2 hR hC e3 l1).mono fun e w' ⟨he, hb⟩ => ⟨he.gr hC hR, hb⟩

theorem rows_gr (g : Gr) (R C fr to : Nat) (w : World) (h : g.In w) (e1 : g.r = R) (e2 : g.c = C) (e3 : g.n = R * C) (hR : R ≤ 4096) (hC : C ≤ 4096) (l1 : R * C ≤ 1048576) (h1 : fr ≤ to) (h2 : to ≤ R) (p q : Int) (hp : p = fr) (hq : q = to) :
    Calls Try.prog 20 #[.agg #[.int .i64 g.r, .int .i64 g.c, .slice g.a g.n g.cap], .int .i64 p, .int .i64 q] w fun e w' => Got w' (to - fr) C (tab (to - fr) C fun i j => g.v.getD ((fr + i) * C + j) 0) e ∧ Below w.heap.size w w' := by
  subst hp hq
  exact (rows_yes g.r g.c g.a g.n g.cap g.v w h R C fr to e1 e2 hR hC e3 l1 h1 h2).mono fun e w' ⟨he, hb⟩ => ⟨he.gr (by omega) hC, hb⟩
theorem cols_gr (g : Gr) (R C fr to : Nat) (w : World) (h : g.In w) (e1 : g.r = R) (e2 : g.c = C) (e3 : g.n = R * C) (hR : R ≤ 4096) (hC : C ≤ 4096) (l1 : R * C ≤ 1048576) (h1 : fr ≤ to) (h2 : to ≤ C) (p q : Int) (hp : p = fr) (hq : q = to) :
    Calls Try.prog 21 #[.agg #[.int .i64 g.r, .int .i64 g.c, .slice g.a g.n g.cap], .int .i64 p, .int .i64 q] w fun e w' => Got w' R (to - fr) (tab R (to - fr) fun i j => g.v.getD (i * C + (fr + j)) 0) e ∧ Below w.heap.size w w' := by
  subst hp hq
  exact (cols_yes g.r g.c g.a g.n g.cap g.v w h R C fr to e1 e2 hR hC e3 l1 h1 h2).mono fun e w' ⟨he, hb⟩ => ⟨he.gr hR (by omega), hb⟩

/-- held, of two grids with the same sides and numbers -/
theorem held_gr (g k : Gr) (R C : Nat) (w : World) (h : g.In w) (h2 : k.In w) (e1 : g.r = R) (e2 : g.c = C) (e3 : g.n = R * C) (f1 : k.r = R) (f2 : k.c = C) (f3 : k.n = R * C) (hv : g.v = k.v) :
    Calls Try.prog 25 #[.agg #[.int .i64 g.r, .int .i64 g.c, .slice g.a g.n g.cap], .int .i64 0, .agg #[.int .i64 k.r, .int .i64 k.c, .slice k.a k.n k.cap], .bool true] w fun e w' => e = .returned (.bool true) ∧ Below w.heap.size w w' := by
  have a1 := h.1
  have a2 := h2.1
  rw [e1, e2, e3, f1, f2, f3]
  rw [e3] at a1
  rw [f3, ← hv] at a2
  exact held_yes R C g.a k.a (R * C) g.cap k.cap g.v w a1 a2

end Go.Proofs.Ytocjcfblpifdhaa
