/-
  What GridCuts leans on: the document's Turn and Part beside the code's, Same of two grids.
-/
import Derived.Test.YtocjcfblpifdhaaLawKit2
import Derived.Test.YtocjcfblpifdhaaCopied
namespace Go.Proofs.Ytocjcfblpifdhaa
open Go.RowKit
set_option linter.unusedVariables false

theorem same_gr (g k : Gr) (w : World) (h : g.In w) (h2 : k.In w) (e1 : g.r = k.r) (e2 : g.c = k.c) (e3 : g.n = k.n) (e4 : g.v = k.v) :
    Calls Try.prog 23 #[.agg #[.int .i64 g.r, .int .i64 g.c, .slice g.a g.n g.cap], .agg #[.int .i64 k.r, .int .i64 k.c, .slice k.a k.n k.cap]] w fun e w' => e = .returned (.bool true) ∧ Below w.heap.size w w' := by
  have a1 := h.1
  rw [e1, e2, e3]
  rw [e3, e4] at a1
  exact same_yes k.r k.c g.a k.a k.n g.cap k.cap k.v w a1 h2.1

/-- what the document's function answers, as held is handed it -/
def RefGot (w : World) (p q : Int) (m : Nat) (xs : List Int) (e : Ending) : Prop := ∃ ua ucap, e = .returned (.agg #[.int .i64 p, .int .i64 q, .slice ua m ucap]) ∧ Elems .i32 w ua m xs

theorem ref_turn_p (g : Gr) (R C : Nat) (w : World) (h : g.In w) (e1 : g.r = R) (e2 : g.c = C) (e3 : g.n = R * C) (hR : R ≤ 4096) (hC : C ≤ 4096) (p q : Int) (m : Nat) (hp : p = C) (hq : q = R) (hm : m = C * R) :
    Calls Try.prog 26 #[.agg #[.int .i64 g.r, .int .i64 g.c, .slice g.a g.n g.cap]] w fun e w' => RefGot w' p q m (tab C R fun i j => g.v.getD (j * C + i) 0) e ∧ Below w.heap.size w w' := by
  subst hp hq hm
  have a1 := h.1
  rw [e1, e2, e3]
  rw [e3] at a1
  refine (ref_turn R C g.a g.cap g.v w a1 hR hC).mono ?_
  rintro e w' ⟨⟨v, rfl, ua, ucap, rfl, hE, _, _⟩, hb⟩
  rw [tab_length] at hE ⊢
  exact ⟨⟨ua, ucap, rfl, hE⟩, hb⟩

theorem ref_part_p (g : Gr) (R C r0 r1 c0 c1 : Nat) (w : World) (h : g.In w) (e1 : g.r = R) (e2 : g.c = C) (e3 : g.n = R * C) (hR : R ≤ 4096) (hC : C ≤ 4096) (h1 : r0 ≤ r1) (h2 : r1 ≤ R) (h3 : c0 ≤ c1) (h4 : c1 ≤ C)
    (x0 x1 x2 x3 : Int) (f0 : x0 = r0) (f1 : x1 = r1) (f2 : x2 = c0) (f3 : x3 = c1) (p q : Int) (m : Nat) (hp : p = (r1 - r0 : Nat)) (hq : q = (c1 - c0 : Nat)) (hm : m = (r1 - r0) * (c1 - c0)) :
    Calls Try.prog 27 #[.agg #[.int .i64 g.r, .int .i64 g.c, .slice g.a g.n g.cap], .int .i64 x0, .int .i64 x1, .int .i64 x2, .int .i64 x3] w fun e w' => RefGot w' p q m (tab (r1 - r0) (c1 - c0) fun i j => g.v.getD ((r0 + i) * C + (c0 + j)) 0) e ∧ Below w.heap.size w w' := by
  subst hp hq hm f0 f1 f2 f3
  have a1 := h.1
  rw [e1, e2, e3]
  rw [e3] at a1
  refine (ref_part R C r0 r1 c0 c1 g.a g.cap g.v w a1 hR hC h1 h2 h3 h4).mono ?_
  rintro e w' ⟨⟨v, rfl, ua, ucap, rfl, hE, _, _⟩, hb⟩
  rw [tab_length] at hE ⊢
  exact ⟨⟨ua, ucap, rfl, hE⟩, hb⟩

/-- held, of a grid and what the document's function answered -/
theorem held_ref (g : Gr) (ua : Option Addr) (ucap : Nat) (xs : List Int) (w : World) (h : g.In w) (h2 : Elems .i32 w ua g.n xs) (hv : g.v = xs) :
    Calls Try.prog 25 #[.agg #[.int .i64 g.r, .int .i64 g.c, .slice g.a g.n g.cap], .int .i64 0, .agg #[.int .i64 g.r, .int .i64 g.c, .slice ua g.n ucap], .bool true] w fun e w' => e = .returned (.bool true) ∧ Below w.heap.size w w' := by
  subst hv
  exact held_yes g.r g.c g.a ua g.n g.cap ucap g.v w h.1 h2

/-- one grid, copied -/
theorem copied_one (a : Option Addr) (cap : Nat) (g : Gr) (w : World) (h : Grids w a 1 [g]) (hsm : g.n ≤ 400) :
    Calls Try.prog 19 #[.slice a 1 cap] w fun e w' => (∃ (b off cap' : Nat) (k : Gr), e = .returned (.slice (some ⟨b, off, none⟩) 1 cap') ∧ k.In w' ∧ (k.r = g.r ∧ k.c = g.c ∧ k.n = g.n ∧ k.v = g.v) ∧ b < w'.heap.size ∧ w'.cell? ⟨b, off, none⟩ = some (.int .i64 k.r) ∧ w'.cell? ⟨b, off + 1, none⟩ = some (.int .i64 k.c) ∧ w'.cell? ⟨b, off + 2, none⟩ = some (.slice k.a k.n k.cap)) ∧ Below w.heap.size w w' := by
  refine (copied_any a 1 cap [g] w h (by omega) (by simpa using hsm)).mono ?_
  rintro e w' ⟨⟨a', cap', gs', rfl, hG, hA⟩, hb⟩
  obtain ⟨b, off, k, rfl, hbl, c0, c1, c2, hk, hin⟩ := hG.at_ (i := 0) (by omega)
  have h0 := hA.2 0 (by omega)
  rw [hk.out] at h0
  simp only [Nat.zero_mul, Nat.add_zero] at c0 c1 c2
  exact ⟨⟨b, off, cap', k, rfl, hin, h0, hbl, c0, c1, c2⟩, hb⟩

end Go.Proofs.Ytocjcfblpifdhaa
