import Derived.Test.YtoeihigdndkjeaaGreatDoorP30
/-
  A run behind tokens that were fed; Feed of tokens that there are, where there are places.
-/
namespace Go.Proofs.YtoeihigdndkjeaaGreatDoor
open Go.RowKit Go.Shelf
set_option linter.unusedVariables false

theorem below_away {B : Nat} {w0 w w' : World} {r mb : Nat} (h : Below B w0 w) (a : Away w w' r mb) (h1 : B ≤ r) (h2 : B ≤ mb) (h3 : B ≤ w.heap.size) : Below B w0 w' :=
  ⟨a.os.trans h.os, a.tape.trans h.tape, a.output.trans h.output, Nat.le_trans h.size a.size, fun k hk => (a.block k (by omega) (by omega) (by omega)).trans (h.block k hk)⟩
/-- a run behind the tokens fed -/
structure RunS (w : World) (r m mb : Nat) (s : Sz) (V : Wt7) (fed : List Int) (N : Nat) : Prop where
  run : RunAt w r m mb s fed.length 0 N (runO (V.nums s) st09 (fed.map Int.toNat)).K
  mod : ModAt w m s V
  tab : Tab w
  stab : STab w
theorem RunS.bel {w w' : World} {r m mb : Nat} {s : Sz} {V : Wt7} {fed : List Int} {N : Nat} (h : RunS w r m mb s V fed N) (hb : Below w.heap.size w w') : RunS w' r m mb s V fed N :=
  ⟨h.run.bel hb, h.mod.bel hb, h.tab.below hb, h.stab.below hb⟩
theorem RunS.lts {w : World} {r m mb : Nat} {s : Sz} {V : Wt7} {fed : List Int} {N : Nat} (h : RunS w r m mb s V fed N) : r < w.heap.size ∧ mb < w.heap.size :=
  ⟨h.run.box.lt, let ⟨D, hO, _⟩ := h.run.map; hO.lt⟩
theorem fed9 (r m mb n N cap : Nat) (s : Sz) (ok : s.Ok) (V : Wt7) (fed xs : List Int) (w : World) (h : RunS w r m mb s V fed N) (h200 : s.p ≤ 200) (a : Option Addr) (hx : Elems .i64 w a n xs) (hn0 : 0 < n) (hn : n ≤ 1000)
    (hne : ∀ b o, a = some ⟨b, o, none⟩ → b ≠ r ∧ b ≠ mb) (hb : ∀ t ∈ xs, 0 ≤ t ∧ t < s.v) (hp : fed.length + n ≤ s.p) (hN : N ≤ 16 * fed.length) :
    Calls Tryz.prog 11 #[.pointer (some ⟨r, 0, none⟩), .slice a n cap] w fun e w' =>
      (∃ g c N', e = .returned (.tuple #[.slice (some ⟨g, 0, none⟩) s.v c, .int .i64 0]) ∧ s.v ≤ c ∧ c ≤ 9223372036854775807 ∧ Elems .i32 w' (some ⟨g, 0, none⟩) s.v (outO (V.nums s) (runO (V.nums s) st09 ((fed ++ xs).map Int.toNat)).x) ∧
        RunS w' r m mb s V (fed ++ xs) N' ∧ N' ≤ 16 * (fed ++ xs).length) ∧ Away w w' r mb := by
  have hl := hx.1
  have hxne : xs ≠ [] := fun e => by rw [e] at hl; simp at hl; omega
  have hf : faultO s fed.length xs = 0 := fault_none hb (by rw [hl]; exact hp)
  have hrun := fed_step (V.nums s) fed xs hxne
  have cF := feed8 r m mb n N cap ⟨[], fed.length, (runO (V.nums s) st09 (fed.map Int.toNat)).K⟩ s ok V w h.run h.mod rfl h200 (by show fed.length ≤ s.p; omega) a xs hx hn hne (by omega) h.tab h.stab
  refine cF.mono ?_
  rintro e w' ⟨v, N', rfl, q1, q2, q3, q4, q5, q6, q7, q8⟩
  obtain ⟨g, c, rfl, q9, q10, q11⟩ := q3 hf (by rw [hl]; exact hn0)
  have hnx : nextO s (V.nums s) ⟨[], fed.length, (runO (V.nums s) st09 (fed.map Int.toNat)).K⟩ xs = runO (V.nums s) st09 ((fed ++ xs).map Int.toNat) := by
    unfold nextO
    rw [if_pos hf, hrun]
  have hpp : (runO (V.nums s) st09 ((fed ++ xs).map Int.toNat)).p = (fed ++ xs).length := by
    rw [runO_p, List.length_map]
    show 0 + _ = _
    omega
  rw [hnx, hpp] at q4
  rw [hrun] at q11
  refine ⟨⟨g, c, N', by rw [show faultO s fed.length xs = 0 from hf], q9, q10, q11, ⟨q4, q5, q6, q7⟩, ?_⟩, q8⟩
  rw [List.length_append]
  omega

end Go.Proofs.YtoeihigdndkjeaaGreatDoor
