/-
  Segments' cells; rows of one byte that a literal lays.
-/
import Derived.Test.YtkinbngikmcpeaaHear16
import Derived.Test.YtkinbngikmcpeaaNew16
import Derived.Test.YtkinbngikmcpeaaTick16
import Derived.Test.YtkinbngikmcpeaaConvU
namespace Go.Proofs.Ytkinbngikmcpeaa
open Go.RowKit Go.Maps
set_option linter.unusedVariables false

/-- a list of segments' cells -/
theorem SegsAt.cells {w : World} {base : Nat} {v : Value} {xs : List Se16} (h : SegsAt w base v xs) (h0 : 0 < xs.length) : ∃ g c, v = .slice (some ⟨g, 0, none⟩) xs.length c ∧ xs.length ≤ c ∧ c ≤ 9223372036854775807 ∧ base ≤ g ∧ g < w.heap.size ∧
    ∀ i (hi : i < xs.length), w.cell? ⟨g, i * 4, none⟩ = some (.int .i64 xs[i].e) ∧ w.cell? ⟨g, i * 4 + 1, none⟩ = some (.int .i64 xs[i].s) ∧ w.cell? ⟨g, i * 4 + 2, none⟩ = some (.int .i64 xs[i].k) ∧ w.cell? ⟨g, i * 4 + 3, none⟩ = some (.slice xs[i].q.a xs[i].q.n xs[i].q.cap) ∧ xs[i].q.In .u8 w ∧ xs[i].q.n ≤ 65536 := by
  obtain ⟨g, c, hv, hc1, hc2, hg, hb, hc⟩ := h.row.cells h0
  refine ⟨g, c, hv, hc1, hc2, hb, hg, fun i hi => ⟨?_, ?_, ?_, ?_, (h.rows _ (List.getElem_mem hi)).1, (h.rows _ (List.getElem_mem hi)).2⟩⟩
  · have := hc (i * 4) (by omega); rw [this, show i * 4 = i * 4 + 0 from rfl, flat_at seCells 4 seCells_len xs i 0 hi (by omega)]; rfl
  · have := hc (i * 4 + 1) (by omega); rw [this, flat_at seCells 4 seCells_len xs i 1 hi (by omega)]; rfl
  · have := hc (i * 4 + 2) (by omega); rw [this, flat_at seCells 4 seCells_len xs i 2 hi (by omega)]; rfl
  · have := hc (i * 4 + 3) (by omega); rw [this, flat_at seCells 4 seCells_len xs i 3 hi (by omega)]; rfl
theorem SegsAt.shape {w : World} {base : Nat} {v : Value} {xs : List Se16} (h : SegsAt w base v xs) : ∃ a c, v = .slice a xs.length c ∧ xs.length ≤ c ∧ c ≤ 9223372036854775807 := by
  rcases h.row.own.2 with ⟨h1, h2⟩ | ⟨g, cap, cur, h1, _, _, h3, h4, _⟩
  · exact ⟨none, 0, by rw [h1, h2], by omega, by omega⟩
  · exact ⟨_, _, h1, h3, by unfold maxLen at h4; omega⟩
/-- its blocks are none of a link's -/
theorem SegsAt.base {w : World} {base base' : Nat} {v : Value} {xs : List Se16} (h : SegsAt w base v xs) (hb : base' ≤ base) : SegsAt w base' v xs := by
  refine ⟨⟨⟨h.row.own.1, ?_⟩, h.row.all⟩, h.rows⟩
  rcases h.row.own.2 with hn | ⟨g, cap, cur, e, h1, rest⟩
  · exact .inl hn
  · exact .inr ⟨g, cap, cur, e, by omega, rest⟩
/-- a link's blocks are from base on -/
def Foot.from_ (f : Foot) (base : Nat) : Prop := ∀ b, f.has b → base ≤ b
theorem Foot.from_.to_ {w : World} {f f' : Foot} {base : Nat} (h : f.from_ base) (hf : FootTo w f f') (hb : base ≤ w.heap.size) : f'.from_ base := fun b hb' => (hf.2 b hb').elim (h b) (fun x => Nat.le_trans hb x)
/-- one row of one byte, handed in as the one body -/
theorem rws_lit1 {w : World} (x : Int) (hx : (Lit.int .u8 x).wf = true) {T : TypeId} {b : Nat} (hb : b = w.heap.size) :
    Rws .u8 ((w.alloc (.cells #[.int .u8 x] 5)).alloc (.cells #[.slice (some ⟨b, 0, none⟩) 1 1] T)) (some ⟨b + 1, 0, none⟩) 1 [⟨some ⟨b, 0, none⟩, 1, 1, [x]⟩] := by
  subst hb
  have hE : Elems .u8 (w.alloc (.cells #[.int .u8 x] 5)) (some ⟨w.heap.size, 0, none⟩) 1 [x] := elems_litK [x] rfl rfl (by simpa using hx) (by simp) rfl
  exact rws_one ⟨some ⟨w.heap.size, 0, none⟩, 1, 1, [x]⟩ (rw_in hE (by omega)) (by simp)

theorem rws_lit3 {w : World} (x y z : Int) (hx : (Lit.int .u8 x).wf = true) (hy : (Lit.int .u8 y).wf = true) (hz : (Lit.int .u8 z).wf = true) {T : TypeId} {b : Nat} (hb : b = w.heap.size) :
    Rws .u8 ((((w.alloc (.cells #[.int .u8 x] 5 (1, 2))).alloc (.cells #[.int .u8 y] 5 (1, 2))).alloc (.cells #[.int .u8 z] 5 (1, 2))).alloc (.cells #[.slice (some ⟨b, 0, none⟩) 1 1, .slice (some ⟨b + 1, 0, none⟩) 1 1, .slice (some ⟨b + 1 + 1, 0, none⟩) 1 1] T)) (some ⟨b + 1 + 1 + 1, 0, none⟩) 3
      [⟨some ⟨b, 0, none⟩, 1, 1, [x]⟩, ⟨some ⟨b + 1, 0, none⟩, 1, 1, [y]⟩, ⟨some ⟨b + 1 + 1, 0, none⟩, 1, 1, [z]⟩] := by
  subst hb
  have e1 : Elems .u8 (w.alloc (.cells #[.int .u8 x] 5 (1, 2))) (some ⟨w.heap.size, 0, none⟩) 1 [x] := elems_mark [x] rfl rfl (by simpa using hx) (by simp) rfl
  have e2 : Elems .u8 ((w.alloc (.cells #[.int .u8 x] 5 (1, 2))).alloc (.cells #[.int .u8 y] 5 (1, 2))) (some ⟨w.heap.size + 1, 0, none⟩) 1 [y] := elems_mark [y] rfl (by simp) (by simpa using hy) (by simp) rfl
  have e3 : Elems .u8 (((w.alloc (.cells #[.int .u8 x] 5 (1, 2))).alloc (.cells #[.int .u8 y] 5 (1, 2))).alloc (.cells #[.int .u8 z] 5 (1, 2))) (some ⟨w.heap.size + 1 + 1, 0, none⟩) 1 [z] := elems_mark [z] rfl (by simp) (by simpa using hz) (by simp) rfl
  have b1 : ∀ (W : World) o, Below W.heap.size W (W.alloc o) := fun W o => (Below.refl _ _).alloc (Nat.le_refl _) o
  generalize hwA : w.alloc (.cells #[.int .u8 x] 5 (1, 2)) = wA at *
  generalize hwB : wA.alloc (.cells #[.int .u8 y] 5 (1, 2)) = wB at *
  generalize hwC : wB.alloc (.cells #[.int .u8 z] 5 (1, 2)) = wC at *
  have bAB : Below wA.heap.size wA wB := by rw [← hwB]; exact b1 _ _
  have bBC : Below wB.heap.size wB wC := by rw [← hwC]; exact b1 _ _
  have hsz : wC.heap.size = w.heap.size + 1 + 1 + 1 := by rw [← hwC, ← hwB, ← hwA]; simp
  refine ⟨rfl, by omega, fun q hq => ?_, fun _ => ⟨w.heap.size + 1 + 1 + 1, 0, rfl, fun i hi => ?_⟩⟩
  · simp only [List.mem_cons, List.not_mem_nil, or_false] at hq
    rcases hq with rfl | rfl | rfl
    · exact rw_in (((e1.below bAB).below bBC).below (b1 _ _)) (by omega)
    · exact rw_in ((e2.below bBC).below (b1 _ _)) (by omega)
    · exact rw_in (e3.below (b1 _ _)) (by omega)
  · rw [← hsz]
    match i, hi with
    | 0, _ => simp only [World.cell?_alloc_new]; rfl
    | 1, _ => simp only [World.cell?_alloc_new]; rfl
    | 2, _ => simp only [World.cell?_alloc_new]; rfl

end Go.Proofs.Ytkinbngikmcpeaa
