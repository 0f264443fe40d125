/-
  Is a request's line the document's?
-/
import Derived.Test.YtolmejaedldeeaaDReqs12
import Derived.Test.YtolmejaedldeeaaStays12
import Derived.Deep.RegionHeld3
namespace Go.Proofs.Ytolmejaedldeeaa
open Go.RowKit Go.Maps
set_option linter.unusedVariables false

theorem bytes_eqB {p q : Rw} {w : World} (h : p.In .i8 w) (h2 : q.In .i8 w) (e : p.v = q.v) :
    Calls Try.prog 15 #[.slice p.a p.n p.cap, .slice q.a q.n q.cap] w fun e w' => e = .returned (.bool true) ∧ Below w.heap.size w w' := by
  have := bytes_any p.a q.a p.n q.n p.cap q.cap p.v q.v w h.1 h2.1
  rw [decide_eq_true e] at this
  exact this

set_option maxHeartbeats 6400000 in
set_option maxRecDepth 100000 in
theorem lines12 {w : World} {sb mb db room rm base : Nat} {v : Value} {L : List Ent} {D : List De} (hS : StoreAt w sb mb room L) (hD : DocAt w db rm base v D) (hL : docL D = L) {r l p : Int} (hr : w64 r) (hl : w64 l) :
    Calls Try.prog 17 #[.pointer (some ⟨sb, 0, none⟩), .pointer (some ⟨db, 0, none⟩), spotV r l p] w fun e w' => e = .returned (.bool true) ∧ Below w.heap.size w w' := by
  obtain ⟨va, vc, rfl⟩ := hD.row.shape
  subst hL
  have hlen : D.length ≤ 1048576 := by have := hS.room; rw [docL_len] at this; omega
  have HG := Lib.hid hS.good
  have HDB : Hid (∀ W, Below w.heap.size w W → DocAt W db rm base (.slice va D.length vc) D) := Lib.hid (fun W hW => hD.bel hW)
  have hal : Below w.heap.size w (w.alloc (.cells #[.int .i64 r, .int .i64 l, .int .i64 p] 33)) := (Below.refl _ _).alloc (Nat.le_refl _) _
  have hX : Box (w.alloc (.cells #[.int .i64 r, .int .i64 l, .int .i64 p] 33)) w.heap.size 33 #[.int .i64 r, .int .i64 l, .int .i64 p] := box_new _ _ _
  have HX0 := Lib.hid (And.intro hal hX)
  have cL := line12 (hS.bel hal) hr hl
  have HLN := Lib.hid hlen
  unfold spotV
  clear hS hD hal hX hlen
  go_enter Try.func17, Try.ntmps17
  go_upto_region 1 with (fail)
  generalize hwa : World.alloc _ _ = wa at HX0 cL ⊢
  have x0 : wa.cell? ⟨w.heap.size, 0, none⟩ = some (.int .i64 r) := HX0.out.2.cell 0
  have x1 : wa.cell? ⟨w.heap.size, 1, none⟩ = some (.int .i64 l) := HX0.out.2.cell 1
  go_wp2_with (with_reducible refine cL.mono ?_)
  rintro e wb ⟨⟨n, a, b, c, d, ks, vs, rfl, hN, hnL, hks, hvs, hval, -, -, -⟩, hb⟩
  have HN := Lib.hid hN
  have HK : Hid (∀ W, Below wb.heap.size wb W → Rws .i8 W a n ks ∧ Rws .i8 W b n vs) := Lib.hid (fun W hW => ⟨hks.below hW, hvs.below hW⟩)
  have HV := Lib.hid hval
  have HB : Hid (Below w.heap.size w wb ∧ Box wb w.heap.size 33 #[.int .i64 r, .int .i64 l, .int .i64 p]) := Lib.hid ⟨below_two HX0.out.1 hb, HX0.out.2.bel hb⟩
  have hn2 : n ≤ 1048576 := by have := HLN.out; rw [docL_len] at hnL; omega
  clear hN hnL hks hvs hval hb cL x0 x1 hwa HX0
  go_upto_region 3 with (fail)
  go_loopw [9, 10] (fun nv _ wr => ∃ k : Nat, k ≤ n ∧ nv = .int .i64 k ∧ Hid (Below wb.heap.size wb wr)) (fun nv _ _ => n + 1 - (intOf nv).toNat)
  case atStart => exact ⟨0, by omega, rfl, Lib.hid (Below.refl _ _)⟩
  case round =>
    obtain ⟨k, hk, rfl, HJ⟩ := hrel
    have hX := HB.out.2.bel HJ.out
    have x0 : wr.cell? ⟨w.heap.size, 0, none⟩ = some (.int .i64 r) := hX.cell 0
    have x1 : wr.cell? ⟨w.heap.size, 1, none⟩ = some (.int .i64 l) := hX.cell 1
    have cS := spot_call r l k wr
    unfold spotV at cS
    clear hX
    go_wp2_with (with_reducible refine cS.mono ?_)
    (first | rintro e ws rfl hb | rintro e ws ⟨rfl, hb⟩)
    have HBs := Lib.hid (below_two HJ.out hb)
    have cF := find12 (HDB.out ws (below_two HB.out.1 HBs.out)) HLN.out r l k
    unfold spotV at cF
    clear hb cS x0 x1
    go_wp2_with (with_reducible refine cF.mono ?_)
    (first | rintro en wf x rfl hx hb | rintro en wf ⟨x, rfl, hx⟩ hb | rintro en wf ⟨⟨x, rfl, hx⟩, hb⟩)
    have HBf := Lib.hid (below_two HBs.out hb)
    have HF := Lib.hid hx
    clear hb cF hx
    by_cases hlt : k < n
    · have hk1 : IntKind.i64.wrap ((k : Int) + 1) = ((k + 1 : Nat) : Int) := by rw [IntWalk.i64_in _ (by omega)]; rfl
      have hh := HN.out.1 k hlt
      have hx0 : 0 ≤ x := HF.out.has.1.2 hh
      obtain ⟨j, hj, rfl, hf⟩ := HF.out.at_ HG.out hx0
      have hDf := HDB.out wf (below_two HB.out.1 HBf.out)
      obtain ⟨g, c', e, hc1, hc2, hg, hcells⟩ := hDf.cells (by omega)
      obtain ⟨-, -, -, z3, z4⟩ := hcells j hj
      have s1 : wf.cell? ⟨db, 1, none⟩ = some (.slice va D.length vc) := hDf.box.cell 1
      simp only [Value.slice.injEq] at e
      obtain ⟨rfl, -, rfl⟩ := e
      have hE := hDf.ent D[j] (List.getElem_mem hj)
      obtain ⟨de, hde⟩ : ∃ de, D[j] = de := ⟨_, rfl⟩
      rw [hde] at z3 z4 hE hf
      obtain ⟨kb, ko, kq, rfl, hkb, k0, hkq, hkin⟩ := (HK.out wf HBf.out).1.at_ hlt
      obtain ⟨vb, vo, vq, rfl, hvb, v0, hvq, hvin⟩ := (HK.out wf HBf.out).2.at_ hlt
      have hkv : kq.v = de.k.v := by
        have := (HV.out k hlt).1
        rw [hkq.out] at this
        rw [this, hE.2.2.1]
        unfold keysE
        rw [hf]
      have hvv : vq.v = de.v.v := by
        have := (HV.out k hlt).2
        rw [hvq.out] at this
        rw [this, hE.2.2.2.1]
        unfold valsE
        rw [hf]
      have HIN := Lib.hid (And.intro hkin (And.intro hvin (And.intro hE.1 (And.intro hE.2.1 (And.intro hkv hvv)))))
      have hj2 : (j : Int) < (D.length : Int) := by omega
      have hk2 : decide (n ≤ k) = false := by simp; omega
      have hk3 : (k : Int) < (n : Int) := by omega
      have HKEEP : Hid (∀ W, Below wf.heap.size wf W → W.cell? ⟨db, 1, none⟩ = some (.slice (some ⟨g, 0, none⟩) D.length vc) ∧ W.cell? ⟨g, j * 5 + 3, none⟩ = some (.slice de.k.a de.k.n de.k.cap) ∧ W.cell? ⟨g, j * 5 + 4, none⟩ = some (.slice de.v.a de.v.n de.v.cap) ∧
          W.cell? ⟨kb, ko + k, none⟩ = some (.slice kq.a kq.n kq.cap) ∧ W.cell? ⟨vb, vo + k, none⟩ = some (.slice vq.a vq.n vq.cap)) := Lib.hid (fun W hW =>
        ⟨(hDf.bel hW).box.cell 1, (hW.cell (p := ⟨g, j * 5 + 3, none⟩) hg).trans z3, (hW.cell (p := ⟨g, j * 5 + 4, none⟩) hg).trans z4, (hW.cell (p := ⟨kb, ko + k, none⟩) hkb).trans k0, (hW.cell (p := ⟨vb, vo + k, none⟩) hvb).trans v0⟩)
      have HD0 : Hid (Below wf.heap.size wf wf.drew) := Lib.hid (Below.refl _ _).drew
      have cB1 := bytes_eqB (w := wf.drew) (hkin.below HD0.out) (hE.1.below HD0.out) hkv
      have cB2 := fun W (hW : Below wf.heap.size wf W) => bytes_eqB (w := W) (hvin.below hW) (hE.2.1.below hW) hvv
      clear hh hx0 hf hDf hcells hc1 hc2 hg hE hde hkq hvq hkin hvin hkv hvv hkb hvb hlt
      go_upto_region 6 with (fail)
      go_region_held3 (fun W => W.cell? ⟨db, 1, none⟩ = some (.slice (some ⟨g, 0, none⟩) D.length vc) ∧ W.cell? ⟨g, j * 5 + 3, none⟩ = some (.slice de.k.a de.k.n de.k.cap) ∧ W.cell? ⟨g, j * 5 + 4, none⟩ = some (.slice de.v.a de.v.n de.v.cap) ∧
          W.cell? ⟨kb, ko + k, none⟩ = some (.slice kq.a kq.n kq.cap) ∧ W.cell? ⟨vb, vo + k, none⟩ = some (.slice vq.a vq.n vq.cap))
        (first | go_keep | (go_split_ands; refine ⟨?_, ?_, ?_, ?_, ?_⟩ <;> assumption))
        (first
          | (go_at_call 15; (with_reducible refine cB1.mono ?_); (first | rintro e w1 rfl hb1 | rintro e w1 ⟨rfl, hb1⟩)
             have HB1 := Lib.hid (below_two HD0.out hb1)
             obtain ⟨t1, t2, t3, t4, t5⟩ := HKEEP.out w1 HB1.out
             clear hb1)
          | (go_at_call 15; (with_reducible refine (cB2 _ HB1.out).mono ?_); (first | rintro e w2 rfl hb2 | rintro e w2 ⟨rfl, hb2⟩)
             have HB2 := Lib.hid (below_two HB1.out hb2)
             obtain ⟨u1, u2, u3, u4, u5⟩ := HKEEP.out w2 HB2.out
             clear hb2))
      have HN2 := Lib.hid (below_two HBf.out HB2.out)
      go_wp2
      go_roundw
      case rel => exact ⟨k + 1, by omega, rfl, HN2⟩
      case measure => simp [intOf]; omega
    · obtain rfl : k = n := by omega
      have hh := HN.out.2
      have hx0 : x < 0 := HF.out.has.2.2 hh
      have HBB := Lib.hid (below_two HB.out.1 HBf.out)
      clear hh hlt
      go_wp2
      go_ret
      exact ⟨rfl, HBB.out⟩

end Go.Proofs.Ytolmejaedldeeaa
