/-
  Contract of package msg's reader: message.
-/
import Derived.Test.YtobogkilkmnpmaaTake15
import Derived.Test.YtobogkilkmnpmaaRd15
import Derived.Test.YtobogkilkmnpmaaRegZ
import Derived.Test.YtobogkilkmnpmaaAppRow
import Derived.Test.YtobogkilkmnpmaaRow32
namespace Go.Proofs.Ytobogkilkmnpmaa
open Go.RowKit Go.Maps
set_option linter.unusedVariables false

theorem grown_two {w w5 w6 : World} {row row2 : Option Nat} (h : w.grownBy w5 row) (h2 : w5.grownBy w6 row2) (hn : ∀ g, row2 = some g → w.heap.size ≤ g ∨ some g = row) : w.grownBy w6 row :=
  ⟨h2.os.trans h.os, h2.tape.trans h.tape, h2.output.trans h.output, Nat.le_trans h.size h2.size, fun k hk hne => (h2.block k (Nat.lt_of_lt_of_le hk h.size) (fun e => by
    rcases hn k e.symm with h3 | h3
    · omega
    · exact hne h3)).trans (h.block k hk hne)⟩
/-- what is answered of a body -/
def MsgE (B : Nat) (k : Int) (bs : List Int) (e : Ending) (w' : World) : Prop :=
  if okB (fm k) bs then ∃ g : Rw, e = .returned (.agg (withL (rdN (fm k) k bs 7) g).cells.toArray) ∧ g.In .i32 w' ∧ g.v = lsB (fm k) bs ∧ g.n = g.v.length ∧ (∀ a, g.a = some a → B ≤ a.block) else Brk e

theorem brk_msg {B : Nat} {k : Int} {bs : List Int} (w : World) (h : okB (fm k) bs = false) : MsgE B k bs (.panicked [{ v := .iface 28 (.int .i64 150), recovered := false }]) w := by unfold MsgE; rw [h]; exact rfl
theorem rd_in {f : Nat} {k : Int} {bs : List Int} {w : World} (hw : ∀ x ∈ bs, (Lit.int .u8 x).wf = true) (hk : 0 ≤ k ∧ k ≤ 255) {g : Rw} (hg : g.In .i32 w) : (withL (rdN f k bs 7) g).In w := by
  have hN : ∀ i, i < 7 → (Lit.int .i64 ((rdN f k bs 7).num i)).wf = true := fun i hi => by
    rw [rdN_num f k bs 7 (by omega) i hi]
    have := nAt_lt hw (F := f) i
    split <;> (simp [Lit.wf, IntKind.min, IntKind.max, IntKind.signed, IntKind.bits]; try omega)
  refine ⟨?_, hN 0 (by omega), hN 1 (by omega), hN 2 (by omega), hN 3 (by omega), hN 4 (by omega), hN 5 (by omega), hN 6 (by omega), hg⟩
  have e : (withL (rdN f k bs 7) g).kind = k := rdN_kind _ _ _ _
  rw [e]
  simp [Lit.wf, IntKind.min, IntKind.max, IntKind.signed, IntKind.bits]; omega
/-- a row whose block is none that turns -/
theorem rw_other {kd : IntKind} {w w' : World} {g : Rw} {b : Nat} (h : g.In kd w) (hb : ∀ a, g.a = some a → 0 < g.n → a.block ≠ b) (hg : w.grownBy w' (some b)) : g.In kd w' := by
  refine ⟨⟨h.1.1, h.1.2.1, h.1.2.2.1, fun hn => ?_⟩, h.2⟩
  obtain ⟨c, off, ha, hc⟩ := h.1.2.2.2 hn
  refine ⟨c, off, ha, fun i hi => ?_⟩
  have h0 := hc i hi
  rw [hg.cell_far _ (World.block_lt_of_cell? _ _ h0) (fun e => hb _ ha hn (by cases e; rfl))]
  exact h0
theorem own_spot {w : World} {base size n m cap : Nat} {e : TypeId} {a : Option Addr} {x : Addr} {xs : List Value} (h : w.ownsRow base e size (.slice a m cap) n xs) (ha : a = some x) : x.spot = none := by
  rcases h.2 with ⟨h1, _⟩ | ⟨g, c, cur, h1, _⟩
  · cases h1; cases ha
  · cases h1; cases ha; rfl
set_option maxHeartbeats 6400000 in
set_option maxRecDepth 100000 in
theorem message15 (k : Int) (hk : 0 ≤ k ∧ k ≤ 255) (w : World) (rb : Nat) (q : Rw) (h : RdAt w w.heap.size rb q) (hn : q.n ≤ 1048576) :
    Calls Try.prog 46 #[.pointer (some ⟨rb, 0, none⟩), .int .i64 k] w fun e w' => MsgE w.heap.size k q.v e w' ∧ w.grownBy w' (some rb) := by
  have hrb := h.1.lt
  have X0 : Box (w.alloc (.cells #[.int .i64 0, .int .i64 0, .int .i64 0, .int .i64 0, .int .i64 0, .int .i64 0, .int .i64 0, .int .i64 0, .slice none 0 0] 24)) w.heap.size 24 #[.int .i64 0, .int .i64 0, .int .i64 0, .int .i64 0, .int .i64 0, .int .i64 0, .int .i64 0, .int .i64 0, .slice none 0 0] := box_new _ _ _
  have hb0 : Below w.heap.size w (w.alloc (.cells #[.int .i64 0, .int .i64 0, .int .i64 0, .int .i64 0, .int .i64 0, .int .i64 0, .int .i64 0, .int .i64 0, .slice none 0 0] 24)) := (Below.refl _ _).alloc (Nat.le_refl _) _
  have F1 := formOf15 k (by simp [Lit.wf, IntKind.min, IntKind.max, IntKind.signed, IntKind.bits]; omega)
  go_enter Try.func46, Try.ntmps46
  go_upto_region 1 with fail
  have hs1 : w.heap.size + 1 = (w.alloc (.cells #[.int .i64 0, .int .i64 0, .int .i64 0, .int .i64 0, .int .i64 0, .int .i64 0, .int .i64 0, .int .i64 0, .slice none 0 0] 24)).heap.size := (World.size_alloc _ _).symm
  generalize (w.alloc (.cells #[.int .i64 0, .int .i64 0, .int .i64 0, .int .i64 0, .int .i64 0, .int .i64 0, .int .i64 0, .int .i64 0, .slice none 0 0] 24)) = w1 at X0 hb0 hs1 ⊢
  have X1 : Box (w1.alloc (.cells #[.int .i64 0, .int .i64 0, .int .i64 0, .int .i64 0, .int .i64 0, .int .i64 0, .int .i64 0, .int .i64 0, .slice none 0 0] 24)) w1.heap.size 24 #[.int .i64 0, .int .i64 0, .int .i64 0, .int .i64 0, .int .i64 0, .int .i64 0, .int .i64 0, .int .i64 0, .slice none 0 0] := box_new _ _ _
  go_upto_region 2 with (refine wpList_store_row (o := ⟨none, .store _ _ _, _, _, _, _⟩) rfl 24 _ _ rfl w1.heap.size #[.int .i64 k, .int .i64 0, .int .i64 0, .int .i64 0, .int .i64 0, .int .i64 0, .int .i64 0, .int .i64 0, .slice none 0 0] rfl rfl 24 _ X1 (by kernel_rfl) rfl (by simp [Value.oneCell']) ?_)
  have hb1 : Below w.heap.size w ((w1.alloc (.cells #[.int .i64 0, .int .i64 0, .int .i64 0, .int .i64 0, .int .i64 0, .int .i64 0, .int .i64 0, .int .i64 0, .slice none 0 0] 24)).setRow w1.heap.size #[.int .i64 k, .int .i64 0, .int .i64 0, .int .i64 0, .int .i64 0, .int .i64 0, .int .i64 0, .int .i64 0, .slice none 0 0]) := below_setRow (hb0.alloc hb0.size _) (by omega) (by rw [World.size_alloc]; omega)
  have X2 : Box ((w1.alloc (.cells #[.int .i64 0, .int .i64 0, .int .i64 0, .int .i64 0, .int .i64 0, .int .i64 0, .int .i64 0, .int .i64 0, .slice none 0 0] 24)).setRow w1.heap.size #[.int .i64 k, .int .i64 0, .int .i64 0, .int .i64 0, .int .i64 0, .int .i64 0, .int .i64 0, .int .i64 0, .slice none 0 0]) w1.heap.size 24 #[.int .i64 k, .int .i64 0, .int .i64 0, .int .i64 0, .int .i64 0, .int .i64 0, .int .i64 0, .int .i64 0, .slice none 0 0] := setRow_heap _ _ _ _ _ (0, 0) X1
  have X3 : Box ((w1.alloc (.cells #[.int .i64 0, .int .i64 0, .int .i64 0, .int .i64 0, .int .i64 0, .int .i64 0, .int .i64 0, .int .i64 0, .slice none 0 0] 24)).setRow w1.heap.size #[.int .i64 k, .int .i64 0, .int .i64 0, .int .i64 0, .int .i64 0, .int .i64 0, .int .i64 0, .int .i64 0, .slice none 0 0]) w.heap.size 24 #[.int .i64 0, .int .i64 0, .int .i64 0, .int .i64 0, .int .i64 0, .int .i64 0, .int .i64 0, .int .i64 0, .slice none 0 0] := (X0.alloc _).kept (grownBy_setRow _ _ _) (by simp; omega)
  have hsz : ((w1.alloc (.cells #[.int .i64 0, .int .i64 0, .int .i64 0, .int .i64 0, .int .i64 0, .int .i64 0, .int .i64 0, .int .i64 0, .slice none 0 0] 24)).setRow w1.heap.size #[.int .i64 k, .int .i64 0, .int .i64 0, .int .i64 0, .int .i64 0, .int .i64 0, .int .i64 0, .int .i64 0, .slice none 0 0]).heap.size = w.heap.size + 2 := by simp; omega
  generalize (w1.alloc (.cells #[.int .i64 0, .int .i64 0, .int .i64 0, .int .i64 0, .int .i64 0, .int .i64 0, .int .i64 0, .int .i64 0, .slice none 0 0] 24)).setRow w1.heap.size #[.int .i64 k, .int .i64 0, .int .i64 0, .int .i64 0, .int .i64 0, .int .i64 0, .int .i64 0, .int .i64 0, .slice none 0 0] = w2 at X2 X3 hb1 hsz ⊢
  rw [← hs1] at X2 ⊢
  clear X0 X1 hb0 hs1
  have hfl := fm_lt k
  obtain ⟨f, hf⟩ : ∃ f, fm k = f := ⟨_, rfl⟩
  rw [hf] at F1 hfl
  have HF := Lib.hid hf
  go_wp2_with fail
  refine (F1 _).mono ?_
  rintro e w3 ⟨rfl, hb3⟩
  clear F1
  have X3' := X3.bel hb3
  have X2' := X2.bel hb3
  have hB3 := hb1.trans (hb3.mono (by rw [hsz]; omega))
  have hsz3 : w.heap.size + 2 ≤ w3.heap.size := by rw [← hsz]; exact hb3.size
  have NB := numbers15 (w.heap.size + 1) w3
  clear X2 X3 hb1 hb3 hsz
  go_wp2_with fail
  refine NB.mono ?_
  rintro e w4 ⟨rfl, hb4⟩
  clear NB
  have HR4 := Lib.hid (X3'.bel hb4)
  have HM4 := Lib.hid (X2'.bel hb4)
  have HB4 := Lib.hid (hB3.trans (hb4.mono (by omega)))
  have HS4 : Hid (w.heap.size + 2 ≤ w4.heap.size) := Lib.hid (Nat.le_trans hsz3 hb4.size)
  have HRD := Lib.hid h
  have HRb := Lib.hid hrb
  have HN := Lib.hid hn
  clear X2' X3' hb4 hB3 hsz3 h hrb hn
  have IX := Lib.hid (run_index7 (w.heap.size + 1))
  have TL := Lib.hid (fun (i : Nat) (hi : i < 7) (W : World) => tells15 f i hfl hi W)
  have LS := Lib.hid (lists15 f hfl)
  have HRD4 : Hid (RdAt w4 w.heap.size rb q) := Lib.hid (HRD.out.kept (row := none) ⟨HB4.out.os, HB4.out.tape, HB4.out.output, HB4.out.size, fun k hk _ => HB4.out.block k hk⟩ (by simp) (fun g e => by cases e))
  have HG4 : Hid (w.grownBy w4 (some rb)) := Lib.hid (grownBy_below HB4.out _)
  have HQL : Hid (q.v.length = q.n) := Lib.hid HRD.out.2.1.1.1
  have HQW := Lib.hid HRD.out.2.1.1.2.2.1
  clear HB4
  go_wp2_with fail
  go_loopw [18] (fun i' wr => ∃ j : Nat, j ≤ 7 ∧ i' = .int .i64 j ∧ ofs f j ≤ q.n ∧ Hid (∃ qj, RdAt wr w.heap.size rb qj ∧ qj.v = q.v.drop (ofs f j) ∧ qj.n = q.n - ofs f j) ∧ Hid (Box wr (w.heap.size + 1) 24 (rdN f k q.v j).cells.toArray) ∧ Hid (Box wr w.heap.size 24 #[.int .i64 0, .int .i64 0, .int .i64 0, .int .i64 0, .int .i64 0, .int .i64 0, .int .i64 0, .int .i64 0, .slice none 0 0]) ∧ Hid (w.grownBy wr (some rb))) (fun i' _ => 7 - (intOf i').toNat)
  case atStart => exact ⟨0, by omega, rfl, Nat.zero_le _, Lib.hid ⟨q, HRD4.out, by simp [ofs], by simp [ofs]⟩, HM4, HR4, HG4⟩
  case round =>
    obtain ⟨j, hj, rfl, hoj, hQ, hM, hR, hG⟩ := hrel
    by_cases hlt : j < 7
    · have ix := IX.out j hlt wr
      have tl := TL.out j hlt
      have hlt2 : (j : Int) < 7 := by omega
      obtain ⟨qj, hrd, hqv, hqn⟩ := hQ.out
      cases ht : f.testBit j with
      | true =>
        have ho : ofs f (j + 1) = ofs f j + 5 := by show ofs f j + _ = _; rw [ht]; rfl
        rw [ht] at tl
        by_cases h5 : ofs f j + 5 ≤ q.n
        · have T1 := take15 wr w.heap.size rb qj hrd 5 (by omega) (by omega) (by omega)
          have HV : Hid (valS (qj.v.take 5) = nAt f q.v j) := Lib.hid (by rw [hqv]; rfl)
          have HC : Hid ((rdN f k q.v (j + 1)).cells.toArray = (rdN f k q.v j).cells.toArray.setIfInBounds (1 + j) (.int .i64 (nAt f q.v j : Nat))) := Lib.hid (by
            rw [← setM15_cells _ _ _ hlt]
            show (if f.testBit j then _ else _ : Ms15).cells.toArray = _
            rw [ht, if_pos rfl])
          have HD : Hid (qj.v.drop 5 = q.v.drop (ofs f (j + 1)) ∧ qj.n - 5 = q.n - ofs f (j + 1)) := Lib.hid ⟨by rw [hqv, List.drop_drop, ho], by omega⟩
          have HO : Hid (ofs f (j + 1) ≤ q.n) := Lib.hid (by omega)
          clear hrd hqv hqn ho hQ
          go_wp2_with (go_at_call 35; refine (tl _).mono ?_; rintro e w' ⟨rfl, rfl⟩)
          refine T1.mono ?_
          rintro e w5 ⟨rfl, ⟨q2, hrd2, hv2, hn2⟩, hg5⟩
          rw [HV.out]
          rw [HD.out.1] at hv2
          rw [HD.out.2] at hn2
          have hne : rb ≠ w.heap.size + 1 := by have := HRb.out; omega
          have hne0 : rb ≠ w.heap.size := by have := HRb.out; omega
          have hM5 := hM.out.kept hg5 (by simp; omega)
          have hR5 := hR.out.kept hg5 (by simp; omega)
          have cM : ∃ v, w5.cell? ⟨w.heap.size + 1, 1 + j, none⟩ = some v := ⟨_, by rw [hM5.cell (1 + j)]; have := (rdN f k q.v j).num_cell j hlt; simpa using this⟩
          obtain ⟨vM, cM⟩ := cM
          have fM : w5.frozen? ⟨w.heap.size + 1, 1 + j, none⟩ = false := hM5.frozen (1 + j)
          have HM5 := Lib.hid hM5
          have HR5 := Lib.hid hR5
          have HG5 := Lib.hid (hG.out.trans hg5)
          have HQ5 := Lib.hid (And.intro hrd2 (And.intro hv2 hn2))
          clear T1 hrd2 hv2 hn2 hg5 hM5 hR5 hM hR hG
          go_wp2_with fail
          go_roundw
          case rel =>
            have hgs := grownBy_setCell w5 (w.heap.size + 1) (1 + j) (.int .i64 ((nAt f q.v j : Nat) : Int))
            refine ⟨j + 1, by omega, by go_num, HO.out, Lib.hid ⟨q2, HQ5.out.1.kept hgs (by simp; omega) (fun g e => by cases e; omega), HQ5.out.2⟩, Lib.hid ?_, Lib.hid (HR5.out.kept hgs (by simp)), Lib.hid (grown_two HG5.out hgs (fun g e => by cases e; exact .inl (by omega)))⟩
            rw [HC.out]
            exact HM5.out.set (1 + j) _
          case measure => simp [intOf]; omega
        · have T1 := take15_no wr w.heap.size rb qj hrd 5 (by omega) (by omega)
          have HE : Hid (okB (fm k) q.v = false) := Lib.hid (by
            rw [HF.out]
            have h7 := ofs_mono f (show j + 1 ≤ 7 by omega)
            have hl := HQL.out
            unfold okB
            split
            · rw [decide_eq_false (by omega : ¬ (ofs f 7 + 2 ≤ q.v.length ∧ _ ∧ _))]; simp
            · rw [decide_eq_false (by omega : ¬ (q.v.length = ofs f 7))]; simp)
          clear hrd hqv hqn ho hQ
          go_wp2_with (go_at_call 35; refine (tl _).mono ?_; rintro e w' ⟨rfl, rfl⟩)
          refine T1.mono ?_
          rintro e w5 ⟨hbrk, rfl⟩
          have hbrk2 := hbrk
          unfold Brk at hbrk2
          subst hbrk2
          have HE2 : Hid (MsgE w.heap.size k q.v (.panicked [{ v := .iface 28 (.int .i64 150), recovered := false }]) w5) := Lib.hid (by unfold MsgE; rw [HE.out]; exact hbrk)
          clear T1 hbrk
          go_wp2_with fail
          exact ⟨rfl, HE2.out, hG.out⟩
      | false =>
        have ho : ofs f (j + 1) = ofs f j := by show ofs f j + _ = _; rw [ht]; rfl
        rw [ht] at tl
        have hrn : rdN f k q.v (j + 1) = rdN f k q.v j := by show (if f.testBit j then _ else _ : Ms15) = _; rw [ht]; rfl
        have HZ : Hid (ofs f (j + 1) ≤ q.n ∧ (∃ qj, RdAt wr w.heap.size rb qj ∧ qj.v = q.v.drop (ofs f (j + 1)) ∧ qj.n = q.n - ofs f (j + 1)) ∧ Box wr (w.heap.size + 1) 24 (rdN f k q.v (j + 1)).cells.toArray) := Lib.hid (by rw [ho, hrn]; exact ⟨hoj, hQ.out, hM.out⟩)
        clear hrd hqv hqn ho hrn hQ hM hoj
        go_wp2_with (go_at_call 35; refine (tl _).mono ?_; rintro e w' ⟨rfl, rfl⟩)
        go_roundw
        case rel => exact ⟨j + 1, by omega, by go_num, HZ.out.1, Lib.hid HZ.out.2.1, Lib.hid HZ.out.2.2, hR, hG⟩
        case measure => simp [intOf]; omega
    · obtain rfl : j = 7 := by omega
      have HL0 := Lib.hid HQL.out
      obtain ⟨qe, hRD, hqv, hqn⟩ := hQ.out
      have ls := LS.out wr
      cases ht : f.testBit 7 with
      | false =>
        rw [ht] at ls
        obtain ⟨ea, en, ec, ev⟩ := qe
        simp only at hqn hqv
        obtain ⟨x, hx⟩ : ∃ x, withL (rdN f k q.v 7) ⟨none, 0, 0, []⟩ = x := ⟨_, rfl⟩
        have hx2 : rdN f k q.v 7 = x := by rw [← hx]; have := rdN_li f k q.v 7; unfold withL; rw [← this]
        rw [hx2] at hM
        have hXi : x.In wr := by rw [← hx]; exact rd_in HQW.out (by omega) ⟨Elems.nil_ _ _ _, Nat.le_refl _, by show (0 : Nat) ≤ _; omega, ⟨fun _ => rfl, fun a e => by cases e⟩⟩
        have HB : Hid (0 < en → okB (fm k) q.v = false) := Lib.hid (fun h0 => by
          rw [HF.out]; unfold okB; rw [ht, if_neg (by decide), decide_eq_false (by have := HL0.out; omega : ¬ (q.v.length = ofs f 7))]; simp)
        have HBn : Hid (rightM x = false → okB (fm k) q.v = false) := Lib.hid (fun h0 => by
          cases hk2 : okB (fm k) q.v with
          | false => rfl
          | true =>
            have h3 := (rd_body (k := k) HQW.out hk2 ⟨none, 0, 0, []⟩ (by unfold lsB; rw [HF.out, ht]; rfl) rfl).1
            rw [HF.out, hx, h0] at h3
            cases h3)
        have HG1 : Hid (en = 0 → rightM x = true → okB (fm k) q.v = true ∧ ∃ g, x = withL (rdN (fm k) k q.v 7) g ∧ g.v = lsB (fm k) q.v ∧ g.n = g.v.length ∧ (∀ a, g.a = some a → w.heap.size + 1 ≤ a.block)) := Lib.hid (fun h0 h1 => by
          refine ⟨?_, ⟨none, 0, 0, []⟩, by rw [HF.out, hx], by unfold lsB; rw [HF.out, ht]; rfl, rfl, fun a e => by cases e⟩
          rw [← hx, ← HF.out, rd_right HQW.out, Bool.and_eq_true] at h1
          unfold okB
          rw [h1.1, HF.out, ht, if_neg (by decide), decide_eq_true (by have := HL0.out; omega : q.v.length = ofs f 7)]; rfl)
        clear hqv hqn hQ hx hx2 hoj
        have e0 : wr.cell? ⟨rb, 0, none⟩ = some (.slice ea en ec) := hRD.1.cell 0
        have m0 : wr.cell? ⟨w.heap.size + 1, 0, none⟩ = some (.int .i64 x.kind) := by rw [hM.out.cell 0]; rfl
        have m1 : wr.cell? ⟨w.heap.size + 1, 1, none⟩ = some (.int .i64 x.n0) := by rw [hM.out.cell 1]; rfl
        have m2 : wr.cell? ⟨w.heap.size + 1, 2, none⟩ = some (.int .i64 x.n1) := by rw [hM.out.cell 2]; rfl
        have m3 : wr.cell? ⟨w.heap.size + 1, 3, none⟩ = some (.int .i64 x.n2) := by rw [hM.out.cell 3]; rfl
        have m4 : wr.cell? ⟨w.heap.size + 1, 4, none⟩ = some (.int .i64 x.n3) := by rw [hM.out.cell 4]; rfl
        have m5 : wr.cell? ⟨w.heap.size + 1, 5, none⟩ = some (.int .i64 x.n4) := by rw [hM.out.cell 5]; rfl
        have m6 : wr.cell? ⟨w.heap.size + 1, 6, none⟩ = some (.int .i64 x.n5) := by rw [hM.out.cell 6]; rfl
        have m7 : wr.cell? ⟨w.heap.size + 1, 7, none⟩ = some (.int .i64 x.n6) := by rw [hM.out.cell 7]; rfl
        have m8 : wr.cell? ⟨w.heap.size + 1, 8, none⟩ = some (.slice x.li.a x.li.n x.li.cap) := by rw [hM.out.cell 8]; rfl
        have R1 := right15 x wr hXi
        have HXi := Lib.hid hXi
        clear hRD hXi
        by_cases hen : 0 < en
        · have hen2 : (0 : Int) < (en : Int) := by omega
          have HE2 := Lib.hid (brk_msg (B := w.heap.size) (k := k) wr (HB.out hen))
          clear R1
          go_wp2_with (go_at_call 40; refine ls.mono ?_; rintro e wr ⟨rfl, rfl⟩)
          exact ⟨rfl, HE2.out, hG.out⟩
        · obtain rfl : en = 0 := by omega
          cases hr : rightM x with
          | false =>
            have HE2 := brk_msg (B := w.heap.size) (k := k) (bs := q.v) wr (HBn.out hr)
            have HOK := Lib.hid (HBn.out hr)
            rw [hr] at R1
            clear HE2
            go_wp2_with (go_at_call 40; refine ls.mono ?_; rintro e wr ⟨rfl, rfl⟩)
            refine R1.mono ?_
            rintro e w6 ⟨rfl, hb6⟩
            have HE2 := Lib.hid (brk_msg (B := w.heap.size) (k := k) (bs := q.v) w6 HOK.out)
            have HG6 := Lib.hid (grown_two (row2 := none) hG.out (grownBy_below hb6 _) (fun g e => by cases e))
            clear R1 hb6
            go_wp2_with fail
            exact ⟨rfl, HE2.out, HG6.out⟩
          | true =>
            rw [hr] at R1
            have HOK := Lib.hid (HG1.out rfl hr)
            clear hr
            go_wp2_with (go_at_call 40; refine ls.mono ?_; rintro e wr ⟨rfl, rfl⟩)
            refine R1.mono ?_
            rintro e w6 ⟨rfl, hb6⟩
            have HG6 : Hid (w.grownBy w6 (some rb)) := Lib.hid (grown_two (row2 := none) hG.out (grownBy_below hb6 _) (fun g e => by cases e))
            have X6 : Hid (Box w6 (w.heap.size + 1) 24 #[.int .i64 x.kind, .int .i64 x.n0, .int .i64 x.n1, .int .i64 x.n2, .int .i64 x.n3, .int .i64 x.n4, .int .i64 x.n5, .int .i64 x.n6, .slice x.li.a x.li.n x.li.cap]) := Lib.hid (hM.out.bel hb6)
            have Y6 : Hid (Box w6 w.heap.size 24 #[.int .i64 0, .int .i64 0, .int .i64 0, .int .i64 0, .int .i64 0, .int .i64 0, .int .i64 0, .int .i64 0, .slice none 0 0]) := Lib.hid (hR.out.bel hb6)
            have HX6 := Lib.hid (HXi.out.below hb6)
            clear R1 hb6 e0 m0 m1 m2 m3 m4 m5 m6 m7 m8
            go_wp2_with (first | (refine wpList_load_row rfl 24 _ rfl (w.heap.size + 1) rfl 24 _ (0, 0) _ X6.out Try.underlying24 rfl (by kernel_rfl) ?_) | (refine wpList_store_row (o := ⟨none, .store _ _ _, _, _, _, _⟩) rfl 24 _ _ rfl w.heap.size #[.int .i64 x.kind, .int .i64 x.n0, .int .i64 x.n1, .int .i64 x.n2, .int .i64 x.n3, .int .i64 x.n4, .int .i64 x.n5, .int .i64 x.n6, .slice x.li.a x.li.n x.li.cap] rfl rfl 24 _ Y6.out (by kernel_rfl) rfl (by simp [Value.oneCell']) ?_))
            have Z6 : Box (w6.setRow w.heap.size #[.int .i64 x.kind, .int .i64 x.n0, .int .i64 x.n1, .int .i64 x.n2, .int .i64 x.n3, .int .i64 x.n4, .int .i64 x.n5, .int .i64 x.n6, .slice x.li.a x.li.n x.li.cap]) w.heap.size 24 #[.int .i64 x.kind, .int .i64 x.n0, .int .i64 x.n1, .int .i64 x.n2, .int .i64 x.n3, .int .i64 x.n4, .int .i64 x.n5, .int .i64 x.n6, .slice x.li.a x.li.n x.li.cap] := setRow_heap _ _ _ _ _ (0, 0) Y6.out
            have hgs := grownBy_setRow w6 w.heap.size #[.int .i64 x.kind, .int .i64 x.n0, .int .i64 x.n1, .int .i64 x.n2, .int .i64 x.n3, .int .i64 x.n4, .int .i64 x.n5, .int .i64 x.n6, .slice x.li.a x.li.n x.li.cap]
            have HG7 := grown_two HG6.out hgs (fun g e => by cases e; exact .inl (Nat.le_refl _))
            have HGE : MsgE w.heap.size k q.v (.returned (.agg #[.int .i64 x.kind, .int .i64 x.n0, .int .i64 x.n1, .int .i64 x.n2, .int .i64 x.n3, .int .i64 x.n4, .int .i64 x.n5, .int .i64 x.n6, .slice x.li.a x.li.n x.li.cap])) (w6.setRow w.heap.size #[.int .i64 x.kind, .int .i64 x.n0, .int .i64 x.n1, .int .i64 x.n2, .int .i64 x.n3, .int .i64 x.n4, .int .i64 x.n5, .int .i64 x.n6, .slice x.li.a x.li.n x.li.cap]) := by
              obtain ⟨h1, g, h2, h3, h4, h5⟩ := HOK.out
              unfold MsgE
              rw [h1, if_pos rfl]
              refine ⟨g, by rw [← h2]; rfl, ?_, h3, h4, fun a ha => by have := h5 a ha; omega⟩
              have hgi : g.In .i32 w6 := by have := HX6.out.li; rw [h2] at this; exact this
              exact rw_other hgi (fun a ha hn => by have := h5 a ha; omega) hgs
            exact bodyPost_ret (v := .agg #[.int .i64 x.kind, .int .i64 x.n0, .int .i64 x.n1, .int .i64 x.n2, .int .i64 x.n3, .int .i64 x.n4, .int .i64 x.n5, .int .i64 x.n6, .slice x.li.a x.li.n x.li.cap]) (results_row rfl rfl Z6 Try.underlying24 rfl (by kernel_rfl)) rfl ⟨HGE, HG7⟩
      | true =>
        rw [ht] at ls
        by_cases h2 : q.n < ofs f 7 + 2
        · have T1 := take15_no wr w.heap.size rb qe hRD 2 (by omega) (by omega)
          have HE : Hid (okB (fm k) q.v = false) := Lib.hid (by
            rw [HF.out]; unfold okB; rw [ht, if_pos rfl, decide_eq_false (by have := HL0.out; omega : ¬ (ofs f 7 + 2 ≤ q.v.length ∧ _ ∧ _))]; simp)
          clear hRD hqv hqn hQ
          go_wp2_with (go_at_call 40; refine ls.mono ?_; rintro e wr ⟨rfl, rfl⟩)
          refine T1.mono ?_
          rintro e w5 ⟨hbrk, rfl⟩
          unfold Brk at hbrk
          subst hbrk
          have HE2 := Lib.hid (brk_msg (B := w.heap.size) (k := k) (bs := q.v) w5 HE.out)
          clear T1
          go_wp2_with fail
          exact ⟨rfl, HE2.out, hG.out⟩
        · have T1 := take15 wr w.heap.size rb qe hRD 2 (by omega) (by omega) (by omega)
          have HV : Hid (valS (qe.v.take 2) = cntB f q.v) := Lib.hid (by rw [hqv]; rfl)
          have HD : Hid (qe.v.drop 2 = q.v.drop (ofs f 7 + 2) ∧ qe.n - 2 = q.n - (ofs f 7 + 2)) := Lib.hid ⟨by rw [hqv, List.drop_drop], by omega⟩
          have hcl : cntB f q.v < 65536 := by
            have := valS_lt _ (qe.v.take 2) rfl (fun x hx => hRD.2.1.1.2.2.1 x (List.mem_of_mem_take hx))
            have h5 : 256 ^ (qe.v.take 2).length ≤ 256 ^ 2 := Nat.pow_le_pow_right (by omega) (by rw [List.length_take]; omega)
            rw [HV.out] at this
            omega
          obtain ⟨K, hK⟩ : ∃ K, cntB f q.v = K := ⟨_, rfl⟩
          rw [hK] at HV hcl
          have HKK := Lib.hid hK
          clear hRD hqv hqn hQ hK
          go_wp2_with (go_at_call 40; refine ls.mono ?_; rintro e wr ⟨rfl, rfl⟩)
          refine T1.mono ?_
          rintro e w5 ⟨rfl, ⟨q2, hrd2, hv2, hn2⟩, hg5⟩
          rw [HV.out]
          rw [HD.out.1] at hv2
          rw [HD.out.2] at hn2
          have HM5 : Hid (Box w5 (w.heap.size + 1) 24 ((rdN f k q.v 7).cells.toArray.setIfInBounds 8 (.slice none 0 0))) := Lib.hid (by
            have h1 := hM.out.kept hg5 (by have := HRb.out; simp; omega)
            have h2 : (rdN f k q.v 7).cells.toArray.setIfInBounds 8 (.slice none 0 0) = (rdN f k q.v 7).cells.toArray := by
              have := rdN_li f k q.v 7
              unfold Ms15.cells
              rw [this]; rfl
            rw [h2]; exact h1)
          have HR5 := Lib.hid (hR.out.kept hg5 (by have := HRb.out; simp; omega))
          have HG5 := Lib.hid (hG.out.trans hg5)
          have HQ5 := Lib.hid (And.intro hrd2 (And.intro hv2 hn2))
          clear T1 hrd2 hv2 hn2 hg5 hM hR hG
          go_wp2_with fail
          go_loopw [34] (fun i' wr => ∃ j : Nat, j ≤ K ∧ i' = .int .i64 j ∧ ofs f 7 + 2 + 4 * j ≤ q.n ∧ Hid (∃ qj, RdAt wr w.heap.size rb qj ∧ qj.v = q.v.drop (ofs f 7 + 2 + 4 * j) ∧ qj.n = q.n - (ofs f 7 + 2 + 4 * j)) ∧ Hid (∃ g : Rw, wr.ownsRow (w.heap.size + 2) 21 1 (.slice g.a g.n g.cap) j ((itB f q.v j).map (.int .i32)) ∧ Box wr (w.heap.size + 1) 24 ((rdN f k q.v 7).cells.toArray.setIfInBounds 8 (.slice g.a g.n g.cap))) ∧ Hid (Box wr w.heap.size 24 #[.int .i64 0, .int .i64 0, .int .i64 0, .int .i64 0, .int .i64 0, .int .i64 0, .int .i64 0, .int .i64 0, .slice none 0 0]) ∧ Hid (w.grownBy wr (some rb))) (fun i' _ => K - (intOf i').toNat)
          case atStart => exact ⟨0, by omega, rfl, by omega, Lib.hid ⟨q2, HQ5.out⟩, Lib.hid ⟨⟨none, 0, 0, []⟩, own_nil _ _ _, HM5.out⟩, HR5, HG5⟩
          case round =>
            obtain ⟨j, hj, rfl, hoj2, hQ, hL, hR, hG⟩ := hrel
            by_cases hlt : j < K
            · have hlt2 : (j : Int) < (K : Int) := by omega
              obtain ⟨qj, hrd, hqv, hqn⟩ := hQ.out
              obtain ⟨g, ho, hM⟩ := hL.out
              have cL : wr.cell? ⟨w.heap.size + 1, 8, none⟩ = some (.slice g.a g.n g.cap) := by rw [hM.cell 8]; rfl
              by_cases h4 : ofs f 7 + 2 + 4 * (j + 1) ≤ q.n
              · have T1 := take15 wr.drew w.heap.size rb qj hrd 4 (by omega) (by omega) (by omega)
                have HV4 : Hid (valS (qj.v.take 4) = valS ((q.v.drop (ofs f 7 + 2 + 4 * j)).take 4)) := Lib.hid (by rw [hqv])
                have HST := Lib.hid (itB_step f q.v j)
                have HD4 : Hid (qj.v.drop 4 = q.v.drop (ofs f 7 + 2 + 4 * (j + 1)) ∧ qj.n - 4 = q.n - (ofs f 7 + 2 + 4 * (j + 1))) := Lib.hid ⟨by rw [hqv, List.drop_drop, show ofs f 7 + 2 + 4 * j + 4 = ofs f 7 + 2 + 4 * (j + 1) by omega], by omega⟩
                obtain ⟨V, hV⟩ : ∃ V, valS ((q.v.drop (ofs f 7 + 2 + 4 * j)).take 4) = V := ⟨_, rfl⟩
                rw [hV] at HV4 HST
                have HMj := Lib.hid hM
                have HOj := Lib.hid ho
                have hvV : IntKind.i32.wrap (V : Int) = wrap32 (V : Int) := by rw [IntKind.wrap_i32]; unfold wrap32; omega
                have hjb : j ≤ 65536 := by omega
                clear hrd hqv hqn hQ hL hV hM ho
                go_upto_region 12 with fail
                refine wp_region_noPanic ?_
                refine wp_region_Z (S := (fun W => W.cell? ⟨w.heap.size + 1, 8, none⟩ = some (.slice g.a g.n g.cap))) 8 (by kernel_rfl) ?_ (fun hHeld => ?_)
                · (first | assumption | go_keep)
                refine wpAnyZ_take (i := 0) (oi := ⟨some 36, _, _, _, _, _⟩) (v := ?_) rfl (by kernel_rfl) (by kernel_rfl) (by kernel_rfl) (by kernel_rfl) (fun _ _ _ h => h) (Or.inl ⟨by rfl, ?hy1⟩) hHeld ?rest1
                case hy1 => (intro W hSw; (try dsimp only at hSw); go_simp; (try with_reducible rfl))
                simp only [Act.put, List.setIfInBounds_toArray, List.set_cons_zero, List.set_cons_succ]
                refine wpAnyZ_take (i := 1) (oi := ⟨some 37, _, _, _, _, _⟩) (v := ?_) rfl (by kernel_rfl) (by kernel_rfl) (by kernel_rfl) (by kernel_rfl) (fun _ _ _ h => h) (Or.inl ⟨by rfl, ?hy2⟩) hHeld ?rest2
                case hy2 => (intro W hSw; (try dsimp only at hSw); go_simp; (try with_reducible rfl))
                simp only [Act.put, List.setIfInBounds_toArray, List.set_cons_zero, List.set_cons_succ]
                refine wpAnyZ_take (i := 2) (oi := ⟨some 38, _, _, _, _, _⟩) (v := ?_) rfl (by kernel_rfl) (by kernel_rfl) (by kernel_rfl) (by kernel_rfl) (fun _ _ _ h => h) (Or.inl ⟨by rfl, ?hy3⟩) hHeld ?rest3
                case hy3 => (intro W hSw; (try dsimp only at hSw); go_simp; (try with_reducible rfl))
                simp only [Act.put, List.setIfInBounds_toArray, List.set_cons_zero, List.set_cons_succ]
                refine wpAnyZ_ready (rs := [3]) (by kernel_rfl) (by simp) ?_
                refine (AllReadyZ.cons (o := ⟨some 39, _, _, _, _, _⟩) rfl (fun K hK => ?_) AllReadyZ.nil)
                go_simp
                go_at_call 49
                refine T1.mono ?_
                rintro e w6 ⟨rfl, ⟨q6, hrd6, hv6, hn6⟩, hg6⟩
                rw [HV4.out]
                rw [HD4.out.1] at hv6
                rw [HD4.out.2] at hn6
                have hg6p : wr.grownBy w6 (some rb) := (grownBy_drew wr _).trans hg6
                have hM6 := HMj.out.kept hg6p (by have := HRb.out; simp; omega)
                have cL6 : w6.cell? ⟨w.heap.size + 1, 8, none⟩ = some (.slice g.a g.n g.cap) := by rw [hM6.cell 8]; rfl
                have hO6 := own_grown (w := wr.drew) HOj.out hg6 (by have := HRb.out; omega)
                obtain ⟨v7, w7, hrun, ho7, hg7, _⟩ := run_append_lits (P := Try.prog) .i32 w6 (w.heap.size + 2) 22 21 4 (by omega) Try.underlying22 info_i32 _ j 1 _ [wrap32 (V : Int)] _ rfl rfl hO6 (by omega) (by omega) (by have := hM6.lt; omega)
                have hb76 : ∀ b, some b = Value.ownBlock (.slice g.a g.n g.cap) → w.heap.size + 2 ≤ b := fun b e => (hO6.lt b e.symm).1
                obtain ⟨g7, hv7⟩ : ∃ g7 : Rw, v7 = .slice g7.a g7.n g7.cap := ho7.2.elim (fun h8 => ⟨⟨none, 0, 0, []⟩, h8.1⟩) (fun ⟨g8, c8, cur8, h8, _⟩ => ⟨⟨some ⟨g8, 0, none⟩, _, c8, []⟩, h8⟩)
                subst hv7
                have hM7 := hM6.kept hg7 (fun e => by have := hb76 _ e; omega)
                have cL7 : w7.cell? ⟨w.heap.size + 1, 8, none⟩ = some (.slice g.a g.n g.cap) := by rw [hM7.cell 8]; rfl
                have fL7 : w7.frozen? ⟨w.heap.size + 1, 8, none⟩ = false := hM7.frozen 8
                have cL6a : (w6.alloc (.cells #[.int .i32 (wrap32 (V : Int))] 21)).cell? ⟨w.heap.size + 1, 8, none⟩ = some (.slice g.a g.n g.cap) := cell_alloc cL6 _
                have hR6 := hR.out.kept hg6p (by have := HRb.out; simp; omega)
                have HFIN : Hid (RdAt w7 w.heap.size rb q6 ∧ w7.ownsRow (w.heap.size + 2) 21 1 (.slice g7.a g7.n g7.cap) (j + 1) ((itB f q.v (j + 1)).map (.int .i32)) ∧ Box w7 (w.heap.size + 1) 24 ((rdN f k q.v 7).cells.toArray.setIfInBounds 8 (.slice g.a g.n g.cap)) ∧ Box w7 w.heap.size 24 #[.int .i64 0, .int .i64 0, .int .i64 0, .int .i64 0, .int .i64 0, .int .i64 0, .int .i64 0, .int .i64 0, .slice none 0 0] ∧ w.grownBy w7 (some rb) ∧ g7.a.map Addr.block ≠ some (w.heap.size + 1)) := Lib.hid (by
                  refine ⟨hrd6.kept hg7 (fun e => by have := hb76 _ e; have := HRb.out; omega) (fun g0 e => by have := hb76 g0 e.symm; omega), by rw [HST.out]; exact ho7, hM7, hR6.kept hg7 (fun e => by have := hb76 _ e; omega), grown_two (grown_two hG.out hg6p (fun g0 e => .inr e.symm)) hg7 (fun g0 e => .inl (by have := hb76 g0 e.symm; omega)), ?_⟩
                  intro e
                  obtain ⟨a0, ha0, hb0⟩ := Option.map_eq_some_iff.1 e
                  have := (ho7.lt a0.block (by rw [ha0]; rfl)).1
                  omega)
                have HQ6 := Lib.hid (And.intro hv6 hn6)
                clear hrd6 hv6 hn6 hg6 hg6p hO6 ho7 hg7 hM6 hM7 hR6 hb76
                refine hK.out _ _ ?_ (fun hNew => ?_)
                · ((try dsimp only); (first | assumption | go_keep))
                clear hK K hHeld
                have hHeld := hNew
                clear hNew
                try simp only [Act.put, List.setIfInBounds_toArray, List.set_cons_zero, List.set_cons_succ]
                refine wpAnyZ_take (i := 4) (oi := ⟨some 40, _, _, _, _, _⟩) (v := ?_) rfl (by kernel_rfl) (by kernel_rfl) (by kernel_rfl) (by kernel_rfl) (fun _ _ _ h => h) (Or.inl ⟨by rfl, ?hy4⟩) hHeld ?rest4
                case hy4 => (intro W hSw; (try dsimp only at hSw); go_simp; (try with_reducible rfl))
                simp only [Act.put, List.setIfInBounds_toArray, List.set_cons_zero, List.set_cons_succ]
                refine wpAnyZ_ready (rs := [5]) (by kernel_rfl) (by simp) ?_
                refine (AllReadyZ.cons (o := ⟨some 41, _, _, _, _, _⟩) rfl (fun K hK => ?_) AllReadyZ.nil)
                go_simp
                refine hK.out _ _ ?_ (fun hNew => ?_)
                · ((try dsimp only); (first | assumption | go_keep))
                clear hK K hHeld
                have hHeld := hNew
                clear hNew
                try simp only [Act.put, List.setIfInBounds_toArray, List.set_cons_zero, List.set_cons_succ]
                refine wpAnyZ_ready (rs := [6]) (by kernel_rfl) (by simp) ?_
                refine (AllReadyZ.cons (o := ⟨some 42, _, _, _, _, _⟩) rfl (fun K hK => ?_) AllReadyZ.nil)
                ((with_reducible refine step_append_run ?_ (.tmp 37) (.tmp 41) 22 ?_ _ _ ?_ ?_ hrun ?_); rfl; rfl; rfl; rfl)
                refine hK.out _ _ ?_ (fun hNew => ?_)
                · ((try dsimp only); (first | assumption | go_keep))
                clear hK K hHeld
                have hHeld := hNew
                clear hNew
                try simp only [Act.put, List.setIfInBounds_toArray, List.set_cons_zero, List.set_cons_succ]
                refine wpAnyZ_take (i := 7) (oi := ⟨some 43, _, _, _, _, _⟩) (v := ?_) rfl (by kernel_rfl) (by kernel_rfl) (by kernel_rfl) (by kernel_rfl) (fun _ _ _ h => h) (Or.inl ⟨by rfl, ?hy5⟩) hHeld ?rest5
                case hy5 => (intro W hSw; (try dsimp only at hSw); go_simp; (try with_reducible rfl))
                simp only [Act.put, List.setIfInBounds_toArray, List.set_cons_zero, List.set_cons_succ]
                refine wpAnyZ_ready (rs := [8]) (by kernel_rfl) (by simp) ?_
                refine AllReadyZ.last (o := ⟨none, _, _, _, _, _⟩) rfl (fun K hK => ?_) AllReadyZ.nil
                go_simp
                refine hK.out _ _ ?_
                clear hK K hHeld
                try simp only [Act.put, List.setIfInBounds_toArray, List.set_cons_zero, List.set_cons_succ]
                refine wpAnyZ_done (by kernel_rfl) ?_ _
                refine NoPanic.normal ?_
                go_wp2_with fail
                go_roundw
                case rel =>
                  have hgs := grownBy_setCell w7 (w.heap.size + 1) 8 (.slice g7.a g7.n g7.cap)
                  obtain ⟨k1, k2, k3, k4, k5, k6⟩ := HFIN.out
                  refine ⟨j + 1, by omega, by go_num, h4, Lib.hid ⟨q6, k1.kept hgs (by have := HRb.out; simp; omega) (fun g0 e => by cases e; omega), HQ6.out⟩, Lib.hid ⟨g7, own_grown k2 hgs (by omega), ?_⟩, Lib.hid (k4.kept hgs (by simp)), Lib.hid (grown_two k5 hgs (fun g0 e => by cases e; exact .inl (by omega)))⟩
                  have h9 := k3.set 8 (.slice g7.a g7.n g7.cap)
                  simpa using h9
                case measure => simp [intOf]; omega
              · have T1 := take15_no wr.drew w.heap.size rb qj hrd 4 (by omega) (by omega)
                have HE : Hid (okB (fm k) q.v = false) := Lib.hid (by
                  rw [HF.out]; unfold okB; rw [ht, if_pos rfl, decide_eq_false (by rw [HKK.out]; have := HL0.out; omega : ¬ (ofs f 7 + 2 ≤ q.v.length ∧ _ ∧ _))]; simp)
                clear hrd hqv hqn hQ hL hM ho
                go_upto_region 12 with fail
                refine wp_region_held_drew (S := (fun W => W.cell? ⟨w.heap.size + 1, 8, none⟩ = some (.slice g.a g.n g.cap))) (by kernel_rfl) ?_ (fun hHeld => ?_)
                · (first | assumption | go_keep)
                refine wpAnyH_take (i := 0) (oi := ⟨some 36, _, _, _, _, _⟩) (v := ?_) rfl (by kernel_rfl) (by kernel_rfl) (by kernel_rfl) (fun _ _ _ h => h) (Or.inl ⟨by rfl, ?hz0⟩) hHeld ?rez0
                case hz0 => (intro W hSw; (try dsimp only at hSw); go_simp; (try with_reducible rfl))
                simp only [Act.put, List.setIfInBounds_toArray, List.set_cons_zero, List.set_cons_succ]
                refine wpAnyH_take (i := 1) (oi := ⟨some 37, _, _, _, _, _⟩) (v := ?_) rfl (by kernel_rfl) (by kernel_rfl) (by kernel_rfl) (fun _ _ _ h => h) (Or.inl ⟨by rfl, ?hz1⟩) hHeld ?rez1
                case hz1 => (intro W hSw; (try dsimp only at hSw); go_simp; (try with_reducible rfl))
                simp only [Act.put, List.setIfInBounds_toArray, List.set_cons_zero, List.set_cons_succ]
                refine wpAnyH_take (i := 2) (oi := ⟨some 38, _, _, _, _, _⟩) (v := ?_) rfl (by kernel_rfl) (by kernel_rfl) (by kernel_rfl) (fun _ _ _ h => h) (Or.inl ⟨by rfl, ?hz2⟩) hHeld ?rez2
                case hz2 => (intro W hSw; (try dsimp only at hSw); go_simp; (try with_reducible rfl))
                simp only [Act.put, List.setIfInBounds_toArray, List.set_cons_zero, List.set_cons_succ]
                refine wpAnyH_ready (rs := [3]) (by kernel_rfl) (by simp) ?_
                refine AllReadyH.cons (o := ⟨some 39, _, _, _, _, _⟩) rfl (fun K hK => ?_) AllReadyH.nil
                go_simp
                go_at_call 49
                refine T1.mono ?_
                rintro e w5 ⟨hbrk, rfl⟩
                unfold Brk at hbrk
                subst hbrk
                have HE2 := Lib.hid (brk_msg (B := w.heap.size) (k := k) (bs := q.v) wr.drew HE.out)
                clear T1
                (try go_wp2_with fail)
                exact ⟨rfl, HE2.out, hG.out.trans (grownBy_drew wr _)⟩
            · obtain rfl : j = K := by omega
              obtain ⟨qe, hRD, hqv, hqn⟩ := hQ.out
              obtain ⟨gg, ho, hM0⟩ := hL.out
              obtain ⟨ea, en, ec, ev⟩ := qe
              simp only at hqn hqv
              obtain ⟨ga, gcap, hgv, hgE, hgc1, hgc2, hgc3⟩ := own_reads ho (itB_wf f q.v j) (by omega)
              have hgb : ∀ a, gg.a = some a → w.heap.size + 2 ≤ a.block := fun a ha => (ho.lt a.block (by rw [ha]; rfl)).1
              simp only [Value.slice.injEq] at hgv
              obtain ⟨x, hx⟩ : ∃ x, withL (rdN f k q.v 7) ⟨gg.a, j, gg.cap, itB f q.v j⟩ = x := ⟨_, rfl⟩
              have hM : Hid (Box wr (w.heap.size + 1) 24 x.cells.toArray) := Lib.hid (by
                rw [← hx]
                have h5 : (withL (rdN f k q.v 7) ⟨gg.a, j, gg.cap, itB f q.v j⟩).cells.toArray = (rdN f k q.v 7).cells.toArray.setIfInBounds 8 (.slice gg.a gg.n gg.cap) := by rw [hgv.2.1]; rfl
                rw [h5]; exact hM0)
              have hgI : Rw.In .i32 wr ⟨gg.a, j, gg.cap, itB f q.v j⟩ := ⟨by rw [hgv.1]; exact hgE, by rw [hgv.2.2]; exact hgc1, by rw [hgv.2.2]; exact hgc2, ⟨fun e => by rw [hgv.2.2]; exact hgc3 (by rw [← hgv.1]; exact e), fun a ha h0 => own_spot ho ha⟩⟩
              have hXi : x.In wr := by rw [← hx]; exact rd_in HQW.out (by omega) hgI
              have HB : Hid (0 < en → okB (fm k) q.v = false) := Lib.hid (fun h0 => by
                rw [HF.out]; unfold okB; rw [ht, if_pos rfl, decide_eq_false (by rw [HKK.out]; have := HL0.out; omega : ¬ (ofs f 7 + 2 ≤ q.v.length ∧ _ ∧ _))]; simp)
              have HLS : Hid (lsB (fm k) q.v = itB f q.v j) := Lib.hid (by unfold lsB; rw [HF.out, ht, if_pos rfl, HKK.out])
              have HBn : Hid (rightM x = false → okB (fm k) q.v = false) := Lib.hid (fun h0 => by
                cases hk2 : okB (fm k) q.v with
                | false => rfl
                | true =>
                  have h3 := (rd_body (k := k) HQW.out hk2 ⟨gg.a, j, gg.cap, itB f q.v j⟩ HLS.out.symm (itB_len _ _ _).symm).1
                  rw [HF.out, hx, h0] at h3
                  cases h3)
              have HG1 : Hid (en = 0 → rightM x = true → okB (fm k) q.v = true ∧ ∃ g, x = withL (rdN (fm k) k q.v 7) g ∧ g.v = lsB (fm k) q.v ∧ g.n = g.v.length ∧ (∀ a, g.a = some a → w.heap.size + 1 ≤ a.block)) := Lib.hid (fun h0 h1 => by
                refine ⟨?_, ⟨gg.a, j, gg.cap, itB f q.v j⟩, by rw [HF.out, hx], HLS.out.symm, (itB_len _ _ _).symm, fun a e => by have := hgb a e; omega⟩
                rw [← hx, ← HF.out, rd_right HQW.out, Bool.and_eq_true] at h1
                have h6 := h1.2
                rw [HF.out] at h6
                unfold most15 at h6
                rw [ht, if_pos rfl] at h6
                have h7 : j ≤ 4096 := of_decide_eq_true h6
                unfold okB
                rw [h1.1, HF.out, ht, if_pos rfl, decide_eq_true (by rw [HKK.out]; have := HL0.out; omega : ofs f 7 + 2 ≤ q.v.length ∧ cntB f q.v ≤ 4096 ∧ q.v.length = ofs f 7 + 2 + 4 * cntB f q.v)]; rfl)
              clear hqv hqn hQ hx hL ho hM0 hgE hgv hgI hgb
              have e0 : wr.cell? ⟨rb, 0, none⟩ = some (.slice ea en ec) := hRD.1.cell 0
              have m0 : wr.cell? ⟨w.heap.size + 1, 0, none⟩ = some (.int .i64 x.kind) := by rw [hM.out.cell 0]; rfl
              have m1 : wr.cell? ⟨w.heap.size + 1, 1, none⟩ = some (.int .i64 x.n0) := by rw [hM.out.cell 1]; rfl
              have m2 : wr.cell? ⟨w.heap.size + 1, 2, none⟩ = some (.int .i64 x.n1) := by rw [hM.out.cell 2]; rfl
              have m3 : wr.cell? ⟨w.heap.size + 1, 3, none⟩ = some (.int .i64 x.n2) := by rw [hM.out.cell 3]; rfl
              have m4 : wr.cell? ⟨w.heap.size + 1, 4, none⟩ = some (.int .i64 x.n3) := by rw [hM.out.cell 4]; rfl
              have m5 : wr.cell? ⟨w.heap.size + 1, 5, none⟩ = some (.int .i64 x.n4) := by rw [hM.out.cell 5]; rfl
              have m6 : wr.cell? ⟨w.heap.size + 1, 6, none⟩ = some (.int .i64 x.n5) := by rw [hM.out.cell 6]; rfl
              have m7 : wr.cell? ⟨w.heap.size + 1, 7, none⟩ = some (.int .i64 x.n6) := by rw [hM.out.cell 7]; rfl
              have m8 : wr.cell? ⟨w.heap.size + 1, 8, none⟩ = some (.slice x.li.a x.li.n x.li.cap) := by rw [hM.out.cell 8]; rfl
              have R1 := right15 x wr hXi
              have HXi := Lib.hid hXi
              clear hRD hXi
              by_cases hen : 0 < en
              · have hen2 : (0 : Int) < (en : Int) := by omega
                have HE2 := Lib.hid (brk_msg (B := w.heap.size) (k := k) wr (HB.out hen))
                clear R1
                go_wp2_with fail
                exact ⟨rfl, HE2.out, hG.out⟩
              · obtain rfl : en = 0 := by omega
                cases hr : rightM x with
                | false =>
                  have HE2 := brk_msg (B := w.heap.size) (k := k) (bs := q.v) wr (HBn.out hr)
                  have HOK := Lib.hid (HBn.out hr)
                  rw [hr] at R1
                  clear HE2
                  go_wp2_with fail
                  refine R1.mono ?_
                  rintro e w6 ⟨rfl, hb6⟩
                  have HE2 := Lib.hid (brk_msg (B := w.heap.size) (k := k) (bs := q.v) w6 HOK.out)
                  have HG6 := Lib.hid (grown_two (row2 := none) hG.out (grownBy_below hb6 _) (fun g e => by cases e))
                  clear R1 hb6
                  go_wp2_with fail
                  exact ⟨rfl, HE2.out, HG6.out⟩
                | true =>
                  rw [hr] at R1
                  have HOK := Lib.hid (HG1.out rfl hr)
                  clear hr
                  go_wp2_with fail
                  refine R1.mono ?_
                  rintro e w6 ⟨rfl, hb6⟩
                  have HG6 : Hid (w.grownBy w6 (some rb)) := Lib.hid (grown_two (row2 := none) hG.out (grownBy_below hb6 _) (fun g e => by cases e))
                  have X6 : Hid (Box w6 (w.heap.size + 1) 24 #[.int .i64 x.kind, .int .i64 x.n0, .int .i64 x.n1, .int .i64 x.n2, .int .i64 x.n3, .int .i64 x.n4, .int .i64 x.n5, .int .i64 x.n6, .slice x.li.a x.li.n x.li.cap]) := Lib.hid (hM.out.bel hb6)
                  have Y6 : Hid (Box w6 w.heap.size 24 #[.int .i64 0, .int .i64 0, .int .i64 0, .int .i64 0, .int .i64 0, .int .i64 0, .int .i64 0, .int .i64 0, .slice none 0 0]) := Lib.hid (hR.out.bel hb6)
                  have HX6 := Lib.hid (HXi.out.below hb6)
                  clear R1 hb6 e0 m0 m1 m2 m3 m4 m5 m6 m7 m8
                  go_wp2_with (first | (refine wpList_load_row rfl 24 _ rfl (w.heap.size + 1) rfl 24 _ (0, 0) _ X6.out Try.underlying24 rfl (by kernel_rfl) ?_) | (refine wpList_store_row (o := ⟨none, .store _ _ _, _, _, _, _⟩) rfl 24 _ _ rfl w.heap.size #[.int .i64 x.kind, .int .i64 x.n0, .int .i64 x.n1, .int .i64 x.n2, .int .i64 x.n3, .int .i64 x.n4, .int .i64 x.n5, .int .i64 x.n6, .slice x.li.a x.li.n x.li.cap] rfl rfl 24 _ Y6.out (by kernel_rfl) rfl (by simp [Value.oneCell']) ?_))
                  have Z6 : Box (w6.setRow w.heap.size #[.int .i64 x.kind, .int .i64 x.n0, .int .i64 x.n1, .int .i64 x.n2, .int .i64 x.n3, .int .i64 x.n4, .int .i64 x.n5, .int .i64 x.n6, .slice x.li.a x.li.n x.li.cap]) w.heap.size 24 #[.int .i64 x.kind, .int .i64 x.n0, .int .i64 x.n1, .int .i64 x.n2, .int .i64 x.n3, .int .i64 x.n4, .int .i64 x.n5, .int .i64 x.n6, .slice x.li.a x.li.n x.li.cap] := setRow_heap _ _ _ _ _ (0, 0) Y6.out
                  have hgs := grownBy_setRow w6 w.heap.size #[.int .i64 x.kind, .int .i64 x.n0, .int .i64 x.n1, .int .i64 x.n2, .int .i64 x.n3, .int .i64 x.n4, .int .i64 x.n5, .int .i64 x.n6, .slice x.li.a x.li.n x.li.cap]
                  have HG7 := grown_two HG6.out hgs (fun g e => by cases e; exact .inl (Nat.le_refl _))
                  have HGE : MsgE w.heap.size k q.v (.returned (.agg #[.int .i64 x.kind, .int .i64 x.n0, .int .i64 x.n1, .int .i64 x.n2, .int .i64 x.n3, .int .i64 x.n4, .int .i64 x.n5, .int .i64 x.n6, .slice x.li.a x.li.n x.li.cap])) (w6.setRow w.heap.size #[.int .i64 x.kind, .int .i64 x.n0, .int .i64 x.n1, .int .i64 x.n2, .int .i64 x.n3, .int .i64 x.n4, .int .i64 x.n5, .int .i64 x.n6, .slice x.li.a x.li.n x.li.cap]) := by
                    obtain ⟨h1, g, h2, h3, h4, h5⟩ := HOK.out
                    unfold MsgE
                    rw [h1, if_pos rfl]
                    refine ⟨g, by rw [← h2]; rfl, ?_, h3, h4, fun a ha => by have := h5 a ha; omega⟩
                    have hgi : g.In .i32 w6 := by have := HX6.out.li; rw [h2] at this; exact this
                    exact rw_other hgi (fun a ha hn => by have := h5 a ha; omega) hgs
                  exact bodyPost_ret (v := .agg #[.int .i64 x.kind, .int .i64 x.n0, .int .i64 x.n1, .int .i64 x.n2, .int .i64 x.n3, .int .i64 x.n4, .int .i64 x.n5, .int .i64 x.n6, .slice x.li.a x.li.n x.li.cap]) (results_row rfl rfl Z6 Try.underlying24 rfl (by kernel_rfl)) rfl ⟨HGE, HG7⟩

end Go.Proofs.Ytobogkilkmnpmaa
