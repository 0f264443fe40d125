import Derived.Test.YtoeihigdndkjeaaGreatDoorJ16
import Derived.BigQuiet
/-
  The first error of tokens; Feed.
-/
namespace Go.Proofs.YtoeihigdndkjeaaGreatDoor
open Go.RowKit Go.Shelf
set_option linter.unusedVariables false

/-- is a token odd; the first error of tokens -/
def oddO (s : Sz) (t : Int) : Bool := decide (t < 0) || decide ((s.v : Int) ≤ t)
def faultO (s : Sz) (p : Nat) (ts : List Int) : Int := if ts.any (oddO s) then 2 else if s.p < p + ts.length then 80 else 0
theorem oddO_no {s : Sz} {t : Int} : oddO s t = false ↔ 0 ≤ t ∧ t < s.v := by
  unfold oddO
  simp only [Bool.or_eq_false_iff, decide_eq_false_iff_not]
  omega
theorem faultO_yes {s : Sz} {p : Nat} {ts : List Int} (h : faultO s p ts = 0) : (∀ t ∈ ts, 0 ≤ t ∧ t < s.v) ∧ p + ts.length ≤ s.p := by
  unfold faultO at h
  by_cases h1 : ts.any (oddO s) = true
  · rw [if_pos h1] at h; omega
  · rw [if_neg h1] at h
    have h2 : ts.any (oddO s) = false := by simpa using h1
    rw [List.any_eq_false] at h2
    refine ⟨fun t ht => oddO_no.1 (by simpa using h2 t ht), ?_⟩
    by_cases h3 : s.p < p + ts.length
    · rw [if_pos h3] at h; omega
    · omega
theorem take_no {s : Sz} {ts : List Int} {k : Nat} (hk : k < ts.length) (h : (ts.take k).any (oddO s) = false) (h2 : oddO s (ts.getD k 0) = false) : (ts.take (k + 1)).any (oddO s) = false := by
  rw [List.take_add_one, List.any_append, h, List.getElem?_eq_getElem hk]
  rw [List.getD_eq_getElem?_getD, List.getElem?_eq_getElem hk] at h2
  simpa using h2
theorem fault_odd {s : Sz} {p : Nat} {ts : List Int} {k : Nat} (hk : k < ts.length) (h : oddO s (ts.getD k 0) = true) : faultO s p ts = 2 := by
  unfold faultO
  rw [if_pos (List.any_eq_true.2 ⟨_, getD_mem hk, h⟩)]
theorem fault_full {s : Sz} {p : Nat} {ts : List Int} (h : ts.any (oddO s) = false) : faultO s p ts = if s.p < p + ts.length then 80 else 0 := by
  unfold faultO
  rw [if_neg (by simp [h])]

set_option maxHeartbeats 2000000 in
set_option maxRecDepth 100000 in
theorem fault8 (r m mb p n N tcap : Nat) (K : KF8) (s : Sz) (ok : s.Ok) (W : Wt7) (w : World) (hr : RunAt w r m mb s p 0 N K) (hm : ModAt w m s W) (hp : p ≤ 1000) (a : Option Addr) (xs : List Int) (hx : Elems .i64 w a n xs) (hn : n ≤ 1000) :
    Calls Tryz.prog 34 #[.pointer (some ⟨r, 0, none⟩), .slice a n tcap] w fun e w' => e = .returned (.int .i64 (faultO s p xs)) ∧ Below w.heap.size w w' := by
  have bd := ok.bd
  have c0 : w.cell? ⟨r, 0, none⟩ = some (.pointer (some ⟨m, 0, none⟩)) := hr.box.cell 0
  have c1 : w.cell? ⟨r, 1, none⟩ = some (.int .i64 p) := hr.box.cell 1
  have cS := shape8 m s W w hm
  have HO : Hid (∀ t, oddO s t = (decide (t < 0) || decide ((s.v : Int) ≤ t))) := Lib.hid fun _ => rfl
  have HF : Hid (∀ ts : List Int, ts.any (oddO s) = false → faultO s p ts = if s.p < p + ts.length then 80 else 0) := Lib.hid fun _ h => fault_full h
  have b1 : s.v ≤ 512 := bd.2.2.2.2.1.2
  have b2 : s.p ≤ 256 := bd.2.2.2.2.2.2
  unfold Sz.val shv at cS
  go_enter Tryz.func34, Tryz.ntmps34
  go_wp2_with fail
  refine cS.mono ?_
  rintro e wa ⟨rfl, hba⟩
  have c1a := cell_kept6 hba c1
  have HX := Lib.hid (hx.below hba)
  have hsz := hba.size
  clear cS c0 c1 hr hm
  go_upto_region 2 with (fail)
  generalize hwb : World.alloc _ _ = wb
  have XB : Box wb wa.heap.size 45 #[.int .i64 s.l, .int .i64 s.w, .int .i64 s.h, .int .i64 s.i, .int .i64 s.v, .int .i64 s.p] := by rw [← hwb]; exact box_new _ _ _
  have hbb : Below wa.heap.size wa wb := by rw [← hwb]; exact (Below.refl _ _).alloc (Nat.le_refl _) _
  clear hwb
  have c1b := cell_kept6 hbb c1a
  have y4 : wb.cell? ⟨wa.heap.size, 4, none⟩ = some (.int .i64 s.v) := XB.cell 4
  have y5 : wb.cell? ⟨wa.heap.size, 5, none⟩ = some (.int .i64 s.p) := XB.cell 5
  have HXb := Lib.hid (HX.out.below hbb)
  have HB : Hid (Below w.heap.size w wb) := Lib.hid (below_two hba hbb)
  clear HX hba hbb c1a XB hx
  go_wp2
  go_loopw [15] (fun i wr => ∃ k : Nat, k ≤ n ∧ i = .int .i64 k ∧ wr = wb ∧ Hid ((xs.take k).any (oddO s) = false)) (fun i _ => n - (intOf i).toNat)
  case atStart => exact ⟨0, by omega, rfl, rfl, Lib.hid rfl⟩
  case round =>
    obtain ⟨k, hk, rfl, rfl, hT⟩ := hrel
    by_cases hlt : k < n
    · obtain ⟨b, off, t, ha, hc, HT, hw⟩ := HXb.out.at_ hlt
      have hw2 := wf64 hw
      subst ha
      clear hw
      have hl : k < xs.length := by rw [HXb.out.1]; exact hlt
      by_cases h0 : t < 0
      · go_wp2
        go_ret
        refine ⟨ret_int (fault_odd hl ?_).symm, HB.out⟩
        rw [HT.out, HO.out]; simp [h0]
      · by_cases h1 : (s.v : Int) ≤ t
        · go_wp2
          go_ret
          refine ⟨ret_int (fault_odd hl ?_).symm, HB.out⟩
          rw [HT.out, HO.out]; simp [h1]
        · have hT2 : Hid ((xs.take (k + 1)).any (oddO s) = false) := Lib.hid (take_no hl hT.out (by rw [HT.out, HO.out]; simp [h0, h1]))
          go_wp2
          go_roundw
          case rel => exact ⟨k + 1, by omega, by go_num, trivial, hT2⟩
          case measure => simp [intOf]; omega
    · obtain rfl : k = n := by omega
      have hf : Hid (faultO s p xs = if s.p < p + k then 80 else 0) := Lib.hid (by
        have := HF.out xs (by rw [← hT.out, List.take_of_length_le (by rw [HXb.out.1]; exact Nat.le_refl _)])
        rw [this, HXb.out.1])
      by_cases h2 : s.p < p + k
      · have hf2 : Hid (faultO s p xs = 80) := Lib.hid (by rw [hf.out, if_pos h2])
        go_upto_region 8 with (fail)
        go_quiet (fail)
        go_wp2
        go_ret
        exact ⟨ret_int hf2.out.symm, HB.out.trans (below_drewN (Below.refl _ _) _)⟩
      · have hf2 : Hid (faultO s p xs = 0) := Lib.hid (by rw [hf.out, if_neg h2])
        go_upto_region 8 with (fail)
        go_quiet (fail)
        go_wp2
        go_ret
        exact ⟨ret_int hf2.out.symm, HB.out.trans (below_drewN (Below.refl _ _) _)⟩

/-- all but two blocks stands as it stood -/
structure Away (w w' : World) (r mb : Nat) : Prop where
  block : ∀ k, k < w.heap.size → k ≠ r → k ≠ mb → w'.heap[k]? = w.heap[k]?
  os : w'.os = w.os
  tape : w'.tape = w.tape
  output : w'.output = w.output
  size : w.heap.size ≤ w'.heap.size
theorem Away.refl (w : World) (r mb : Nat) : Away w w r mb := ⟨fun _ _ _ _ => rfl, rfl, rfl, rfl, Nat.le_refl _⟩
theorem Away.trans {a b c : World} {r mb : Nat} (h : Away a b r mb) (k : Away b c r mb) : Away a c r mb :=
  ⟨fun i hi h1 h2 => (k.block i (Nat.lt_of_lt_of_le hi h.size) h1 h2).trans (h.block i hi h1 h2), k.os.trans h.os, k.tape.trans h.tape, k.output.trans h.output, Nat.le_trans h.size k.size⟩
theorem Away.of {w w' : World} (h : Below w.heap.size w w') (r mb : Nat) : Away w w' r mb := ⟨fun k hk _ _ => h.block k hk, h.os, h.tape, h.output, h.size⟩
theorem Away.cell {w w' : World} {r mb : Nat} (h : Away w w' r mb) {q : Addr} {v : Value} (hq : w.cell? q = some v) (h1 : q.block ≠ r) (h2 : q.block ≠ mb) : w'.cell? q = some v := by
  rw [World.cell?_of_block (w := w) (a := q) (h.block q.block (World.block_lt_of_cell? _ _ hq) h1 h2)]
  exact hq
theorem Away.elems {kd : IntKind} {w w' : World} {r mb : Nat} (h : Away w w' r mb) {a : Option Addr} {n : Nat} {xs : List Int} (hE : Elems kd w a n xs) (hne : ∀ b o, a = some ⟨b, o, none⟩ → b ≠ r ∧ b ≠ mb) : Elems kd w' a n xs :=
  ⟨hE.1, hE.2.1, hE.2.2.1, fun hn => let ⟨b, off, ha, hc⟩ := hE.2.2.2 hn; ⟨b, off, ha, fun i hi => h.cell (hc i hi) (hne b off ha).1 (hne b off ha).2⟩⟩

/-- behind the first k tokens -/
noncomputable def atO (W : Wn8) (st : St8) (xs : List Int) (k : Nat) : St8 := runO W st ((xs.take k).map Int.toNat)
theorem atO_p (W : Wn8) (st : St8) (xs : List Int) (k : Nat) (hk : k ≤ xs.length) : (atO W st xs k).p = st.p + k := by
  unfold atO
  rw [runO_p, List.length_map, List.length_take, Nat.min_eq_left hk]
theorem atO_next (W : Wn8) (st : St8) (xs : List Int) (k : Nat) (hk : k < xs.length) : atO W st xs (k + 1) = goO W (atO W st xs k) (xs.getD k 0).toNat := by
  unfold atO
  rw [List.take_add_one, List.map_append, runO_app, List.getElem?_eq_getElem hk, List.getD_eq_getElem?_getD, List.getElem?_eq_getElem hk]
  rfl
theorem atO_all (W : Wn8) (st : St8) (xs : List Int) (k : Nat) (hk : xs.length ≤ k) : atO W st xs k = runO W st (xs.map Int.toNat) := by
  unfold atO
  rw [List.take_of_length_le hk]
/-- the state behind a call of Feed -/
noncomputable def nextO (s : Sz) (W : Wn8) (st : St8) (xs : List Int) : St8 := if faultO s st.p xs = 0 then runO W st (xs.map Int.toNat) else st
def Fed8 (s : Sz) (W : Wt7) (r m mb : Nat) (st : St8) (N : Nat) (xs : List Int) (w : World) (e : Ending) (w' : World) : Prop :=
  ∃ v N', e = .returned (.tuple #[v, .int .i64 (faultO s st.p xs)]) ∧ N' ≤ N + 16 * xs.length ∧
    (faultO s st.p xs ≠ 0 ∨ xs = [] → v = .slice none 0 0) ∧
    (faultO s st.p xs = 0 → 0 < xs.length → ∃ g c, v = .slice (some ⟨g, 0, none⟩) s.v c ∧ s.v ≤ c ∧ c ≤ 9223372036854775807 ∧ Elems .i32 w' (some ⟨g, 0, none⟩) s.v (outO (W.nums s) (runO (W.nums s) st (xs.map Int.toNat)).x)) ∧
    RunAt w' r m mb s (nextO s (W.nums s) st xs).p 0 N' (nextO s (W.nums s) st xs).K ∧ ModAt w' m s W ∧ Tab w' ∧ STab w' ∧ Away w w' r mb
theorem fed_stays {s : Sz} {W : Wt7} {r m mb : Nat} {st : St8} {N : Nat} {xs : List Int} {w w' : World} (hf : faultO s st.p xs ≠ 0 ∨ xs = []) (hb : Below w.heap.size w w')
    (hr : RunAt w r m mb s st.p 0 N st.K) (hm : ModAt w m s W) (hT : Tab w) (hS : STab w) : Fed8 s W r m mb st N xs w (.returned (.tuple #[.slice none 0 0, .int .i64 (faultO s st.p xs)])) w' := by
  have e : nextO s (W.nums s) st xs = st := by
    unfold nextO
    rcases hf with h | rfl
    · rw [if_neg h]
    · split <;> rfl
  refine ⟨_, N, rfl, by omega, fun _ => rfl, fun h1 h2 => ?_, ?_, hm.bel hb, hT.below hb, hS.below hb, Away.of hb r mb⟩
  · rcases hf with h | rfl
    · exact absurd h1 h
    · exact absurd h2 (by simp)
  · rw [e]; exact hr.bel hb
theorem oddO_lt {s : Sz} {p : Nat} {xs : List Int} (h : faultO s p xs = 0) {k : Nat} (hk : k < xs.length) : ∃ t : Nat, xs.getD k 0 = t ∧ t < s.v := by
  obtain ⟨h1, h2⟩ := (faultO_yes h).1 _ (getD_mem hk)
  exact ⟨(xs.getD k 0).toNat, by omega, by omega⟩
theorem faultO_three (s : Sz) (p : Nat) (xs : List Int) : faultO s p xs = 2 ∨ faultO s p xs = 80 ∨ faultO s p xs = 0 := by
  unfold faultO
  split
  · exact .inl rfl
  · split
    · exact .inr (.inl rfl)
    · exact .inr (.inr rfl)
set_option maxHeartbeats 8000000 in
set_option maxRecDepth 100000 in
theorem feed8 (r m mb n N tcap : Nat) (st : St8) (s : Sz) (ok : s.Ok) (W : Wt7) (w : World) (hr : RunAt w r m mb s st.p 0 N st.K) (hm : ModAt w m s W) (h0 : st.x = []) (h200 : s.p ≤ 200) (hp : st.p ≤ s.p) (a : Option Addr) (xs : List Int) (hx : Elems .i64 w a n xs) (hn : n ≤ 1000)
    (hne : ∀ b o, a = some ⟨b, o, none⟩ → b ≠ r ∧ b ≠ mb) (hN : N + 16 * n + 16 ≤ 10000) (hT : Tab w) (hS : STab w) :
    Calls Tryz.prog 11 #[.pointer (some ⟨r, 0, none⟩), .slice a n tcap] w fun e w' => Fed8 s W r m mb st N xs w e w' := by
  have bd := ok.bd
  have hv512 : s.v ≤ 512 := bd.2.2.2.2.1.2
  have hw128 : s.w ≤ 128 := bd.2.2.1.2
  have hl16 : s.l ≤ 16 := bd.1.2
  have cF := fault8 r m mb st.p n N tcap st.K s ok W w hr hm (by omega) a xs hx hn
  have HFA := Lib.hid (fun w' (h1 : faultO s st.p xs ≠ 0 ∨ xs = []) (h2 : Below w.heap.size w w') => fed_stays (N := N) (mb := mb) (r := r) (m := m) (W := W) (s := s) (st := st) (xs := xs) h1 h2 hr hm hT hS)
  have HNL := Lib.hid hx.1
  obtain ⟨f, hf⟩ : ∃ f, faultO s st.p xs = f := ⟨_, rfl⟩
  have h3 := faultO_three s st.p xs
  rw [hf] at cF h3
  have HFE := Lib.hid hf
  have OK := Lib.hid ok
  have HR := Lib.hid hr
  have HM := Lib.hid hm
  have HX := Lib.hid hx
  have HT := Lib.hid hT
  have HS := Lib.hid hS
  have HNE := Lib.hid hne
  have H0 := Lib.hid h0
  clear hf ok hr hm hx hT hS hne bd h0
  go_enter Tryz.func11, Tryz.ntmps11
  go_wp2_with fail
  refine cF.mono ?_
  rintro e wa ⟨rfl, hba⟩
  clear cF
  have hstay : (f ≠ 0 ∨ n = 0) → Hid (Fed8 s W r m mb st N xs w (.returned (.tuple #[.slice none 0 0, .int .i64 f])) wa) := fun h => Lib.hid (by
    have := HFA.out wa (by rw [HFE.out]; exact h.imp id (fun h => List.eq_nil_of_length_eq_zero (by rw [HNL.out]; exact h))) hba
    rw [HFE.out] at this
    exact this)
  rcases h3 with rfl | rfl | rfl
  · have HH := hstay (.inl (by decide))
    clear hstay hba HFA HFE
    go_wp2
    go_ret2
    exact HH.out
  · have HH := hstay (.inl (by decide))
    clear hstay hba HFA HFE
    go_wp2
    go_ret2
    exact HH.out
  · by_cases hn0 : n = 0
    · have HH := hstay (.inr hn0)
      clear hstay hba HFA HFE
      subst hn0
      go_wp2
      go_ret2
      exact HH.out
    · clear hstay HFA
      have hnpos : 0 < n := by omega
      obtain ⟨Wn, hWn⟩ : ∃ Wn, W.nums s = Wn := ⟨_, rfl⟩
      have HWN := Lib.hid hWn
      have HP : Hid (st.p + n ≤ s.p) := Lib.hid (by have := (faultO_yes HFE.out).2; rw [HNL.out] at this; exact this)
      have HRa : Hid (RunAt wa r m mb s (st.p + 0) 0 (N + 0) (atO Wn st xs 0).K) := Lib.hid (HR.out.bel hba)
      have HMa := Lib.hid (HM.out.bel hba)
      have HTa := Lib.hid (HT.out.below hba)
      have HSa := Lib.hid (HS.out.below hba)
      have HAa := Lib.hid (Away.of hba r mb)
      have HE0 : Hid (Elems .i32 wa none 0 (atO Wn st xs 0).x) := Lib.hid (by
        have : (atO Wn st xs 0).x = [] := H0.out
        rw [this]; exact Elems.nil_ _ _ _)
      clear hba hWn HR HM HT HS
      have hnb : ((n : Int) == 0) = false := by simp; omega
      go_wp2
      go_loopw [7, 24] (fun x i wr => ∃ (k xn c N' : Nat) (xa : Option Addr), k ≤ n ∧ i = .int .i64 k ∧ x = .slice xa xn c ∧ N' ≤ N + 16 * k ∧ Hid (0 < k → xn = s.w) ∧ Hid (Elems .i32 wr xa xn (atO Wn st xs k).x) ∧ Hid (RunAt wr r m mb s (st.p + k) 0 N' (atO Wn st xs k).K) ∧ Hid (ModAt wr m s W) ∧ Hid (Tab wr) ∧ Hid (STab wr) ∧ Hid (Away w wr r mb)) (fun _ i _ => n - (intOf i).toNat)
      case atStart => exact ⟨0, 0, 0, N, none, by omega, rfl, rfl, by omega, Lib.hid fun h => absurd h (by omega), HE0, HRa, HMa, HTa, HSa, HAa⟩
      case round =>
        clear HRa HMa HTa HSa HAa HE0
        obtain ⟨k, xn, c, N', xa, hk, rfl, rfl, hN', hxn, hE, hR, hM, hTr, hSr, hA⟩ := hrel
        by_cases hlt : k < n
        · have hEx := hA.out.elems HX.out HNE.out
          obtain ⟨b, off, t0, ha, hc, ht0, hwf⟩ := hEx.at_ hlt
          obtain ⟨t, htt, htv⟩ := oddO_lt HFE.out (k := k) (by rw [HNL.out]; exact hlt)
          obtain rfl : t0 = (t : Int) := by rw [← ht0.out, htt]
          have hKp := atO_p Wn st xs k (by rw [HNL.out]; omega)
          have cT := through8 r m mb (st.p + k) t N' (atO Wn st xs k).K s OK.out W wr hR.out hM.out htv (by omega) (by have := HP.out; omega) hTr.out hSr.out
          have hnext : Hid (atO Wn st xs (k + 1) = goO Wn (atO Wn st xs k) t) := Lib.hid (by rw [atO_next Wn st xs k (by rw [HNL.out]; exact hlt), htt]; rfl)
          have hx2 : Hid ((atO Wn st xs (k + 1)).x = layO Wn (atO Wn st xs k).K (st.p + k) t s.l) := Lib.hid (by rw [hnext.out, ← hKp, ← HWN.out]; rfl)
          have hk2 : Hid ((atO Wn st xs (k + 1)).K = stepK Wn (atO Wn st xs k).K (st.p + k) t) := Lib.hid (by rw [hnext.out, ← hKp]; rfl)
          rw [HWN.out, ← hx2.out, ← hk2.out] at cT
          subst ha
          clear hEx htt hwf hR hM hTr hSr hE hKp hnext hx2 hk2 ht0
          go_wp2_with fail
          refine cT.mono ?_
          rintro e wb ⟨⟨g, c2, rfl, hE2, q1, q2⟩, hR2, hM2, hT2, hS2, hb1, hb2, hb3, hb4, hb5⟩
          have HE2 := Lib.hid hE2
          have HR2 := Lib.hid hR2
          have HM2 := Lib.hid hM2
          have HT2 := Lib.hid hT2
          have HS2 := Lib.hid hS2
          have HA2 : Hid (Away w wb r mb) := Lib.hid (hA.out.trans ⟨hb1, hb2, hb3, hb4, hb5⟩)
          clear cT hE2 hR2 hM2 hT2 hS2 hb1 hb2 hb3 hb4 hb5 hA q1 q2
          go_wp2
          go_roundw
          case rel => exact ⟨k + 1, s.w, c2, N' + s.l, some ⟨g, 0, none⟩, by omega, by go_num, rfl, by omega, Lib.hid fun _ => rfl, HE2, HR2, HM2, HT2, HS2, HA2⟩
          case measure => simp [intOf]; omega
        · obtain rfl : k = n := by omega
          obtain rfl := hxn.out hnpos
          have y0 : wr.cell? ⟨r, 0, none⟩ = some (.pointer (some ⟨m, 0, none⟩)) := hR.out.box.cell 0
          have HCB : Hid (∀ j, j < W.cells.size → wr.cell? ⟨m, 0 + j, none⟩ = W.cells[j]?) := Lib.hid (fun j hj => by rw [Nat.zero_add, hM.out.box.cell])
          go_upto_region 11 with (first
            | (refine wpList_load_part (o := ⟨some 38, _, _, _, _, _⟩) rfl 50 _ rfl m 0 rfl W.cells _ HCB.out Tryz.underlying50 rfl (by kernel_rfl) ?_)
            | (refine wpList_store_row (o := ⟨none, .store _ _ _, _, _, _, _⟩) rfl 50 _ _ rfl wr.heap.size W.cells rfl rfl 50 _ (box_new _ _ _) (by kernel_rfl) rfl (wt_one W) ?_))
          generalize hwA : World.setRow _ _ _ = wA
          have XB : Box wA wr.heap.size 50 W.cells := by rw [← hwA]; exact (box_new _ _ _).setRow
          have hbA : Below wr.heap.size wr wA := by rw [← hwA]; exact below_setRow ((Below.refl _ _).alloc (Nat.le_refl _) _) (Nat.le_refl _) (by simp)
          clear hwA
          obtain ⟨_, _, _, _, _, _, _, _, _, _, z10, z11, z12, z13⟩ := box_wt XB
          obtain ⟨_, m1, m2, _, _⟩ := wtB_yes hM.out.whole
          obtain ⟨_, i2, i3, _⟩ := (hM.out.inn.bel hbA)
          have w1 : 2 ≤ s.w := OK.out.bd.2.2.1.1
          have i3e := i3.1
          rw [m2] at z10 i3e
          have cN := normed8 W.t.a xa s.w W.t.cap c W.t.v (atO Wn st xs k).x wA.drew (i3e.below ((Below.refl _ _).drew)) ((hE.out.below hbA).below ((Below.refl _ _).drew)) (by omega) (by omega)
          have HM1 := Lib.hid m1
          have I2 := Lib.hid i2
          have HRr := Lib.hid (hR.out.bel hbA)
          have HMr := Lib.hid (hM.out.bel hbA)
          have HTr := Lib.hid (hTr.out.below hbA)
          have HSr := Lib.hid (hSr.out.below hbA)
          have HAr := Lib.hid (hA.out.trans (Away.of hbA r mb))
          have HOUT : Hid (outO (W.nums s) (runO (W.nums s) st (xs.map Int.toNat)).x = mv W.hd.v (normO W.t.v (atO Wn st xs k).x s.w) s.v s.w) := Lib.hid (by
            rw [← atO_all (W.nums s) st xs k (by rw [HNL.out]; exact Nat.le_refl _), ← HWN.out]; rfl)
          have HNX : Hid (nextO s (W.nums s) st xs = atO Wn st xs k) := Lib.hid (by
            unfold nextO
            rw [if_pos HFE.out, ← HWN.out, atO_all (W.nums s) st xs k (by rw [HNL.out]; exact Nat.le_refl _)])
          have hKp : Hid ((atO Wn st xs k).p = st.p + k) := Lib.hid (atO_p Wn st xs k (by rw [HNL.out]; exact Nat.le_refl _))
          clear m1 m2 i2 i3 i3e hbA XB hR hM hTr hSr hA hE y0 HCB hxn
          go_region_held3 (fun w' => w'.cell? ⟨wr.heap.size, 10, none⟩ = some (.slice W.t.a s.w W.t.cap) ∧ w'.cell? ⟨wr.heap.size, 11, none⟩ = some (.int .i64 W.hd.r) ∧ w'.cell? ⟨wr.heap.size, 12, none⟩ = some (.int .i64 W.hd.c) ∧ w'.cell? ⟨wr.heap.size, 13, none⟩ = some (.slice W.hd.a W.hd.n W.hd.cap))
            (first | go_keep | (go_split_ands; refine ⟨?_, ?_, ?_, ?_⟩ <;> assumption))
            (first
              | (go_at_call 37; (with_reducible refine cN.mono ?_); rintro e wb ⟨⟨g, c1, rfl, hE, hc1, hc2⟩, hb1⟩
                 have hb1' : Below wA.heap.size wA wb := ((Below.refl _ wA).drew).trans hb1
                 have k10 := cell_kept6 hb1' z10
                 have k11 := cell_kept6 hb1' z11
                 have k12 := cell_kept6 hb1' z12
                 have k13 := cell_kept6 hb1' z13
                 have cP := product8 W.hd ⟨some ⟨g, 0, none⟩, s.w, c1, _⟩ s.v s.w HM1.out rfl (by omega) (by omega) wb (I2.out.bel hb1') (rw_at hE hc1 hc2))
              | (go_at_call 36; (with_reducible refine cP.mono ?_); rintro e wc ⟨⟨g2, c2, rfl, hE2, hd1, hd2⟩, hb2⟩
                 have j10 := cell_kept6 hb2 k10
                 have j11 := cell_kept6 hb2 k11
                 have j12 := cell_kept6 hb2 k12
                 have j13 := cell_kept6 hb2 k13))
          have hb3 := below_two hb1' hb2
          have HE2 := Lib.hid hE2
          have HB3 := Lib.hid hb3
          clear cN cP hE hE2 hb1 hb1' hb2 hb3 k10 k11 k12 k13 j10 j11 j12 j13 z10 z11 z12 z13 hc1 hc2
          go_wp2
          go_ret2
          refine ⟨.slice (some ⟨g2, 0, none⟩) s.v c2, N', by rw [HFE.out]; rfl, by rw [HNL.out]; exact hN', fun h => ?_, fun _ _ => ⟨g2, c2, rfl, hd1, hd2, by rw [HOUT.out]; exact HE2.out⟩, ?_, HMr.out.bel HB3.out, HTr.out.below HB3.out, HSr.out.below HB3.out, HAr.out.trans (Away.of HB3.out r mb)⟩
          · rcases h with h | h
            · exact absurd HFE.out h
            · have := HNL.out; rw [h] at this; simp at this; omega
          · rw [HNX.out, hKp.out]; exact HRr.out.bel HB3.out

end Go.Proofs.YtoeihigdndkjeaaGreatDoor
