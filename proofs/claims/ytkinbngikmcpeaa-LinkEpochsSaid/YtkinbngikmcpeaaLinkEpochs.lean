/-
  Proved: for any two rows of bodies and any number LinkEpochs returns true (behind a reset nothing of the elder epoch counts; what is sent in the new one comes from its first number on) and nothing that was in memory turns. No condition.
-/
import Derived.Test.YtkinbngikmcpeaaRows
import Derived.WalkKit
import Derived.ProofKit
import Derived.OpenShut
import Derived.ShutString
import Derived.ChangeOld
import Derived.Below
import Derived.Test.YtkinbngikmcpeaaRwRow
import Derived.Test.YtkinbngikmcpeaaEpW16
import Derived.Deep.CutRange
namespace Go.Proofs.Ytkinbngikmcpeaa.linkEpochs
open Go.ChangeShapes Go.WideShapes Go.ChangeAt Go.RowKit
open Go.ChangeMaps (open_string shut_string)
set_option linter.unusedVariables false

theorem own : ownKnob Try.prog.godebug = none := by kernel_rfl
theorem laidOut : laidOutB Try.prog = true := by kernel_rfl

set_option maxHeartbeats 6400000 in
set_option maxRecDepth 100000 in
theorem walk (a0 : Option Addr) (n0 cap0 : Nat) (qs0 : List Rw) (a1 : Option Addr) (n1 cap1 : Nat) (qs1 : List Rw) (a2 : Int) (w : World) (h0 : Rws .u8 w a0 n0 qs0 ∧ n0 ≤ cap0 ∧ cap0 ≤ 9223372036854775807 ∧ Sl a0 cap0) (h1 : Rws .u8 w a1 n1 qs1 ∧ n1 ≤ cap1 ∧ cap1 ≤ 9223372036854775807 ∧ Sl a1 cap1) (h2 : (Lit.int .i64 a2).wf = true) :
    Calls Try.prog 5 #[.slice a0 n0 cap0, .slice a1 n1 cap1, .int .i64 a2] w fun e w' => e = .returned (.bool true) ∧ Below w.heap.size w w' := by
  have HQ0 := Lib.hid h0.1
  have HQ1 := Lib.hid h1.1
  clear h0 h1 h2
  by_cases h30 : 30 < n0
  · have h1 : (30 : Int) < (n0 : Int) := by omega
    clear h30
    go_enter Try.func5, Try.ntmps5
    go_wp2_with fail
    refine (awake16 _).mono ?_
    rintro e w2 ⟨rfl, hb1⟩
    have HB1 := Lib.hid hb1
    clear hb1
    go_wp2_with fail
    refine (awake16 _).mono ?_
    rintro e w3 ⟨rfl, hb2⟩
    have HB := Lib.hid (below_two HB1.out hb2)
    clear hb2
    go_wp2_with fail
    go_ret
    exact ⟨rfl, HB.out⟩
  have h30i : decide ((30 : Int) < (n0 : Int)) = false := decide_eq_false (by omega)
  by_cases h31 : 30 < n1
  · have h1 : (30 : Int) < (n1 : Int) := by omega
    clear h30 h31
    go_enter Try.func5, Try.ntmps5
    go_wp2_with fail
    refine (awake16 _).mono ?_
    rintro e w2 ⟨rfl, hb1⟩
    have HB1 := Lib.hid hb1
    clear hb1
    go_wp2_with fail
    refine (awake16 _).mono ?_
    rintro e w3 ⟨rfl, hb2⟩
    have HB := Lib.hid (below_two HB1.out hb2)
    clear hb2
    go_wp2_with fail
    go_ret
    exact ⟨rfl, HB.out⟩
  have h31i : decide ((30 : Int) < (n1 : Int)) = false := decide_eq_false (by omega)
  obtain ⟨ke, hke, hke9⟩ := bring16 a2 1000 (by omega) (by omega)
  have HKE := Lib.hid hke
  clear hke
  obtain ⟨E, hE⟩ : ∃ E, ke + 1 = E := ⟨_, rfl⟩
  have HE1 : Hid (wrap64 (1 + (ke : Int)) = (E : Int)) := Lib.hid (by unfold wrap64; omega)
  have HEB : Hid ((1 ≤ E ∧ E ≤ 1000) ∧ n0 ≤ 30 ∧ n1 ≤ 30) := Lib.hid (by omega)
  clear hke9 hE h30 h31
  go_enter Try.func5, Try.ntmps5
  go_wp2_with fail
  refine (awake16 _).mono ?_
  rintro e w1 ⟨rfl, hb1⟩
  have HB1 := Lib.hid hb1
  clear hb1
  go_wp2_with fail
  refine (new16_yes 8 2 100 (by omega) w1).mono ?_
  rintro e w2 ⟨fa, rfl, hLa, hfa, hba⟩
  have HA := Lib.hid (And.intro hLa (And.intro hfa hba))
  clear hLa hfa hba
  go_wp2_with fail
  refine (new16_yes 8 2 100 (by omega) w2).mono ?_
  rintro e w3 ⟨fb, rfl, hLb, hfb, hbb⟩
  have hT0 := two_new (w := w1) HA.out.1 HA.out.2.1 HA.out.2.2 hLb hfb hbb
  have HT : Hid (Two w w3 fa.lb fb.lb 8 2 100 (new16 0) (new16 0)) := Lib.hid (by
    obtain ⟨f1, f2, t1, t2, t3, t4, t5, t6, t7, t8⟩ := hT0
    exact ⟨f1, f2, t1, t2, t3, t4, t5, fun b hb => Nat.le_trans HB1.out.size (t6 b hb), fun b hb => Nat.le_trans HB1.out.size (t7 b hb), below_two HB1.out t8⟩)
  have HB3 : Hid (Below w.heap.size w w3) := Lib.hid HT.out.below
  obtain ⟨la, hla⟩ : ∃ la, fa.lb = la := ⟨_, rfl⟩
  obtain ⟨lb, hlb⟩ : ∃ lb, fb.lb = lb := ⟨_, rfl⟩
  rw [hla, hlb] at HT
  rw [hla, hlb]
  clear hLb hfb hbb hT0 hla hlb HA
  have hn0 : n0 ≤ 30 := HEB.out.2.1
  have hn1 : n1 ≤ 30 := HEB.out.2.2
  go_wp2_with fail
  go_loopw [11] (fun i wr => ∃ k : Nat, k ≤ n0 ∧ i = .int .i64 k ∧ Hid (∀ j, j < k → (qs0.getD j default).n ≤ 500) ∧ wr = w3) (fun i _ => n0 - (intOf i).toNat)
  case atStart => exact ⟨0, by omega, rfl, Lib.hid (fun j hj => absurd hj (by omega)), rfl⟩
  case round =>
    obtain ⟨k, hk, rfl, HL0, hww⟩ := hrel
    obtain rfl := hww.symm
    clear hww
    by_cases hlt : k < n0
    · have hlt2 : (k : Int) < (n0 : Int) := by omega
      obtain ⟨pb, po, p, rfl, pblt, pc, HPk, hpi⟩ := (HQ0.out.below HB3.out).at_ hlt
      have hk1 : IntKind.i64.wrap ((k : Int) + 1) = ((k + 1 : Nat) : Int) := by rw [IntWalk.i64_in _ (by omega)]; rfl
      clear hpi pblt
      by_cases h5 : 500 < p.n
      · have h5i : (500 : Int) < (p.n : Int) := by omega
        go_wp2_with fail
        go_ret
        exact ⟨rfl, HB3.out⟩
      · have h5i : decide ((500 : Int) < (p.n : Int)) = false := decide_eq_false (by omega)
        have HN5 : Hid (∀ j, j < k + 1 → (qs0.getD j default).n ≤ 500) := Lib.hid (fun j hj => by
          rcases Nat.lt_succ_iff_lt_or_eq.1 hj with h | rfl
          · exact HL0.out j h
          · rw [HPk.out]; omega)
        clear h5
        go_wp2_with fail
        go_roundw
        case rel => exact ⟨k + 1, by omega, by go_num, HN5, trivial⟩
        case measure => simp [intOf]; omega
    · obtain rfl : k = n0 := by omega
      clear hlt
      go_wp2_with fail
      go_loopw [12] (fun i wr => ∃ k : Nat, k ≤ n1 ∧ i = .int .i64 k ∧ Hid (∀ j, j < k → (qs1.getD j default).n ≤ 500) ∧ wr = w3) (fun i _ => n1 - (intOf i).toNat)
      case atStart => exact ⟨0, by omega, rfl, Lib.hid (fun j hj => absurd hj (by omega)), rfl⟩
      case round =>
        obtain ⟨k, hk, rfl, HL1, hww⟩ := hrel
        obtain rfl := hww.symm
        clear hww
        by_cases hlt : k < n1
        · have hlt2 : (k : Int) < (n1 : Int) := by omega
          obtain ⟨pb, po, p, rfl, pblt, pc, HPk, hpi⟩ := (HQ1.out.below HB3.out).at_ hlt
          have hk1 : IntKind.i64.wrap ((k : Int) + 1) = ((k + 1 : Nat) : Int) := by rw [IntWalk.i64_in _ (by omega)]; rfl
          clear hpi pblt
          by_cases h5 : 500 < p.n
          · have h5i : (500 : Int) < (p.n : Int) := by omega
            go_wp2_with fail
            go_ret
            exact ⟨rfl, HB3.out⟩
          · have h5i : decide ((500 : Int) < (p.n : Int)) = false := decide_eq_false (by omega)
            have HN5 : Hid (∀ j, j < k + 1 → (qs1.getD j default).n ≤ 500) := Lib.hid (fun j hj => by
              rcases Nat.lt_succ_iff_lt_or_eq.1 hj with h | rfl
              · exact HL1.out j h
              · rw [HPk.out]; omega)
            clear h5
            go_wp2_with fail
            go_roundw
            case rel => exact ⟨k + 1, by omega, by go_num, HN5, trivial⟩
            case measure => simp [intOf]; omega
        · obtain rfl : k = n1 := by omega
          clear hlt
          have hke := HKE.out
          have he1 := HE1.out
          go_upto_region 18 with fail
          simp only [he1]
          clear hke he1
          have HS0 : Hid (∀ b ∈ qs0.map Rw.v, b.length ≤ 65536) := Lib.hid (fun b hb => by
            obtain ⟨q, hq, rfl⟩ := List.mem_map.1 hb
            obtain ⟨i, hi, rfl⟩ := List.mem_iff_getElem.1 hq
            have := HL0.out i (by have := HQ0.out.1; omega)
            rw [List.getD_eq_getElem?_getD, List.getElem?_eq_getElem hi] at this
            have h2 := (HQ0.out.2.2.1 _ hq).1.1
            simp only [Option.getD_some] at this
            omega)
          have HS1 : Hid (∀ b ∈ qs1.map Rw.v, b.length ≤ 65536) := Lib.hid (fun b hb => by
            obtain ⟨q, hq, rfl⟩ := List.mem_map.1 hb
            obtain ⟨i, hi, rfl⟩ := List.mem_iff_getElem.1 hq
            have := HL1.out i (by have := HQ1.out.1; omega)
            rw [List.getD_eq_getElem?_getD, List.getElem?_eq_getElem hi] at this
            have h2 := (HQ1.out.2.2.1 _ hq).1.1
            simp only [Option.getD_some] at this
            omega)
          obtain ⟨e0, hA0⟩ := epA_new 0 (qs0.map Rw.v) HS0.out (by rw [List.length_map, HQ0.out.1]; omega)
          have S1 := HT.out.send _ _ cap0 qs0 (HQ0.out.below HB3.out) (by omega) (fun b off e hn => .inl (by
            obtain ⟨b', off', e', hc⟩ := HQ0.out.2.2.2 hn
            rw [e] at e'
            cases e'
            exact World.block_lt_of_cell? _ _ (hc 0 hn)))
          rw [e0] at S1
          have HA0 := Lib.hid hA0
          clear e0 hA0
          go_wp2_with fail
          refine S1.mono ?_
          rintro e w4 ⟨rfl, hT4, hK4⟩
          have HT4 := Lib.hid hT4
          have HB4 : Hid (w.heap.size ≤ w4.heap.size) := Lib.hid hT4.below.size
          have T1 := hT4.tick (by rw [HA0.out.ak, HA0.out.out]; simp [newL]; have := HQ0.out.1; omega)
          clear S1 hT4 hK4
          go_wp2_with fail
          refine T1.mono ?_
          rintro e w5 ⟨tv, xs, rfl, hS5, hx5, hT5, hK5⟩
          have hxe : ∀ x ∈ xs, x.e = 0 := fun x hx => by
            have := tick_ep 8 2 _ (sgOf x) (by rw [← hx5]; exact List.mem_map.2 ⟨x, hx, rfl⟩)
            exact this
          have HX5 := Lib.hid (And.intro hS5 hxe)
          have hep5 : (tickE 8 2 { new16 0 with out := newL (qs0.map Rw.v) }).2.ep = 0 := rfl
          have R1 := hT5.reset (E : Int)
          have er1 : resetE (tickE 8 2 { new16 0 with out := newL (qs0.map Rw.v) }).2 (E : Int) = (0, new16 (E : Int)) := by unfold resetE; rw [hep5, if_neg (by have := HEB.out.1; omega)]
          rw [er1] at R1
          clear T1 hT5 hK5 hS5 hxe hx5 hep5 er1
          go_wp2_with fail
          refine R1.mono ?_
          rintro e w6 ⟨rfl, hT6, hK6⟩
          have R2 := hT6.swap.reset (E : Int)
          have er2 : resetE (new16 0) (E : Int) = (0, new16 (E : Int)) := by unfold resetE; rw [if_neg (by show ¬ ((E : Int) ≤ 0 ∨ _); have := HEB.out.1; omega)]
          rw [er2] at R2
          have HX6 := Lib.hid (And.intro (HX5.out.1.keeps hK6) HX5.out.2)
          clear R1 hT6 hK6 er2 HX5
          go_wp2_with fail
          refine R2.mono ?_
          rintro e w7 ⟨rfl, hT7, hK7⟩
          have R3 := hT7.swap.reset (E : Int)
          have er3 : resetE (new16 (E : Int)) (E : Int) = (160, new16 (E : Int)) := by unfold resetE; rw [if_pos (.inl (Int.le_refl _))]
          rw [er3] at R3
          have HX7 := Lib.hid (And.intro (HX6.out.1.keeps hK7) HX6.out.2)
          clear R2 hT7 hK7 er3 HX6
          go_wp2_with fail
          refine R3.mono ?_
          rintro e w8 ⟨rfl, hT8, hK8⟩
          have L3 : Calls Try.prog 21 #[.pointer (some ⟨la, 0, none⟩)] w8 fun e w' => e = .returned (.int .i64 0) ∧ w' = w8 := hT8.left
          have HT8 : Hid (Two w w8 la lb 8 2 100 (new16 (E : Int)) (new16 (E : Int)) ∧ SegsAt w8 w.heap.size tv xs) := Lib.hid ⟨hT8, (HX7.out.1.keeps hK8).base HB4.out⟩
          have HXE := Lib.hid HX7.out.2
          obtain ⟨ta, tc, rfl, _, _⟩ := HT8.out.2.shape
          obtain ⟨L, hL⟩ : ∃ L, xs.length = L := ⟨_, rfl⟩
          have HLL := Lib.hid hL
          rw [hL] at HT8
          rw [hL]
          clear R3 hT8 hK8 HX7 hL
          go_wp2_with fail
          refine L3.mono ?_
          rintro e w9 ⟨rfl, rfl⟩
          clear L3
          go_wp2_with fail
          go_loopw [15] (fun i wr => ∃ k : Nat, k ≤ L ∧ i = .int .i64 k ∧ Hid (Two w wr la lb 8 2 100 (new16 (E : Int)) (new16 (E : Int)) ∧ SegsAt wr w.heap.size (.slice ta L tc) xs)) (fun i _ => L - (intOf i).toNat)
          case atStart => exact ⟨0, by omega, rfl, HT8⟩
          case round =>
            clear HT8
            obtain ⟨j, hj, rfl, HJ⟩ := hrel
            by_cases hjl : j < L
            · have hjl2 : (j : Int) < (L : Int) := by omega
              obtain ⟨g, c, x, hv, hxx, hxi, hxn, hc⟩ := HJ.out.2.load (j := j) (by have := HLL.out; omega)
              rw [HLL.out] at hv
              simp only [Value.slice.injEq] at hv
              obtain ⟨rfl, -, rfl⟩ := hv
              have hm : x ∈ xs := by rw [← hxx]; exact List.getElem_mem _
              have R1 := old_hear HEB.out.1.1 HJ.out.1 HJ.out.2 x hm (HXE.out x hm)
              have HC := Lib.hid hc
              have hj1 : IntKind.i64.wrap ((j : Int) + 1) = ((j + 1 : Nat) : Int) := by
                have h1 := segs_small HJ.out.2
                rw [IntWalk.i64_in _ (by have := HLL.out; omega)]; rfl
              clear hxx hxi hxn hc hm
              go_wp2_with (refine wpList_load_part rfl 39 _ rfl g (j * 4) rfl #[.int .i64 x.e, .int .i64 x.s, .int .i64 x.k, .slice x.q.a x.q.n x.q.cap] _ HC.out Try.underlying39 rfl (by kernel_rfl) ?_)
              refine R1.mono ?_
              rintro e w10 ⟨ra, rc, rfl, hT10, hS10⟩
              have G1 : Calls Try.prog 22 #[.pointer (some ⟨lb, 0, none⟩)] w10 fun e w' => e = .returned (.int .i64 0) ∧ w' = w10 := hT10.swap.got
              have HJ10 := Lib.hid (And.intro hT10 hS10)
              clear R1 hT10 hS10
              go_wp2_with fail
              refine G1.mono ?_
              rintro e w11 ⟨rfl, rfl⟩
              clear G1
              go_wp2_with fail
              go_roundw
              case rel => exact ⟨j + 1, by omega, by go_num, HJ10⟩
              case measure => simp [intOf]; omega
            · obtain rfl : j = L := by omega
              clear hjl
              have hN1 : (qs1.map Rw.v).length ≤ 30 := by rw [List.length_map, HQ1.out.1]; exact HEB.out.2.2
              obtain ⟨e1, hA1⟩ := epA_new (E : Int) (qs1.map Rw.v) HS1.out (by omega)
              have S2 := HJ.out.1.send _ _ cap1 qs1 (HQ1.out.below HJ.out.1.below) (by have := HEB.out.2.2; omega) (fun b off e hn => .inl (by
                obtain ⟨b', off', e', hc⟩ := HQ1.out.2.2.2 hn
                rw [e] at e'
                cases e'
                exact World.block_lt_of_cell? _ _ (hc 0 hn)))
              rw [e1] at S2
              have HA1 := Lib.hid hA1
              have HN1 := Lib.hid hN1
              clear e1 hA1 hN1
              go_wp2_with fail
              refine S2.mono ?_
              rintro e w10 ⟨rfl, hT10, hK10⟩
              have HI : Hid (EpI w la lb (E : Int) (qs1.map Rw.v) 0 (.slice none 0 0) w10) := Lib.hid (EpI.start hT10 HA1.out)
              clear S2 hT10 hK10
              obtain ⟨bs, hbs⟩ : ∃ bs, qs1.map Rw.v = bs := ⟨_, rfl⟩
              rw [hbs] at HI HN1
              have HBS := Lib.hid hbs
              clear hbs
              obtain ⟨N, hN⟩ : ∃ N, bs.length = N := ⟨_, rfl⟩
              have HNN := Lib.hid hN
              clear hN
              have hN30 : N ≤ 30 := by have := HN1.out; have := HNN.out; omega
              go_wp2_with fail
              go_loopw [19, 18] (fun i v wr => ∃ k g : Nat, k ≤ g ∧ g ≤ N ∧ i = .int .i64 k ∧ Hid (EpI w la lb (E : Int) bs g v wr) ∧ ∃ a c, v = .slice a g c) (fun i _ _ => 100 - (intOf i).toNat)
              case atStart => exact ⟨0, 0, by omega, by omega, rfl, HI, none, 0, rfl⟩
              case round =>
                clear HI HJ
                obtain ⟨i, g, hig, hgN, rfl, HJ, ca, cc, rfl⟩ := hrel
                have i200 : (i : Int) < 200 := by omega
                have L1 := HJ.out.left
                rw [HNN.out] at L1
                by_cases hg : g < N
                · obtain ⟨M, hM⟩ : ∃ M, N - g = M := ⟨_, rfl⟩
                  rw [hM] at L1
                  have hM0 : (0 : Int) < (M : Int) := by omega
                  have T1 := HJ.out.tick HN1.out
                  clear hM
                  go_wp2_with fail
                  refine L1.mono ?_
                  rintro e w11 ⟨rfl, rfl⟩
                  clear L1
                  go_wp2_with fail
                  refine T1.mono ?_
                  rintro e w11 ⟨tv, ys, sa, rfl, hys, hA, hJ0⟩
                  have HY := Lib.hid (And.intro hys hA)
                  have HJ0 := Lib.hid hJ0
                  obtain ⟨ya, yc, rfl, _, _⟩ : ∃ a c, tv = .slice a ys.length c ∧ ys.length ≤ c ∧ c ≤ 9223372036854775807 := by obtain ⟨sb, qs, _, _, _, _, hS⟩ := hJ0; exact hS.shape
                  obtain ⟨K, hK⟩ : ∃ K, ys.length = K := ⟨_, rfl⟩
                  have HK : Hid (ys.length = K ∧ K = min 8 (N - g)) := Lib.hid ⟨hK, by have := segs_len hys; rw [List.length_drop, HNN.out] at this; omega⟩
                  rw [hK] at HJ0
                  rw [hK]
                  clear T1 hys hA hJ0 hK
                  go_wp2_with fail
                  go_loopw [21, 18] (fun j v wr => ∃ j' : Nat, j' ≤ K ∧ j = .int .i64 j' ∧ Hid (EpJ w la lb (E : Int) bs g sa (.slice ya K yc) ys j' v wr) ∧ ∃ a c, v = .slice a (g + j') c) (fun j _ _ => K - (intOf j).toNat)
                  case atStart => exact ⟨0, by omega, rfl, HJ0, _, _, rfl⟩
                  case round =>
                    clear HJ0
                    obtain ⟨j, hj, rfl, HJJ, va, vc, rfl⟩ := hrel
                    by_cases hjl : j < K
                    · have hjl2 : (j : Int) < (K : Int) := by omega
                      have hjy : j < ys.length := by have := HK.out.1; omega
                      obtain ⟨gg, c, x, hv, hxx, hxi, hxn, hc⟩ : ∃ g0 c x, (Value.slice ya K yc) = .slice (some ⟨g0, 0, none⟩) ys.length c ∧ ys[j] = x ∧ x.q.In .u8 wr ∧ x.q.n ≤ 65536 ∧ (∀ i, i < 4 → wr.cell? ⟨g0, j * 4 + i, none⟩ = (#[.int .i64 x.e, .int .i64 x.s, .int .i64 x.k, .slice x.q.a x.q.n x.q.cap] : Array Value)[i]?) := by
                        obtain ⟨sb, qs, _, _, _, _, hS⟩ := HJJ.out; exact hS.load hjy
                      simp only [Value.slice.injEq] at hv
                      obtain ⟨rfl, -, rfl⟩ := hv
                      have R1 := HJJ.out.hear HN1.out HY.out.1 hjy x hxx
                      have HC := Lib.hid hc
                      have hj1 : IntKind.i64.wrap ((j : Int) + 1) = ((j + 1 : Nat) : Int) := by
                        have := HK.out.2
                        rw [IntWalk.i64_in _ (by omega)]; rfl
                      clear hxx hxi hxn hc hjy
                      go_wp2_with (refine wpList_load_part rfl 39 _ rfl gg (j * 4) rfl #[.int .i64 x.e, .int .i64 x.s, .int .i64 x.k, .slice x.q.a x.q.n x.q.cap] _ HC.out Try.underlying39 rfl (by kernel_rfl) ?_)
                      refine R1.mono ?_
                      rintro e w12 ⟨v1, rfl, cap2, g2, w13, hrun, hJ13⟩
                      have HJ13 := Lib.hid hJ13
                      clear R1 hJ13
                      go_wp2_with (first | (at_builtin; refine wpList_append_run (by rfl) _ _ _ (by rfl) _ _ (by rfl) (by rfl) hrun ?_))
                      go_roundw
                      case rel => exact ⟨j + 1, by omega, by go_num, HJ13, _, _, rfl⟩
                      case measure => simp [intOf]; omega
                    · obtain rfl : j = K := by omega
                      clear hjl
                      have HJK := HJJ.out
                      have hgb : g < bs.length := by rw [HNN.out]; exact hg
                      rw [← HK.out.1] at HJK
                      have T2 := EpJ.tickB (by rw [HK.out.1] at HJK ⊢; exact HJK) HN1.out HY.out.2 hgb HY.out.1
                      rw [HK.out.1] at T2
                      clear HJK hgb
                      go_wp2_with fail
                      refine T2.mono ?_
                      rintro e w12 ⟨g1, c1, x, rfl, hc1, hc, hbw, hH⟩
                      have hc4 : ∀ i, i < 4 → w12.cell? ⟨g1, 0 + i, none⟩ = (#[.int .i64 x.e, .int .i64 x.s, .int .i64 x.k, .slice x.q.a x.q.n x.q.cap] : Array Value)[i]? := fun i hi => by rw [Nat.zero_add]; exact hc i hi
                      have HC := Lib.hid hc4
                      have HH := Lib.hid hH
                      clear hc4
                      clear T2 hc hH
                      go_wp2_with fail
                      go_loopw [24] (fun z wr => (z = .int .i64 0 ∧ wr = w12) ∨ (z = .int .i64 1 ∧ Hid (EpI w la lb (E : Int) bs (g + j) (.slice va (g + j) vc) wr))) (fun z _ => 1 - (intOf z).toNat)
                      case atStart => exact .inl ⟨rfl, rfl⟩
                      case round =>
                        rcases hrel with ⟨rfl, rfl⟩ | ⟨rfl, HJ2⟩
                        · have H2 := HH.out
                          go_wp2_with (refine wpList_load_part rfl 39 _ rfl g1 (0) rfl #[.int .i64 x.e, .int .i64 x.s, .int .i64 x.k, .slice x.q.a x.q.n x.q.cap] _ HC.out Try.underlying39 rfl (by kernel_rfl) ?_)
                          refine H2.mono ?_
                          rintro e w13 ⟨a2, n2, c2, rfl, hJ3⟩
                          have HJ3 := Lib.hid hJ3
                          clear H2 hJ3
                          go_wp2_with fail
                          go_roundw
                          case rel => exact .inr ⟨rfl, HJ3⟩
                          case measure => simp [intOf]
                        · have HIK := HK.out.2
                          have hi1 : IntKind.i64.wrap ((i : Int) + 1) = ((i + 1 : Nat) : Int) := by rw [IntWalk.i64_in _ (by omega)]; rfl
                          go_wp2_with fail
                          go_roundw
                          case rel => exact ⟨i + 1, g + j, by omega, by omega, by go_num, HJ2, _, _, rfl⟩
                          case measure => simp [intOf]; omega
                · obtain rfl : g = N := by omega
                  rw [Nat.sub_self] at L1
                  clear hg
                  go_wp2_with fail
                  refine L1.mono ?_
                  rintro e w11 ⟨rfl, rfl⟩
                  clear L1
                  have HR : Hid (∃ ps, Rws .u8 w11 ca g ps ∧ ps.map Rw.v = qs1.map Rw.v) := Lib.hid (by
                    obtain ⟨sa, sb, qs, _, _, _, hL, hq, _⟩ := HJ.out
                    obtain ⟨a5, c5, hv, hR⟩ := hL.rws (by omega)
                    cases hv
                    exact ⟨qs, hR, by rw [hq, HBS.out, List.take_of_length_le (by rw [HNN.out]; exact Nat.le_refl _)]⟩)
                  obtain ⟨ps, hps, hpe⟩ := HR.out
                  have hbw : Below w.heap.size w w11 := by obtain ⟨sa, sb, qs, hT, _⟩ := HJ.out; exact hT.below
                  have B1 := bodies16 w11 ca a1 g _ cc cap1 ps qs1 hps (HQ1.out.below hbw)
                  rw [decide_eq_true hpe] at B1
                  have HBW := Lib.hid hbw
                  clear HR hps hpe hbw
                  go_wp2_with fail
                  refine B1.mono ?_
                  rintro e w12 ⟨rfl, hb12⟩
                  have HJ12 := HJ.out.bel hb12
                  have HB12 := Lib.hid (below_two HBW.out hb12)
                  have G1 := HJ12.got
                  have E1 := HJ12.epoch
                  have hgn : Hid (qs1.length = g) := Lib.hid (by have := HNN.out; rw [← HBS.out, List.length_map] at this; exact this)
                  clear B1 hb12 HJ12
                  obtain rfl := hgn.out.symm.trans HQ1.out.1
                  go_wp2_with fail
                  refine G1.mono ?_
                  rintro e w13 ⟨rfl, rfl⟩
                  clear G1
                  go_wp2_with fail
                  refine E1.mono ?_
                  rintro e w14 ⟨rfl, rfl⟩
                  clear E1
                  go_wp2_with fail
                  go_ret
                  exact ⟨ret_bool (by simp), HB12.out⟩

set_option maxRecDepth 100000 in
theorem lifted (os : Os) (started : os.Started) (H : Type) (enc : TypeId × Value → H) :
    ReturnsInHanded {} Try.checked os 5 .any (Rows.linkEpochsSpec.pre6 enc Try.prog Try.f5 Rows.linkEpochsRow.domain false) (Rows.linkEpochsSpec.post enc Try.prog Try.f5 false true false false) := by
  refine returnsInHanded_of_change (C := Try.checked) own started (by kernel_rfl) Try.func5
    (ChangeSpec.witness6 (enc := enc) (C := Try.checked) false ⟨#[], #[.slice none 0 0, .slice none 0 0, .int .i64 0], []⟩ 8 (by kernel_rfl) (by kernel_rfl) (by kernel_rfl) (by kernel_rfl)) ?_
  intro W base args ds gs before hval0 hW hcnd _
  have hval : ∀ (j : Nat) t v, Try.f5.params[j]? = some t → args[j]? = some v → Value.okWide Try.prog W .any base t v := hval0
  have hW' := hW
  obtain ⟨p, q, hA0, hV, rfl, hfz, hnd⟩ := hW
  have hA : DataW.TrodAll enc Try.prog W 0 (fun _ => true) true Try.f5.params.toList args.toList ds p := hA0
  rw [Try.params5] at hA hval
  obtain ⟨v0, vs0, d0, ds0, p0, q0, hargs, rfl, rfl, h0, r0⟩ := trodAll_cons hA
  obtain ⟨v1, vs1, d1, ds1, p1, q1, rfl, rfl, rfl, h1, r1⟩ := trodAll_cons r0
  obtain ⟨v2, vs2, d2, ds2, p2, q2, rfl, rfl, rfl, h2, r2⟩ := trodAll_cons r1
  obtain ⟨rfl, rfl, rfl⟩ := trodAll_nil r2
  obtain rfl : args = #[v0, v1, v2] := by cases args; simp_all
  obtain ⟨rfl, rfl⟩ := trodVars_none hV
  have k0 := h0
  have lt0 : ∀ x ∈ p0, x.block < W.heap.size := by obtain ⟨m, hm⟩ := k0; exact DataW.trod_lt m _ _ _ hm
  obtain ⟨a0, n0, cap0, qs0, rfl, w0⟩ := open_rws Try.underlying36 (by kernel_rfl) Try.underlying37 Try.underlying5 (by kernel_rfl) (hval 0 36 v0 rfl rfl) h0
  have k1 := h1
  have lt1 : ∀ x ∈ p1, x.block < W.heap.size := by obtain ⟨m, hm⟩ := k1; exact DataW.trod_lt m _ _ _ hm
  obtain ⟨a1, n1, cap1, qs1, rfl, w1⟩ := open_rws Try.underlying36 (by kernel_rfl) Try.underlying37 Try.underlying5 (by kernel_rfl) (hval 1 36 v1 rfl rfl) h1
  obtain ⟨a2, rfl, rfl, rfl, w2⟩ := open_int Try.underlying3 (hval 2 3 v2 rfl rfl) h2
  clear hA0 hval0
  refine (walk a0 n0 cap0 qs0 a1 n1 cap1 qs1 a2 W w0 w1 w2).mono fun e W' ⟨he, bel⟩ => ?_
  subst he
  exact ⟨_, rfl, _, _, _, [], _, [], hW', trodAll_mk1 (shut_bool Try.underlying4 _), (trodAll_cons_mk (Below.trod laidOut (by kernel_rfl) (of_decide_eq_true (by kernel_rfl)) k0 bel lt0) (trodAll_cons_mk (Below.trod laidOut (by kernel_rfl) (of_decide_eq_true (by kernel_rfl)) k1 bel lt1) (trodAll_cons_mk (shut_int Try.underlying3 w2) trodAll_mk0))), rfl, bel.frame _, fun h => by cases h⟩

theorem over : Rows.linkEpochsRow.holds Try.pinned (OpenSpec.ofChange Rows.linkEpochsSpec) :=
  OpenClaim.holds_of_wide 5 Try.f5 rfl rfl rfl rfl rfl rfl rfl ⟨rfl, rfl, rfl, rfl, rfl⟩ rfl rfl rfl rfl rfl (by kernel_rfl) Try.func5 (by kernel_rfl)
    (of_decide_eq_true (by kernel_rfl)) (by unfold Func.isWrapper; first | (rw [if_pos (by decide +kernel)]; kernel_rfl) | (rw [if_neg (by decide +kernel)]; exact ⟨rfl, rfl⟩))
    (fun os started H enc _ => lifted os started H enc)

/-- ████ THE STATEMENT ████ -/
theorem proved : Rows.LinkEpochsSaid := over
#print axioms proved
end Go.Proofs.Ytkinbngikmcpeaa.linkEpochs
