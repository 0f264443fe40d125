/-
  Proved: for any bodies and any tail FrameSplits returns true (any bytes are split in frames as the document says; frames that are joined are split again, whatever stands behind them) and nothing that was in memory turns. No condition.
-/
import Derived.Test.YtpcnikbggpodgaaRows
import Derived.WalkKit
import Derived.ProofKit
import Derived.OpenShut
import Derived.ShutString
import Derived.ChangeOld
import Derived.Below
import Derived.Test.YtpcnikbggpodgaaRwRow
import Derived.Test.YtpcnikbggpodgaaSplits14
import Derived.Deep.CutRange
namespace Go.Proofs.Ytpcnikbggpodgaa.frameSplits
open Go.ChangeShapes Go.WideShapes Go.ChangeAt Go.RowKit
open Go.ChangeMaps (open_string shut_string)
set_option linter.unusedVariables false

theorem own : ownKnob Try.prog.godebug = none := by kernel_rfl
theorem laidOut : laidOutB Try.prog = true := by kernel_rfl

set_option maxHeartbeats 6400000 in
set_option maxRecDepth 100000 in
theorem walk (a0 : Option Addr) (n0 cap0 : Nat) (qs0 : List Rw) (q1 : Rw) (w : World) (h0 : Rws .u8 w a0 n0 qs0 ∧ n0 ≤ cap0 ∧ cap0 ≤ 9223372036854775807 ∧ Sl a0 cap0) (h1 : q1.In .u8 w) :
    Calls Try.prog 5 #[.slice a0 n0 cap0, .slice q1.a q1.n q1.cap] w fun e w' => e = .returned (.bool true) ∧ Below w.heap.size w w' := by
  obtain ⟨hR, hcap, hcap2, hSl⟩ := h0
  obtain ⟨a1, n1, cap1, tl⟩ := q1
  have HR := Lib.hid hR
  have HT := Lib.hid h1
  have hl0 := Lib.hid hR.1
  simp only
  clear hR h1 hSl
  by_cases hbig : 20 < n0 ∨ 1000 < n1
  · by_cases hA : 20 < n0
    · have h1 : (20 : Int) < (n0 : Int) := by omega
      clear hbig
      go_enter Try.func5, Try.ntmps5
      go_wp2_with fail
      refine (awake14 _).mono ?_
      rintro e w2 ⟨rfl, hb1⟩
      go_wp2_with fail
      refine (awake14 _).mono ?_
      rintro e w3 ⟨rfl, hb2⟩
      have HB := Lib.hid (below_two hb1 hb2)
      clear hb1 hb2
      go_wp2_with fail
      go_ret
      exact ⟨rfl, HB.out⟩
    · have h1 : ¬ (20 : Int) < (n0 : Int) := by omega
      have h2 : (1000 : Int) < (n1 : Int) := by omega
      clear hbig
      go_enter Try.func5, Try.ntmps5
      go_wp2_with fail
      refine (awake14 _).mono ?_
      rintro e w2 ⟨rfl, hb1⟩
      go_wp2_with fail
      refine (awake14 _).mono ?_
      rintro e w3 ⟨rfl, hb2⟩
      have HB := Lib.hid (below_two hb1 hb2)
      clear hb1 hb2
      go_wp2_with fail
      go_ret
      exact ⟨rfl, HB.out⟩
  · have h1 : ¬ (20 : Int) < (n0 : Int) := by omega
    have h2 : ¬ (1000 : Int) < (n1 : Int) := by omega
    have g1 : n0 ≤ 20 := by omega
    have g2 : n1 ≤ 1000 := by omega
    clear hbig
    go_enter Try.func5, Try.ntmps5
    go_wp2_with fail
    refine (awake14 _).mono ?_
    rintro e w2 ⟨rfl, hb1⟩
    have HB1 := Lib.hid hb1
    clear hb1
    go_wp2_with fail
    go_loopw [5, 6] (fun v i wr => ∃ (k : Nat) (qs : List Rw), k ≤ n0 ∧ i = .int .i64 k ∧ Hid (ListR .u8 22 wr w2.heap.size v k qs) ∧ Hid (qs.map (fun q => q.v) = frames14 qs0 k) ∧ Hid (∀ i, i < k → (qs0.getD i default).v.length ≤ 500 ∧ ∀ x ∈ (qs0.getD i default).v, (Lit.int .u8 x).wf = true) ∧ Hid (∀ q ∈ qs, 0 < q.n) ∧ Hid (Below w2.heap.size w2 wr)) (fun _ i _ => n0 - (intOf i).toNat)
    case atStart => exact ⟨0, [], by omega, rfl, Lib.hid (listR_nil _ _ _ _), Lib.hid rfl, Lib.hid (fun i hi => absurd hi (by omega)), Lib.hid (by simp), Lib.hid (Below.refl _ _)⟩
    case round =>
      obtain ⟨k, qs, hk, rfl, HI, HV, HK, HP, HB⟩ := hrel
      have HBW := Lib.hid (below_two HB1.out HB.out)
      by_cases hlt : k < n0
      · have hQ := HR.out.below HBW.out
        obtain ⟨b, off, q, rfl, hblt, hc, hq, hin⟩ := hQ.at_ hlt
        obtain ⟨qa, qn, qcap, ys⟩ := q
        have k1 : (k : Int) < (n0 : Int) := by omega
        by_cases h500 : 500 < qn
        · have t1 : (500 : Int) < (qn : Int) := by omega
          clear hQ hin hq
          go_wp2_with fail
          go_ret
          exact ⟨rfl, HBW.out⟩
        · have t1 : ¬ (500 : Int) < (qn : Int) := by omega
          have t2 : IntKind.u8.wrap (k : Int) = (k : Int) := IntWalk.u8_in _ (by omega)
          have P := dpack14 (k : Int) (b14_wf _ (by omega) (by omega)) ⟨qa, qn, qcap, ys⟩ wr hin (by show qn ≤ _; omega)
          have HW : Hid (∀ x ∈ ys, (Lit.int .u8 x).wf = true) := Lib.hid hin.1.2.2.1
          have HL : Hid (ys.length = qn) := Lib.hid hin.1.1
          have HQ := Lib.hid hq.out
          simp only at P
          clear hQ hin hq
          go_wp2_with fail
          refine P.mono ?_
          rintro e w4 ⟨⟨v4, rfl, ho4⟩, hb4⟩
          obtain ⟨fb, fcap, rfl, hF, _, _⟩ := frm_row (b14_wf _ (by omega) (by omega)) HW.out (by rw [HL.out]; omega) HL.out.symm ho4
          have hB4 := HB.out.trans (hb4.mono HB.out.size)
          obtain ⟨g, gc, w5, hr5, hR5, hbel5, _, _⟩ := (HI.out.bel hb4).next Try.underlying33 info_su8 ⟨some ⟨fb, 0, none⟩, qn + 12, fcap, frm (k : Int) ys⟩ hF (by omega) hB4.size
          have HR5 := Lib.hid hR5
          have HB5 := Lib.hid (hbel5 w2 hB4)
          simp only at hr5
          clear P ho4 hb4 hF hB4 hR5 hbel5
          go_wp2_with (at_builtin; refine wpList_append_at (by rfl) _ _ _ (by rfl) _ _ (by rfl) (by rfl) hr5 ?_)
          go_roundw
          case rel =>
            refine ⟨k + 1, _, by omega, by go_num, HR5, Lib.hid ?_, Lib.hid ?_, Lib.hid ?_, HB5⟩
            · rw [List.map_append, HV.out, frames14_succ, HQ.out]; rfl
            · intro i hi
              by_cases e : i < k
              · exact HK.out i e
              · obtain rfl : i = k := by omega
                rw [HQ.out]
                exact ⟨by show ys.length ≤ 500; rw [HL.out]; omega, HW.out⟩
            · intro r hr
              rcases List.mem_append.1 hr with h3 | h3
              · exact HP.out r h3
              · simp only [List.mem_singleton] at h3; subst h3; show 0 < qn + 12; omega
          case measure => simp [intOf]; omega
      · obtain rfl : k = n0 := by omega
        have k1 : ¬ (k : Int) < (k : Int) := by omega
        have hfl := frames14_flat (fun i hi => (HK.out i hi).1)
        have hJ := join14 HI.out HP.out (by omega) (by
          have e := lens_flat (qs.map fun q => q.v)
          rw [List.map_map] at e
          rw [show (qs.map fun q => Lib.bytesOf q.v) = qs.map (Lib.bytesOf ∘ fun q => q.v) from rfl, e, HV.out]
          omega)
        rw [HV.out] at hJ
        have HFW := Lib.hid (frames14_wf (by omega) HK.out)
        have HFI := Lib.hid (frames14_is (fun i hi => (HK.out i hi).1))
        obtain ⟨va, vc, rfl, _, _, _⟩ := HI.out.shape
        have HFLn := Lib.hid (frames14_len qs0 k)
        have HFL := Lib.hid hfl
        generalize frames14 qs0 k = F at hJ HFW HFI HFLn HFL
        clear hfl HI HV HK HP
        go_wp2_with fail
        refine hJ.mono ?_
        rintro e w4 ⟨v4, rfl, hfr, hb4⟩
        have hB4 := below_two HBW.out hb4
        obtain ⟨g, w5, hr5, hg5, hgv, hgn, ⟨gb, hgb⟩, hbel5⟩ := fresh_append HFW.out hfr ⟨a1, n1, cap1, tl⟩ (HT.out.below hB4) (by have := HFL.out; omega) (by show n1 ≤ _; omega) hb4.size
        have HB5 := Lib.hid (below_two HBW.out (hbel5 wr hb4))
        obtain ⟨ga, N, gcap, gv⟩ := g
        simp only at hr5 hg5 hgv hgn hgb
        subst hgb
        have hN : N ≤ 11240 := by have := HFL.out; omega
        have HG := Lib.hid hg5
        have HGV := Lib.hid hgv
        have P6 := dsplit14 _ w5 hg5 (by show N ≤ _; omega)
        simp only at P6
        clear hJ hfr hb4 hB4 hg5 hgv hgn hbel5
        go_wp2_with (at_builtin; refine wpList_append_at (by rfl) _ _ _ (by rfl) _ _ (by rfl) (by rfl) hr5 ?_)
        refine P6.mono ?_
        rintro e w6 ⟨fs, r, v6, rfl, hsp, ho6, hfn, hb6⟩
        have HSP := Lib.hid hsp
        have HB6 := Lib.hid (below_two HB5.out hb6)
        have HG6 := Lib.hid (HG.out.below hb6)
        obtain ⟨ea, ecap, rfl, hE6, _, _, _⟩ := own_reads ho6 (by
          intro x hx
          obtain ⟨i, hi, rfl⟩ := List.mem_map.1 hx
          have := flat_le fs (i + 1)
          have h3 := hsp.all
          have h4 : gv.length = N := HG.out.1.1
          have : fs.flatten.length ≤ N := by rw [← h4, h3, List.length_append]; omega
          exact WalkArith.wf_i64 (by omega)) (by omega)
        have HE6 := Lib.hid hE6
        have HFN := Lib.hid hfn
        have P7 := split14 _ w6 HG6.out (by show N ≤ _; omega)
        simp only at P7
        clear P6 hr5 hsp ho6 hfn hb6 hE6
        go_wp2_with fail
        refine P7.mono ?_
        rintro e w7 ⟨fs', r', v7, qs7, g7, rfl, hsp7, hR7, hv7, hg7, hgr, hb7⟩
        obtain ⟨rfl, rfl⟩ := HSP.out.one hsp7
        have HB7 := Lib.hid (below_two HB6.out hb7)
        have HG7 := Lib.hid (HG6.out.below hb7)
        have HE7 := Lib.hid (HE6.out.below hb7)
        have HR7 := Lib.hid hR7
        have HV7 := Lib.hid hv7
        have HGR := Lib.hid (And.intro hg7 hgr)
        obtain ⟨sa, sc, rfl, hsc1, hsc2, _⟩ := hR7.shape
        have hFf : k ≤ fs.length := by
          have := splitR_frms (tail := tl) (r := r) (gs := fs) HFI.out (by rw [← HGV.out]; exact HSP.out)
          rw [HFLn.out] at this
          exact this
        have HM : Hid (fs.length ≤ 1000000) := Lib.hid (by have := HFN.out; omega)
        obtain ⟨m, hm⟩ : ∃ m, fs.length = m := ⟨_, rfl⟩
        have HMM := Lib.hid hm
        rw [hm] at hFf HM ⊢
        have u1 : ¬ (m : Int) < (k : Int) := by omega
        clear P7 hsp7 hR7 hv7 hg7 hgr hb7 hm
        go_upto_region 15 with fail
        clear u1
        go_wp2_with fail
        go_loopw [11, 12] (fun at_ i wr => ∃ (k2 A d : Nat), k2 ≤ m ∧ i = .int .i64 k2 ∧ at_ = .int .i64 A ∧ Hid (A = (fs.take k2).flatten.length) ∧ wr = w7.drewN d) (fun _ i _ => m - (intOf i).toNat)
        case atStart => exact ⟨0, 0, 0, by omega, rfl, rfl, Lib.hid rfl, rfl⟩
        case round =>
          obtain ⟨k2, A, d, hk2, rfl, rfl, HA, rfl⟩ := hrel
          by_cases hlt : k2 < m
          · have hlt2 : k2 < fs.length := by rw [HMM.out]; exact hlt
            obtain ⟨g9, c9, q9, hv9, hc91, hc92, hq9, hcell9, hin9⟩ := HR7.out.at_ hlt2
            obtain ⟨be, oe, ev, rfl, hce, hev, _⟩ := HE7.out.at_ hlt2
            cases hv9
            rw [ends_at fs hlt2] at hev
            obtain ⟨E, hE⟩ : ∃ E, (fs.take (k2 + 1)).flatten.length = E := ⟨_, rfl⟩
            have hev2 := hev.out
            rw [hE] at hev2
            subst hev2
            have hst := flat_step fs hlt2
            rw [hE, ← HA.out] at hst
            have hpos := HSP.out.pos (fs.getD k2 []) (by rw [List.getD_eq_getElem?_getD, List.getElem?_eq_getElem hlt2]; exact List.getElem_mem _)
            have hEN : E ≤ N := by
              have h1 := flat_le fs (k2 + 1)
              have h2 := congrArg List.length HSP.out.all
              rw [List.length_append] at h2
              have h3 : gv.length = N := HG7.out.1.1
              omega
            have hcut := flat_cut fs r hlt2
            rw [← HSP.out.all, hE, ← HA.out] at hcut
            have hgc : N ≤ gcap := HG7.out.2.1
            have hgc2 : gcap ≤ 9223372036854775807 := HG7.out.2.2.1
            have hEL : Elems .u8 w7 (some ⟨gb, 0, none⟩) N gv := HG7.out.1
            have hcl := (hEL.take E hEN).drop A (by omega)
            rw [hcut, Nat.zero_add] at hcl
            have hqv : q9.v = fs.getD k2 [] := by
              rw [← hq9, ← HV7.out]
              have hlq : k2 < qs7.length := by rw [HR7.out.len]; exact hlt2
              simp [List.getD, hlq]
            obtain ⟨qa, qn, qcap, qv⟩ := q9
            simp only at hqv hin9 hcell9
            obtain ⟨s1, hs1⟩ : ∃ s, strOfNums (fs.getD k2 []) = s := ⟨_, rfl⟩
            obtain ⟨D, hD⟩ : ∃ D, E - A = D := ⟨_, rfl⟩
            rw [hD] at hcl
            have hinE : Elems .u8 w7 qa qn (fs.getD k2 []) := by rw [← hqv]; exact hin9.1
            have q0 : Sem.run Try.prog (convert 22 9 (.slice qa qn qcap)) (w7.drewN d) = .ok (.string s1) (w7.drewN d) := by rw [← hs1]; exact conv_u8 (hinE.drewN d)
            have q1 : Sem.run Try.prog (convert 22 9 (.slice qa qn qcap)) (w7.drewN d).drew = .ok (.string s1) (w7.drewN d).drew := by rw [← hs1]; exact conv_u8 (hinE.drewN d)
            have q2 : Sem.run Try.prog (convert 22 9 (.slice (some ⟨gb, A, none⟩) D (gcap - A))) (w7.drewN d) = .ok (.string s1) (w7.drewN d) := by rw [← hs1]; exact conv_u8 (hcl.drewN d)
            have q3 : Sem.run Try.prog (convert 22 9 (.slice (some ⟨gb, A, none⟩) D (gcap - A))) (w7.drewN d).drew = .ok (.string s1) (w7.drewN d).drew := by rw [← hs1]; exact conv_u8 (hcl.drewN d)
            have hce1 : (w7.drewN d).cell? ⟨be, oe + k2, none⟩ = some (.int .i64 (E : Int)) := hce
            have hcell1 : (w7.drewN d).cell? ⟨g9, k2, none⟩ = some (.slice qa qn qcap) := hcell9
            have hce2 : (w7.drewN d).drew.cell? ⟨be, oe + k2, none⟩ = some (.int .i64 (E : Int)) := hce
            have hce3 : (w7.drewN (d + 1)).cell? ⟨be, oe + k2, none⟩ = some (.int .i64 (E : Int)) := hce
            have hcell2 : (w7.drewN d).drew.cell? ⟨g9, k2, none⟩ = some (.slice qa qn qcap) := hcell9
            have v1 : (k2 : Int) < (m : Int) := by omega
            have v2 : E ≤ gcap := by omega
            have v3 : (E : Int) ≤ (gcap : Int) := by omega
            have v4 : A ≤ E := by omega
            have v5 : (A : Int) ≤ (E : Int) := by omega
            have v6 : (0 : Int) ≤ (A : Int) := by omega
            have v7 : ¬ gcap = A := by omega
            have v8 : ¬ A = gcap := by omega
            have v9 : (0 : Int) ≤ (E : Int) := by omega
            have v10 : (E : Int) - (A : Int) = (D : Int) := by omega
            have v11 : A ≤ gcap := by omega
            have HAE : Hid (E = (fs.take (k2 + 1)).flatten.length) := Lib.hid hE.symm
            have hmm := HMM.out
            rw [hmm] at hc91
            clear hev hst hpos hEN hcut hgc hEL hcl hqv hin9 hq9 hs1 hinE hE hce hcell9 HA hlt2 hmm
            go_upto_region 19 with fail
            go_region_held3 (fun V => V.cell? ⟨g9, k2, none⟩ = some (.slice qa qn qcap) ∧ V.cell? ⟨be, oe + k2, none⟩ = some (.int .i64 (E : Int)) ∧ Sem.run Try.prog (convert 22 9 (.slice qa qn qcap)) V = .ok (.string s1) V ∧ Sem.run Try.prog (convert 22 9 (.slice (some ⟨gb, A, none⟩) D (gcap - A))) V = .ok (.string s1) V)
              (first | exact ⟨hcell2, hce2, q1, q3⟩ | go_keep | (refine ⟨?_, ?_, ?_, ?_⟩ <;> assumption))
              (fail)
            all_goals
              go_wp2_with fail
              go_roundw
              case rel => exact ⟨k2 + 1, E, _, by omega, by go_num, rfl, HAE, rfl⟩
              case measure => simp [intOf]; omega
          · obtain rfl : k2 = m := by omega
            have hA : A = fs.flatten.length := by rw [HA.out, List.take_of_length_le (by rw [HMM.out]; omega)]
            have hall := HSP.out.all
            have hgl : gv.length = N := HG7.out.1.1
            have hAN : A ≤ N := by have := congrArg List.length hall; rw [List.length_append] at this; omega
            have hdr : gv.drop A = r := by rw [hall, hA, List.drop_left]
            have hgc : N ≤ gcap := HG7.out.2.1
            have hgc2 : gcap ≤ 9223372036854775807 := HG7.out.2.2.1
            have hEL : Elems .u8 w7 (some ⟨gb, 0, none⟩) N gv := HG7.out.1
            have hcl := hEL.drop A hAN
            rw [hdr, Nat.zero_add] at hcl
            obtain ⟨D, hD⟩ : ∃ D, N - A = D := ⟨_, rfl⟩
            rw [hD] at hcl
            have HCL := Lib.hid hcl
            have HB8 : Hid (Below w.heap.size w (w7.drewN d)) := Lib.hid (below_drewN HB7.out d)
            have P8 := split14 ⟨a1, n1, cap1, tl⟩ (w7.drewN d) (HT.out.below HB8.out) (by show n1 ≤ _; omega)
            simp only at P8
            have HEMP : Hid (gcap = A → D = 0 ∧ r = []) := Lib.hid (fun e => by
              have h0 : D = 0 := by omega
              have h1 : r.length = D := HCL.out.1
              exact ⟨h0, List.length_eq_zero_iff.1 (by omega)⟩)
            have z1 : (N : Int) - (A : Int) = (D : Int) := by omega
            have z2 : (0 : Int) ≤ (A : Int) := by omega
            have z3 : (A : Int) ≤ (N : Int) := by omega
            have z4 : A ≤ gcap := by omega
            have z5 : (A : Int) ≤ (gcap : Int) := by omega
            have z6 : A ≤ N := hAN
            have z7 : N - A = D := hD
            clear hA hall hgl hAN hdr hgc hEL hcl hD HA
            go_wp2_with fail
            refine P8.mono ?_
            rintro e w8 ⟨fs2, r2, v8, qs8, g8, rfl, hsp8, hR8, hv8, hg8, hgr8, hb8⟩
            have HB9 := Lib.hid (below_two HB8.out hb8)
            obtain ⟨sa8, sc8, rfl, _, _, _⟩ := hR8.shape
            obtain ⟨g7a, g7n, g7c, g7v⟩ := g7
            obtain ⟨g8a, g8n, g8c, g8v⟩ := g8
            have hgr7 := HGR.out
            simp only at hgr7 hgr8 hg8
            obtain ⟨hg7, rfl⟩ := hgr7
            subst hgr8
            have hg9 : Elems .u8 w8 g7a g7n g7v := (hg7.below (w' := w7.drewN d) (below_drewN (Below.refl _ _) d)).1.below hb8
            have ht9 : Elems .u8 w8 a1 n1 tl := (HT.out.below HB9.out).1
            have hc9 : Elems .u8 w8 (some ⟨gb, A, none⟩) D g7v := (HCL.out.below (w' := w7.drewN d) (below_drewN (Below.refl _ _) d)).below hb8
            obtain ⟨s1, hs1⟩ : ∃ s, strOfNums g7v = s := ⟨_, rfl⟩
            have q0 : Sem.run Try.prog (convert 22 9 (.slice g7a g7n g7c)) w8 = .ok (.string s1) w8 := by rw [← hs1]; exact conv_u8 hg9
            have q1 : Sem.run Try.prog (convert 22 9 (.slice g7a g7n g7c)) w8.drew = .ok (.string s1) w8.drew := by rw [← hs1]; exact conv_u8 (hg9.drewN 1)
            have p0 : Sem.run Try.prog (convert 22 9 (.slice (some ⟨gb, A, none⟩) D (gcap - A))) w8 = .ok (.string s1) w8 := by rw [← hs1]; exact conv_u8 hc9
            have p1 : Sem.run Try.prog (convert 22 9 (.slice (some ⟨gb, A, none⟩) D (gcap - A))) w8.drew = .ok (.string s1) w8.drew := by rw [← hs1]; exact conv_u8 (hc9.drewN 1)
            have HE9 : Hid (D = 0 ∧ g7v = [] → Sem.run Try.prog (convert 22 9 (.slice (some ⟨gb, 0, none⟩) 0 0)) w8 = .ok (.string s1) w8 ∧ Sem.run Try.prog (convert 22 9 (.slice (some ⟨gb, 0, none⟩) 0 0)) w8.drew = .ok (.string s1) w8.drew) := Lib.hid (fun h => by
              rw [← hs1, h.2]
              exact ⟨conv_u8 (Elems.nil_ _ _ _), conv_u8 (Elems.nil_ _ _ _)⟩)
            have HL8 : Hid (fs2 = [] → g8v = tl) := Lib.hid (fun h => by have := hsp8.all; rw [h] at this; simpa using this.symm)
            have HG8 := Lib.hid hg8.1
            have HT9 := Lib.hid ht9
            clear hs1 hg9 hc9 hsp8 hR8 hv8 hg8 hb8 hg7 ht9 P8
            go_upto_region 23 with fail
            by_cases hf2 : fs2 = []
            · subst hf2
              obtain rfl := HL8.out rfl
              obtain ⟨s3, hs3⟩ : ∃ s, strOfNums g8v = s := ⟨_, rfl⟩
              have i0 : Sem.run Try.prog (convert 22 9 (.slice g8a g8n g8c)) w8 = .ok (.string s3) w8 := by rw [← hs3]; exact conv_u8 HG8.out
              have i1 : Sem.run Try.prog (convert 22 9 (.slice g8a g8n g8c)) w8.drew = .ok (.string s3) w8.drew := by rw [← hs3]; exact conv_u8 (HG8.out.drewN 1)
              have j0 : Sem.run Try.prog (convert 22 9 (.slice a1 n1 cap1)) w8 = .ok (.string s3) w8 := by rw [← hs3]; exact conv_u8 HT9.out
              have j1 : Sem.run Try.prog (convert 22 9 (.slice a1 n1 cap1)) w8.drew = .ok (.string s3) w8.drew := by rw [← hs3]; exact conv_u8 (HT9.out.drewN 1)
              clear hs3
              by_cases hgA : gcap = A
              · obtain ⟨c0, c1⟩ := HE9.out (HEMP.out hgA)
                obtain ⟨hD0, _⟩ := HEMP.out hgA
                subst hD0 hgA
                go_region_held3 (fun V => Sem.run Try.prog (convert 22 9 (.slice g7a g7n g7c)) V = .ok (.string s1) V ∧ Sem.run Try.prog (convert 22 9 (.slice (some ⟨gb, 0, none⟩) 0 0)) V = .ok (.string s1) V ∧ Sem.run Try.prog (convert 22 9 (.slice g8a g8n g8c)) V = .ok (.string s3) V ∧ Sem.run Try.prog (convert 22 9 (.slice a1 n1 cap1)) V = .ok (.string s3) V)
                  (first | exact ⟨q1, c1, i1, j1⟩ | go_keep | (refine ⟨?_, ?_, ?_, ?_⟩ <;> assumption))
                  (fail)
                all_goals
                  go_wp2
                  go_ret
                  exact ⟨rfl, by first | exact HB9.out | exact HB9.out.drew | exact below_drewN HB9.out _⟩
              · have hgA2 : ¬ A = gcap := fun e => hgA e.symm
                go_region_held3 (fun V => Sem.run Try.prog (convert 22 9 (.slice g7a g7n g7c)) V = .ok (.string s1) V ∧ Sem.run Try.prog (convert 22 9 (.slice (some ⟨gb, A, none⟩) D (gcap - A))) V = .ok (.string s1) V ∧ Sem.run Try.prog (convert 22 9 (.slice g8a g8n g8c)) V = .ok (.string s3) V ∧ Sem.run Try.prog (convert 22 9 (.slice a1 n1 cap1)) V = .ok (.string s3) V)
                  (first | exact ⟨q1, p1, i1, j1⟩ | go_keep | (refine ⟨?_, ?_, ?_, ?_⟩ <;> assumption))
                  (fail)
                all_goals
                  go_wp2
                  go_ret
                  exact ⟨rfl, by first | exact HB9.out | exact HB9.out.drew | exact below_drewN HB9.out _⟩
            · have hpos : 0 < fs2.length := List.length_pos_iff.2 hf2
              have hp1 : (0 : Int) < (fs2.length : Int) := by omega
              generalize fs2.length = m2 at *
              by_cases hgA : gcap = A
              · obtain ⟨c0, c1⟩ := HE9.out (HEMP.out hgA)
                obtain ⟨hD0, _⟩ := HEMP.out hgA
                subst hD0 hgA
                refine wp_region_held_drew (S := (fun V => Sem.run Try.prog (convert 22 9 (.slice g7a g7n g7c)) V = .ok (.string s1) V ∧ Sem.run Try.prog (convert 22 9 (.slice (some ⟨gb, 0, none⟩) 0 0)) V = .ok (.string s1) V)) (by kernel_rfl) ?_ (fun hHeld => ?_)
                · (first | exact ⟨q1, c1⟩ | go_keep | (refine ⟨?_, ?_⟩ <;> assumption))
                refine wpAnyH_take (i := 0) (oi := ⟨some 102, _, _, _, _, _⟩) (v := ?_) rfl (by kernel_rfl) (by kernel_rfl) (by kernel_rfl) (fun _ _ _ h => h) (Or.inl ⟨by rfl, ?hy1⟩) hHeld ?rest1
                case hy1 => (intro W hSw; (try dsimp only at hSw); go_simp; (try with_reducible rfl))
                simp only [Act.put, List.setIfInBounds_toArray, List.set_cons_zero, List.set_cons_succ]
                refine wpAnyH_take (i := 1) (oi := ⟨some 103, _, _, _, _, _⟩) (v := ?_) rfl (by kernel_rfl) (by kernel_rfl) (by kernel_rfl) (fun _ _ _ h => h) (Or.inl ⟨by rfl, ?hy2⟩) hHeld ?rest2
                case hy2 => (intro W hSw; (try dsimp only at hSw); go_simp; (try with_reducible rfl))
                simp only [Act.put, List.setIfInBounds_toArray, List.set_cons_zero, List.set_cons_succ]
                refine wpAnyH_take (i := 2) (oi := ⟨some 104, _, _, _, _, _⟩) (v := ?_) rfl (by kernel_rfl) (by kernel_rfl) (by kernel_rfl) (fun _ _ _ h => h) (Or.inl ⟨by rfl, ?hy3⟩) hHeld ?rest3
                case hy3 => (intro W hSw; (try dsimp only at hSw); go_simp; (try with_reducible rfl))
                simp only [Act.put, List.setIfInBounds_toArray, List.set_cons_zero, List.set_cons_succ]
                refine wpAnyH_take (i := 3) (oi := ⟨some 105, _, _, _, _, _⟩) (v := ?_) rfl (by kernel_rfl) (by kernel_rfl) (by kernel_rfl) (fun _ _ _ h => h) (Or.inl ⟨by rfl, ?hy4⟩) hHeld ?rest4
                case hy4 => (intro W hSw; (try dsimp only at hSw); go_simp; (try with_reducible rfl))
                simp only [Act.put, List.setIfInBounds_toArray, List.set_cons_zero, List.set_cons_succ]
                refine wpAnyH_take (i := 4) (oi := ⟨some 106, _, _, _, _, _⟩) (v := ?_) rfl (by kernel_rfl) (by kernel_rfl) (by kernel_rfl) (fun _ _ _ h => h) (Or.inl ⟨by rfl, ?hy5⟩) hHeld ?rest5
                case hy5 => (intro W hSw; (try dsimp only at hSw); go_simp; (try with_reducible rfl))
                simp only [Act.put, List.setIfInBounds_toArray, List.set_cons_zero, List.set_cons_succ]
                refine wpAnyH_take (i := 5) (oi := ⟨some 107, _, _, _, _, _⟩) (v := ?_) rfl (by kernel_rfl) (by kernel_rfl) (by kernel_rfl) (fun _ _ _ h => h) (Or.inl ⟨by rfl, ?hy6⟩) hHeld ?rest6
                case hy6 => (intro W hSw; (try dsimp only at hSw); go_simp; (try with_reducible rfl))
                simp only [Act.put, List.setIfInBounds_toArray, List.set_cons_zero, List.set_cons_succ]
                refine wpAnyH_take (i := 6) (oi := ⟨some 108, _, _, _, _, _⟩) (v := ?_) rfl (by kernel_rfl) (by kernel_rfl) (by kernel_rfl) (fun _ _ _ h => h) (Or.inl ⟨by rfl, ?hy7⟩) hHeld ?rest7
                case hy7 => (intro W hSw; (try dsimp only at hSw); go_simp; (try with_reducible rfl))
                simp only [Act.put, List.setIfInBounds_toArray, List.set_cons_zero, List.set_cons_succ]
                refine wpAnyH_take (i := 7) (oi := ⟨some 109, _, _, _, _, _⟩) (v := ?_) rfl (by kernel_rfl) (by kernel_rfl) (by kernel_rfl) (fun _ _ _ h => h) (Or.inl ⟨by rfl, ?hy8⟩) hHeld ?rest8
                case hy8 => (intro W hSw; (try dsimp only at hSw); go_simp; (try with_reducible rfl))
                simp only [Act.put, List.setIfInBounds_toArray, List.set_cons_zero, List.set_cons_succ]
                refine wpAnyH_take (i := 8) (oi := ⟨some 110, _, _, _, _, _⟩) (v := ?_) rfl (by kernel_rfl) (by kernel_rfl) (by kernel_rfl) (fun _ _ _ h => h) (Or.inl ⟨by rfl, ?hy9⟩) hHeld ?rest9
                case hy9 => (intro W hSw; (try dsimp only at hSw); go_simp; (try with_reducible rfl))
                simp only [Act.put, List.setIfInBounds_toArray, List.set_cons_zero, List.set_cons_succ]
                refine wpAnyH_take (i := 9) (oi := ⟨some 111, _, _, _, _, _⟩) (v := ?_) rfl (by kernel_rfl) (by kernel_rfl) (by kernel_rfl) (fun _ _ _ h => h) (Or.inl ⟨by rfl, ?hy10⟩) hHeld ?rest10
                case hy10 => (intro W hSw; (try dsimp only at hSw); go_simp; (try with_reducible rfl))
                simp only [Act.put, List.setIfInBounds_toArray, List.set_cons_zero, List.set_cons_succ]
                refine wpAnyH_take (i := 10) (oi := ⟨some 112, _, _, _, _, _⟩) (v := ?_) rfl (by kernel_rfl) (by kernel_rfl) (by kernel_rfl) (fun _ _ _ h => h) (Or.inl ⟨by rfl, ?hy11⟩) hHeld ?rest11
                case hy11 => (intro W hSw; (try dsimp only at hSw); go_simp; (try with_reducible rfl))
                simp only [Act.put, List.setIfInBounds_toArray, List.set_cons_zero, List.set_cons_succ]
                refine wpAnyH_take (i := 11) (oi := ⟨some 113, _, _, _, _, _⟩) (v := ?_) rfl (by kernel_rfl) (by kernel_rfl) (by kernel_rfl) (fun _ _ _ h => h) (Or.inl ⟨by rfl, ?hy12⟩) hHeld ?rest12
                case hy12 => (intro W hSw; (try dsimp only at hSw); go_simp; (try with_reducible rfl))
                simp only [Act.put, List.setIfInBounds_toArray, List.set_cons_zero, List.set_cons_succ]
                refine wpAnyH_take (i := 12) (oi := ⟨some 114, _, _, _, _, _⟩) (v := undef) rfl (by kernel_rfl) (by kernel_rfl) (by kernel_rfl) (fun _ _ _ h => h) (Or.inr ⟨by rfl, rfl⟩) hHeld ?rest13
                simp only [Act.put, List.setIfInBounds_toArray, List.set_cons_zero, List.set_cons_succ]
                refine wpAnyH_take (i := 13) (oi := ⟨some 115, _, _, _, _, _⟩) (v := undef) rfl (by kernel_rfl) (by kernel_rfl) (by kernel_rfl) (fun _ _ _ h => h) (Or.inr ⟨by rfl, rfl⟩) hHeld ?rest14
                simp only [Act.put, List.setIfInBounds_toArray, List.set_cons_zero, List.set_cons_succ]
                refine wpAnyH_take (i := 14) (oi := ⟨some 116, _, _, _, _, _⟩) (v := undef) rfl (by kernel_rfl) (by kernel_rfl) (by kernel_rfl) (fun _ _ _ h => h) (Or.inr ⟨by rfl, rfl⟩) hHeld ?rest15
                simp only [Act.put, List.setIfInBounds_toArray, List.set_cons_zero, List.set_cons_succ]
                refine wpAnyH_take (i := 15) (oi := ⟨some 117, _, _, _, _, _⟩) (v := undef) rfl (by kernel_rfl) (by kernel_rfl) (by kernel_rfl) (fun _ _ _ h => h) (Or.inr ⟨by rfl, rfl⟩) hHeld ?rest16
                simp only [Act.put, List.setIfInBounds_toArray, List.set_cons_zero, List.set_cons_succ]
                refine wpAnyH_take (i := 16) (oi := ⟨some 118, _, _, _, _, _⟩) (v := undef) rfl (by kernel_rfl) (by kernel_rfl) (by kernel_rfl) (fun _ _ _ h => h) (Or.inr ⟨by rfl, rfl⟩) hHeld ?rest17
                simp only [Act.put, List.setIfInBounds_toArray, List.set_cons_zero, List.set_cons_succ]
                refine wpAnyH_take (i := 17) (oi := ⟨some 119, _, _, _, _, _⟩) (v := ?_) rfl (by kernel_rfl) (by kernel_rfl) (by kernel_rfl) (fun _ _ _ h => h) (Or.inl ⟨by rfl, ?hy18⟩) hHeld ?rest18
                case hy18 => (intro W hSw; (try dsimp only at hSw); go_simp; (try with_reducible rfl))
                simp only [Act.put, List.setIfInBounds_toArray, List.set_cons_zero, List.set_cons_succ]
                refine wpAnyH_take (i := 18) (oi := ⟨some 120, _, _, _, _, _⟩) (v := ?_) rfl (by kernel_rfl) (by kernel_rfl) (by kernel_rfl) (fun _ _ _ h => h) (Or.inl ⟨by rfl, ?hy19⟩) hHeld ?rest19
                case hy19 => (intro W hSw; (try dsimp only at hSw); go_simp; (try with_reducible rfl))
                simp only [Act.put, List.setIfInBounds_toArray, List.set_cons_zero, List.set_cons_succ]
                refine wpAnyH_take (i := 19) (oi := ⟨some 4, _, _, _, _, _⟩) (v := ?_) rfl (by kernel_rfl) (by kernel_rfl) (by kernel_rfl) (fun _ _ _ h => h) (Or.inl ⟨by rfl, ?hy20⟩) hHeld ?rest20
                case hy20 => (intro W hSw; (try dsimp only at hSw); go_simp; (try with_reducible rfl))
                simp only [Act.put, List.setIfInBounds_toArray, List.set_cons_zero, List.set_cons_succ]
                refine wpAnyH_done (by kernel_rfl) ?_ _
                go_wp2_with fail
                go_ret
                exact ⟨rfl, by first | exact HB9.out | exact HB9.out.drew | exact below_drewN HB9.out _⟩
              · have hgA2 : ¬ A = gcap := fun e => hgA e.symm
                refine wp_region_held_drew (S := (fun V => Sem.run Try.prog (convert 22 9 (.slice g7a g7n g7c)) V = .ok (.string s1) V ∧ Sem.run Try.prog (convert 22 9 (.slice (some ⟨gb, A, none⟩) D (gcap - A))) V = .ok (.string s1) V)) (by kernel_rfl) ?_ (fun hHeld => ?_)
                · (first | exact ⟨q1, p1⟩ | go_keep | (refine ⟨?_, ?_⟩ <;> assumption))
                refine wpAnyH_take (i := 0) (oi := ⟨some 102, _, _, _, _, _⟩) (v := ?_) rfl (by kernel_rfl) (by kernel_rfl) (by kernel_rfl) (fun _ _ _ h => h) (Or.inl ⟨by rfl, ?hy21⟩) hHeld ?rest21
                case hy21 => (intro W hSw; (try dsimp only at hSw); go_simp; (try with_reducible rfl))
                simp only [Act.put, List.setIfInBounds_toArray, List.set_cons_zero, List.set_cons_succ]
                refine wpAnyH_take (i := 1) (oi := ⟨some 103, _, _, _, _, _⟩) (v := ?_) rfl (by kernel_rfl) (by kernel_rfl) (by kernel_rfl) (fun _ _ _ h => h) (Or.inl ⟨by rfl, ?hy22⟩) hHeld ?rest22
                case hy22 => (intro W hSw; (try dsimp only at hSw); go_simp; (try with_reducible rfl))
                simp only [Act.put, List.setIfInBounds_toArray, List.set_cons_zero, List.set_cons_succ]
                refine wpAnyH_take (i := 2) (oi := ⟨some 104, _, _, _, _, _⟩) (v := ?_) rfl (by kernel_rfl) (by kernel_rfl) (by kernel_rfl) (fun _ _ _ h => h) (Or.inl ⟨by rfl, ?hy23⟩) hHeld ?rest23
                case hy23 => (intro W hSw; (try dsimp only at hSw); go_simp; (try with_reducible rfl))
                simp only [Act.put, List.setIfInBounds_toArray, List.set_cons_zero, List.set_cons_succ]
                refine wpAnyH_take (i := 3) (oi := ⟨some 105, _, _, _, _, _⟩) (v := ?_) rfl (by kernel_rfl) (by kernel_rfl) (by kernel_rfl) (fun _ _ _ h => h) (Or.inl ⟨by rfl, ?hy24⟩) hHeld ?rest24
                case hy24 => (intro W hSw; (try dsimp only at hSw); go_simp; (try with_reducible rfl))
                simp only [Act.put, List.setIfInBounds_toArray, List.set_cons_zero, List.set_cons_succ]
                refine wpAnyH_take (i := 4) (oi := ⟨some 106, _, _, _, _, _⟩) (v := ?_) rfl (by kernel_rfl) (by kernel_rfl) (by kernel_rfl) (fun _ _ _ h => h) (Or.inl ⟨by rfl, ?hy25⟩) hHeld ?rest25
                case hy25 => (intro W hSw; (try dsimp only at hSw); go_simp; (try with_reducible rfl))
                simp only [Act.put, List.setIfInBounds_toArray, List.set_cons_zero, List.set_cons_succ]
                refine wpAnyH_take (i := 5) (oi := ⟨some 107, _, _, _, _, _⟩) (v := ?_) rfl (by kernel_rfl) (by kernel_rfl) (by kernel_rfl) (fun _ _ _ h => h) (Or.inl ⟨by rfl, ?hy26⟩) hHeld ?rest26
                case hy26 => (intro W hSw; (try dsimp only at hSw); go_simp; (try with_reducible rfl))
                simp only [Act.put, List.setIfInBounds_toArray, List.set_cons_zero, List.set_cons_succ]
                refine wpAnyH_take (i := 6) (oi := ⟨some 108, _, _, _, _, _⟩) (v := ?_) rfl (by kernel_rfl) (by kernel_rfl) (by kernel_rfl) (fun _ _ _ h => h) (Or.inl ⟨by rfl, ?hy27⟩) hHeld ?rest27
                case hy27 => (intro W hSw; (try dsimp only at hSw); go_simp; (try with_reducible rfl))
                simp only [Act.put, List.setIfInBounds_toArray, List.set_cons_zero, List.set_cons_succ]
                refine wpAnyH_take (i := 7) (oi := ⟨some 109, _, _, _, _, _⟩) (v := ?_) rfl (by kernel_rfl) (by kernel_rfl) (by kernel_rfl) (fun _ _ _ h => h) (Or.inl ⟨by rfl, ?hy28⟩) hHeld ?rest28
                case hy28 => (intro W hSw; (try dsimp only at hSw); go_simp; (try with_reducible rfl))
                simp only [Act.put, List.setIfInBounds_toArray, List.set_cons_zero, List.set_cons_succ]
                refine wpAnyH_take (i := 8) (oi := ⟨some 110, _, _, _, _, _⟩) (v := ?_) rfl (by kernel_rfl) (by kernel_rfl) (by kernel_rfl) (fun _ _ _ h => h) (Or.inl ⟨by rfl, ?hy29⟩) hHeld ?rest29
                case hy29 => (intro W hSw; (try dsimp only at hSw); go_simp; (try with_reducible rfl))
                simp only [Act.put, List.setIfInBounds_toArray, List.set_cons_zero, List.set_cons_succ]
                refine wpAnyH_take (i := 9) (oi := ⟨some 111, _, _, _, _, _⟩) (v := ?_) rfl (by kernel_rfl) (by kernel_rfl) (by kernel_rfl) (fun _ _ _ h => h) (Or.inl ⟨by rfl, ?hy30⟩) hHeld ?rest30
                case hy30 => (intro W hSw; (try dsimp only at hSw); go_simp; (try with_reducible rfl))
                simp only [Act.put, List.setIfInBounds_toArray, List.set_cons_zero, List.set_cons_succ]
                refine wpAnyH_take (i := 10) (oi := ⟨some 112, _, _, _, _, _⟩) (v := ?_) rfl (by kernel_rfl) (by kernel_rfl) (by kernel_rfl) (fun _ _ _ h => h) (Or.inl ⟨by rfl, ?hy31⟩) hHeld ?rest31
                case hy31 => (intro W hSw; (try dsimp only at hSw); go_simp; (try with_reducible rfl))
                simp only [Act.put, List.setIfInBounds_toArray, List.set_cons_zero, List.set_cons_succ]
                refine wpAnyH_take (i := 11) (oi := ⟨some 113, _, _, _, _, _⟩) (v := ?_) rfl (by kernel_rfl) (by kernel_rfl) (by kernel_rfl) (fun _ _ _ h => h) (Or.inl ⟨by rfl, ?hy32⟩) hHeld ?rest32
                case hy32 => (intro W hSw; (try dsimp only at hSw); go_simp; (try with_reducible rfl))
                simp only [Act.put, List.setIfInBounds_toArray, List.set_cons_zero, List.set_cons_succ]
                refine wpAnyH_take (i := 12) (oi := ⟨some 114, _, _, _, _, _⟩) (v := undef) rfl (by kernel_rfl) (by kernel_rfl) (by kernel_rfl) (fun _ _ _ h => h) (Or.inr ⟨by rfl, rfl⟩) hHeld ?rest33
                simp only [Act.put, List.setIfInBounds_toArray, List.set_cons_zero, List.set_cons_succ]
                refine wpAnyH_take (i := 13) (oi := ⟨some 115, _, _, _, _, _⟩) (v := undef) rfl (by kernel_rfl) (by kernel_rfl) (by kernel_rfl) (fun _ _ _ h => h) (Or.inr ⟨by rfl, rfl⟩) hHeld ?rest34
                simp only [Act.put, List.setIfInBounds_toArray, List.set_cons_zero, List.set_cons_succ]
                refine wpAnyH_take (i := 14) (oi := ⟨some 116, _, _, _, _, _⟩) (v := undef) rfl (by kernel_rfl) (by kernel_rfl) (by kernel_rfl) (fun _ _ _ h => h) (Or.inr ⟨by rfl, rfl⟩) hHeld ?rest35
                simp only [Act.put, List.setIfInBounds_toArray, List.set_cons_zero, List.set_cons_succ]
                refine wpAnyH_take (i := 15) (oi := ⟨some 117, _, _, _, _, _⟩) (v := undef) rfl (by kernel_rfl) (by kernel_rfl) (by kernel_rfl) (fun _ _ _ h => h) (Or.inr ⟨by rfl, rfl⟩) hHeld ?rest36
                simp only [Act.put, List.setIfInBounds_toArray, List.set_cons_zero, List.set_cons_succ]
                refine wpAnyH_take (i := 16) (oi := ⟨some 118, _, _, _, _, _⟩) (v := undef) rfl (by kernel_rfl) (by kernel_rfl) (by kernel_rfl) (fun _ _ _ h => h) (Or.inr ⟨by rfl, rfl⟩) hHeld ?rest37
                simp only [Act.put, List.setIfInBounds_toArray, List.set_cons_zero, List.set_cons_succ]
                refine wpAnyH_take (i := 17) (oi := ⟨some 119, _, _, _, _, _⟩) (v := ?_) rfl (by kernel_rfl) (by kernel_rfl) (by kernel_rfl) (fun _ _ _ h => h) (Or.inl ⟨by rfl, ?hy38⟩) hHeld ?rest38
                case hy38 => (intro W hSw; (try dsimp only at hSw); go_simp; (try with_reducible rfl))
                simp only [Act.put, List.setIfInBounds_toArray, List.set_cons_zero, List.set_cons_succ]
                refine wpAnyH_take (i := 18) (oi := ⟨some 120, _, _, _, _, _⟩) (v := ?_) rfl (by kernel_rfl) (by kernel_rfl) (by kernel_rfl) (fun _ _ _ h => h) (Or.inl ⟨by rfl, ?hy39⟩) hHeld ?rest39
                case hy39 => (intro W hSw; (try dsimp only at hSw); go_simp; (try with_reducible rfl))
                simp only [Act.put, List.setIfInBounds_toArray, List.set_cons_zero, List.set_cons_succ]
                refine wpAnyH_take (i := 19) (oi := ⟨some 4, _, _, _, _, _⟩) (v := ?_) rfl (by kernel_rfl) (by kernel_rfl) (by kernel_rfl) (fun _ _ _ h => h) (Or.inl ⟨by rfl, ?hy40⟩) hHeld ?rest40
                case hy40 => (intro W hSw; (try dsimp only at hSw); go_simp; (try with_reducible rfl))
                simp only [Act.put, List.setIfInBounds_toArray, List.set_cons_zero, List.set_cons_succ]
                refine wpAnyH_done (by kernel_rfl) ?_ _
                go_wp2_with fail
                go_ret
                exact ⟨rfl, by first | exact HB9.out | exact HB9.out.drew | exact below_drewN HB9.out _⟩

set_option maxRecDepth 100000 in
theorem lifted (os : Os) (started : os.Started) (H : Type) (enc : TypeId × Value → H) :
    ReturnsInHanded {} Try.checked os 5 .any (Rows.frameSplitsSpec.pre6 enc Try.prog Try.f5 Rows.frameSplitsRow.domain false) (Rows.frameSplitsSpec.post enc Try.prog Try.f5 false true false false) := by
  refine returnsInHanded_of_change (C := Try.checked) own started (by kernel_rfl) Try.func5
    (ChangeSpec.witness6 (enc := enc) (C := Try.checked) false ⟨#[], #[.slice none 0 0, .slice none 0 0], []⟩ 8 (by kernel_rfl) (by kernel_rfl) (by kernel_rfl) (by kernel_rfl)) ?_
  intro W base args ds gs before hval0 hW hcnd _
  have hval : ∀ (j : Nat) t v, Try.f5.params[j]? = some t → args[j]? = some v → Value.okWide Try.prog W .any base t v := hval0
  have hW' := hW
  obtain ⟨p, q, hA0, hV, rfl, hfz, hnd⟩ := hW
  have hA : DataW.TrodAll enc Try.prog W 0 (fun _ => true) true Try.f5.params.toList args.toList ds p := hA0
  rw [Try.params5] at hA hval
  obtain ⟨v0, vs0, d0, ds0, p0, q0, hargs, rfl, rfl, h0, r0⟩ := trodAll_cons hA
  obtain ⟨v1, vs1, d1, ds1, p1, q1, rfl, rfl, rfl, h1, r1⟩ := trodAll_cons r0
  obtain ⟨rfl, rfl, rfl⟩ := trodAll_nil r1
  obtain rfl : args = #[v0, v1] := by cases args; simp_all
  obtain ⟨rfl, rfl⟩ := trodVars_none hV
  have k0 := h0
  have lt0 : ∀ x ∈ p0, x.block < W.heap.size := by obtain ⟨m, hm⟩ := k0; exact DataW.trod_lt m _ _ _ hm
  obtain ⟨a0, n0, cap0, qs0, rfl, w0⟩ := open_rws Try.underlying33 (by kernel_rfl) Try.underlying22 Try.underlying5 (by kernel_rfl) (hval 0 33 v0 rfl rfl) h0
  have k1 := h1
  have lt1 : ∀ x ∈ p1, x.block < W.heap.size := by obtain ⟨m, hm⟩ := k1; exact DataW.trod_lt m _ _ _ hm
  obtain ⟨q1, rfl, w1⟩ := open_rw Try.underlying22 Try.underlying5 (by kernel_rfl) (hval 1 22 v1 rfl rfl) h1
  clear hA0 hval0
  refine (walk a0 n0 cap0 qs0 q1 W w0 w1).mono fun e W' ⟨he, bel⟩ => ?_
  subst he
  exact ⟨_, rfl, _, _, _, [], _, [], hW', trodAll_mk1 (shut_bool Try.underlying4 _), (trodAll_cons_mk (Below.trod laidOut (by kernel_rfl) (of_decide_eq_true (by kernel_rfl)) k0 bel lt0) (trodAll_cons_mk (Below.trod laidOut (by kernel_rfl) (of_decide_eq_true (by kernel_rfl)) k1 bel lt1) trodAll_mk0)), rfl, bel.frame _, fun h => by cases h⟩

theorem over : Rows.frameSplitsRow.holds Try.pinned (OpenSpec.ofChange Rows.frameSplitsSpec) :=
  OpenClaim.holds_of_wide 5 Try.f5 rfl rfl rfl rfl rfl rfl rfl ⟨rfl, rfl, rfl, rfl, rfl⟩ rfl rfl rfl rfl rfl (by kernel_rfl) Try.func5 (by kernel_rfl)
    (of_decide_eq_true (by kernel_rfl)) (by unfold Func.isWrapper; first | (rw [if_pos (by decide +kernel)]; kernel_rfl) | (rw [if_neg (by decide +kernel)]; exact ⟨rfl, rfl⟩))
    (fun os started H enc _ => lifted os started H enc)

/-- ████ THE STATEMENT ████ -/
theorem proved : Rows.FrameSplitsSaid := over
#print axioms proved
end Go.Proofs.Ytpcnikbggpodgaa.frameSplits
