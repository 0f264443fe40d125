/-
  Contracts of the two Sums: each answers the check sum of the bytes; nothing is written.
-/
import Derived.Test.YtobogkilkmnpmaaCrcMath
import Derived.Test.YtobogkilkmnpmaaRw
namespace Go.Proofs.Ytobogkilkmnpmaa
open Go.RowKit
set_option linter.unusedVariables false

theorem wfu8 {n : Int} (h : (Lit.int .u8 n).wf = true) : 0 ≤ n ∧ n ≤ 255 := by
  simp [Lit.wf, IntKind.min, IntKind.max, IntKind.signed, IntKind.bits] at h; omega
theorem le255 {w : World} {a : Option Addr} {n : Nat} {xs : List Int} (h : Elems .u8 w a n xs) : ∀ x ∈ xs, x ≤ 255 := fun x hx => (wfu8 (h.2.2.1 x hx)).2

/-- one byte more -/
theorem crc_step (r0 : Nat) (xs : List Int) (k : Nat) (hk : k < xs.length) : crcL r0 (xs.take (k + 1)) = byt (crcL r0 (xs.take k)) (xs.getD k 0) := by
  rw [← crcL_snoc]
  congr 1
  rw [List.take_add_one]
  simp [List.getD, List.getElem?_eq_getElem hk]

set_option maxHeartbeats 800000 in
theorem doc_sum (a : Option Addr) (n cap : Nat) (xs : List Int) (w : World) (h : Elems .u8 w a n xs) :
    Calls Try.prog 33 #[.slice a n cap] w fun e w' => e = .returned (.int .u32 (csum xs : Nat)) ∧ w = w' := by
  have hn := h.2.1
  have hl := Lib.hid h.1
  have h255 := Lib.hid (le255 h)
  go_enter Try.func33, Try.ntmps33
  go_wp2
  go_loop [3, 4, 6] (fun r i _ => ∃ k r' : Nat, k ≤ n ∧ i = .int .i64 k ∧ r = .int .u32 r' ∧ r' < 4294967296 ∧ Hid (r' = crcL 4294967295 (xs.take k))) (fun _ i _ => n - (intOf i).toNat)
  case atStart => exact ⟨0, 4294967295, by omega, rfl, rfl, by omega, Lib.hid rfl⟩
  case round =>
    obtain ⟨k, r, hk, rfl, rfl, hr, hR⟩ := hrel
    by_cases hlt : k < n
    · obtain ⟨b, off, v, rfl, hc, hv, wv⟩ := h.at_ hlt
      have v1 := wfu8 wv
      obtain ⟨x, rfl⟩ : ∃ x : Nat, v = x := ⟨v.toNat, by omega⟩
      have hx := bits_xor r x hr (by omega)
      have hlt2 : r ^^^ x < 4294967296 := Nat.xor_lt_two_pow (n := 32) (by omega) (by omega)
      generalize hs : r ^^^ x = s at hx hlt2
      have HS := Lib.hid hs
      have HV := Lib.hid hv.out
      clear h hv wv hs
      go_wp2
      clear hx
      go_loop [3, 5, 6] (fun r i _ => ∃ j r' : Nat, j ≤ 8 ∧ i = .int .i64 j ∧ r = .int .u32 r' ∧ r' < 4294967296 ∧ Hid (r' = bitsN j s)) (fun _ i _ => 8 - (intOf i).toNat)
      case atStart => exact ⟨0, s, by omega, rfl, rfl, hlt2, Lib.hid rfl⟩
      case round =>
        obtain ⟨j, q, hj, rfl, rfl, hq, hQ⟩ := hrel
        by_cases hlt3 : j < 8
        · by_cases hb : q % 2 = 1
          · have hx := bits_xor (q / 2) 3988292384 (by omega) (by omega)
            have hst : stp q = q / 2 ^^^ 3988292384 := by unfold stp; rw [if_pos hb]
            have hl2 := stp_lt q hq
            have HQ2 : Hid (stp q = bitsN (j + 1) s) := Lib.hid (by rw [hQ.out]; rfl)
            rw [hst] at hl2 HQ2
            generalize q / 2 ^^^ 3988292384 = q2 at hx hl2 HQ2
            have e1 : ((q : Int) % 2 == 1) = true := by simp; omega
            have e2 : ((q / 2 : Nat) : Int) = (q : Int) / 2 := by omega
            rw [e2] at hx
            clear hst e2 hb
            go_wp2
            go_round
            case rel => exact ⟨j + 1, q2, by omega, by go_num, val_int hx, hl2, HQ2⟩
            case measure => simp [intOf]; omega
          · have hst : stp q = q / 2 := by unfold stp; rw [if_neg hb]
            have hl2 := stp_lt q hq
            have HQ2 : Hid (stp q = bitsN (j + 1) s) := Lib.hid (by rw [hQ.out]; rfl)
            rw [hst] at hl2 HQ2
            have e1 : ((q : Int) % 2 == 1) = false := by simp; omega
            clear hst hb
            go_wp2
            go_round
            case rel => exact ⟨j + 1, q / 2, by omega, by go_num, by go_num, hl2, HQ2⟩
            case measure => simp [intOf]; omega
        · obtain rfl : j = 8 := by omega
          go_wp2
          go_round
          case rel => exact ⟨k + 1, q, by omega, by go_num, rfl, hq, Lib.hid (by rw [crc_step _ _ _ (by rw [hl.out]; omega), HV.out, ← hR.out, hQ.out]; unfold byt; rw [Int.toNat_natCast, HS.out])⟩
          case measure => simp [intOf]; omega
    · clear h
      obtain rfl : k = n := by omega
      have hx := doc_not r hr
      go_wp2
      go_ret
      refine ⟨ret_int ?_, rfl⟩
      unfold csum
      rw [hR.out, List.take_of_length_le (by rw [hl.out]; omega)]

/-- the bytes of rows, one behind the other -/
def catR (qs : List Rw) : List Int := qs.flatMap (fun q => q.v)
theorem cat_step (qs : List Rw) (k : Nat) (hk : k < qs.length) : catR (qs.take (k + 1)) = catR (qs.take k) ++ (qs.getD k default).v := by
  unfold catR
  rw [List.take_add_one, List.flatMap_append]
  simp [List.getD, List.getElem?_eq_getElem hk]

set_option maxHeartbeats 800000 in
theorem sum_any (a : Option Addr) (n cap : Nat) (qs : List Rw) (w : World) (h : Rws .u8 w a n qs) :
    Calls Try.prog 38 #[.slice a n cap] w fun e w' => e = .returned (.int .u32 (csum (catR qs) : Nat)) ∧ w = w' := by
  have hn := h.2.1
  have hl := Lib.hid h.1
  go_enter Try.func38, Try.ntmps38
  go_wp2
  go_loop [3, 10] (fun r i => ∃ k r' : Nat, k ≤ n ∧ i = .int .i64 k ∧ r = .int .u32 r' ∧ r' < 4294967296 ∧ Hid (r' = crcL 4294967295 (catR (qs.take k)))) (fun _ i => n - (intOf i).toNat)
  case atStart => exact ⟨0, 4294967295, by omega, rfl, rfl, by omega, Lib.hid rfl⟩
  case round =>
    obtain ⟨k, r, hk, rfl, rfl, hr, hR⟩ := hrel
    by_cases hlt : k < n
    · obtain ⟨b, off, q, rfl, _, hc, hq, hin⟩ := h.at_ hlt
      obtain ⟨qa, m, qcap, ys⟩ := q
      have hE : Elems .u8 w qa m ys := hin.1
      have hm := hE.2.1
      have hyl := Lib.hid hE.1
      have HQ := Lib.hid hq.out
      clear h hin hq
      go_wp2
      go_loop [3, 16] (fun r i => ∃ j r' : Nat, j ≤ m ∧ i = .int .i64 j ∧ r = .int .u32 r' ∧ r' < 4294967296 ∧ Hid (r' = crcL 4294967295 (catR (qs.take k) ++ ys.take j))) (fun _ i => m - (intOf i).toNat)
      case atStart => exact ⟨0, r, by omega, rfl, rfl, hr, Lib.hid (by rw [hR.out]; simp)⟩
      case round =>
        obtain ⟨j, p, hj, rfl, rfl, hp, hP⟩ := hrel
        by_cases hlt2 : j < m
        · obtain ⟨b2, off2, v, rfl, hc2, hv, wv⟩ := hE.at_ hlt2
          have v1 := wfu8 wv
          obtain ⟨x, rfl⟩ : ∃ x : Nat, v = x := ⟨v.toNat, by omega⟩
          have hx := bits_xor p x hp (by omega)
          have hlx : p ^^^ x < 4294967296 := Nat.xor_lt_two_pow (n := 32) (by omega) (by omega)
          generalize hs : p ^^^ x = s at hx hlx
          have HS := Lib.hid hs
          have HV := Lib.hid hv.out
          clear hE hv wv hs
          go_wp2
          clear hx
          go_loop [3, 24] (fun r i => ∃ i' r' : Nat, i' ≤ 8 ∧ i = .int .i64 i' ∧ r = .int .u32 r' ∧ r' < 4294967296 ∧ Hid (r' = bitsN i' s)) (fun _ i => 8 - (intOf i).toNat)
          case atStart => exact ⟨0, s, by omega, rfl, rfl, hlx, Lib.hid rfl⟩
          case round =>
            obtain ⟨i', z, hi, rfl, rfl, hz, hZ⟩ := hrel
            by_cases hlt3 : i' < 8
            · have hl2 := stp_lt z hz
              have HQ2 : Hid (stp z = bitsN (i' + 1) s) := Lib.hid (by rw [hZ.out]; rfl)
              obtain ⟨b1, h1⟩ : ∃ b1 : Int, bits .and .u32 (z : Int) 1 = b1 := ⟨_, rfl⟩
              obtain ⟨b2, h2⟩ : ∃ b2 : Int, IntKind.u32.wrap (-b1) = b2 := ⟨_, rfl⟩
              obtain ⟨b3, h3⟩ : ∃ b3 : Int, bits .and .u32 3988292384 b2 = b3 := ⟨_, rfl⟩
              obtain ⟨b4, h4⟩ : ∃ b4 : Int, bits .xor .u32 ((z : Int) / 2) b3 = b4 := ⟨_, rfl⟩
              have hcb := Lib.hid (code_bit z hz b1 h1 b2 h2 b3 h3 b4 h4)
              go_wp2
              go_round
              case rel => exact ⟨i' + 1, stp z, by omega, by go_num, val_int hcb.out, hl2, HQ2⟩
              case measure => simp [intOf]; omega
            · obtain rfl : i' = 8 := by omega
              go_wp2
              go_round
              case rel => exact ⟨j + 1, z, by omega, by go_num, rfl, hz, Lib.hid (by
                rw [hZ.out]
                have e : (ys.take (j + 1)) = ys.take j ++ [ys.getD j 0] := by
                  rw [List.take_add_one]; simp [List.getD, List.getElem?_eq_getElem (show j < ys.length by rw [hyl.out]; omega)]
                rw [e, ← List.append_assoc, crcL_snoc, ← hP.out, HV.out]; unfold byt; rw [Int.toNat_natCast, HS.out])⟩
              case measure => simp [intOf]; omega
        · clear hE
          obtain rfl : j = m := by omega
          go_wp2
          go_round
          case rel => exact ⟨k + 1, p, by omega, by go_num, rfl, hp, Lib.hid (by rw [hP.out, cat_step _ _ (by rw [hl.out]; omega), HQ.out, List.take_of_length_le (l := ys) (by rw [hyl.out]; omega)])⟩
          case measure => simp [intOf]; omega
    · clear h
      obtain rfl : k = n := by omega
      have hx := code_not r hr
      go_wp2
      go_ret
      refine ⟨ret_int ?_, rfl⟩
      have e : IntKind.u32.max = 4294967295 := by decide
      rw [e, hx]
      unfold csum
      rw [hR.out, List.take_of_length_le (by rw [hl.out]; omega)]

end Go.Proofs.Ytobogkilkmnpmaa
