/-
  The code's put16, put32: numbers laid behind bytes.
-/
import Derived.Test.YtgbbfmpofmeadaaFileMath
import Derived.IntWalk
namespace Go.Proofs.Ytgbbfmpofmeadaa
open Go.RowKit
set_option linter.unusedVariables false

/-- a number's two lowest bytes, the greater one first -/
def lo2 (k : Nat) : List Int := [((k / 256 % 256 : Nat) : Int), ((k % 256 : Nat) : Int)]
theorem lo2_be2 {k : Nat} (h : k ≤ 65535) : lo2 k = be2 k := by
  unfold lo2 be2
  rw [Nat.mod_eq_of_lt (show k / 256 < 256 by omega)]
theorem lo2_be4 {c : Nat} (h : c < 4294967296) : lo2 (c / 65536) ++ lo2 c = be4 c := by
  unfold lo2 be4
  have e1 : c / 65536 / 256 % 256 = c / 16777216 := by omega
  rw [e1]
  rfl
/-- a row of bytes of the call's own is answered -/
def OwnU8 (base n : Nat) (l : List Int) (e : Ending) (w' : World) : Prop := ∃ v, e = .returned v ∧ w'.ownsRow base 5 1 v n (l.map (.int .u8))

set_option maxHeartbeats 800000 in
theorem put16_any (base : Nat) (w : World) (v : Value) (n : Nat) (xs : List Int) (hown : w.ownsRow base 5 1 v n (xs.map (.int .u8))) (k : Nat) (hk : k < 4294967296) (hn : n ≤ 16777216) (hbase : base ≤ w.heap.size) :
    Calls Try.prog 18 #[v, .int .i64 k] w fun e w' => OwnU8 base (n + 2) (xs ++ lo2 k) e w' ∧ Below base w w' := by
  obtain ⟨v2, w2, hrun0, ho2, hg2, _⟩ := run_append_lits (P := Try.prog) .u8 w base 41 5 1 (by omega) Try.underlying41 info_u8 _ n 2 _ (lo2 k) _ rfl rfl hown hn (by omega) hbase
  have HO := Lib.hid ho2
  have HB := Lib.hid ((Below.refl base w).grown hg2 hbase (fun q hq => (hown.lt q hq).1))
  obtain ⟨q1, hq1⟩ : ∃ q, k / 256 % 256 = q := ⟨_, rfl⟩
  obtain ⟨q2, hq2⟩ : ∃ q, k % 256 = q := ⟨_, rfl⟩
  have hrun : Sem.run Try.prog (Builtin.append_ #[41, 41] 41 #[v, .slice (some ⟨w.heap.size, 0, none⟩) 2 2]) (w.alloc (.cells #[.int .u8 (q1 : Nat), .int .u8 (q2 : Nat)] 5)) = .ok v2 w2 := by rw [← hq1, ← hq2]; exact hrun0
  have t1 : (k : Int) / 256 % 256 = (q1 : Int) := by omega
  have t2 : (k : Int) % 256 = (q2 : Int) := by omega
  have t3 : IntKind.u8.wrap ((k : Int) / 256) = (q1 : Int) := by rw [IntKind.wrap_u8']; omega
  have t4 : IntKind.u8.wrap (k : Int) = (q2 : Int) := by rw [IntKind.wrap_u8']; omega
  clear hrun0 ho2 hg2 hown hq1 hq2
  go_enter Try.func18, Try.ntmps18
  go_wp2_with (at_builtin; refine wpList_append_at (by rfl) _ _ _ (by rfl) _ _ (by rfl) (by rfl) hrun ?_)
  go_ret
  exact ⟨⟨_, rfl, HO.out⟩, HB.out⟩

set_option maxHeartbeats 800000 in
theorem put32_any (base : Nat) (w : World) (v : Value) (n : Nat) (xs : List Int) (hown : w.ownsRow base 5 1 v n (xs.map (.int .u8))) (c : Nat) (hc : c < 4294967296) (hn : n ≤ 16777210) (hbase : base ≤ w.heap.size) :
    Calls Try.prog 20 #[v, .int .u32 c] w fun e w' => OwnU8 base (n + 4) (xs ++ be4 c) e w' ∧ Below base w w' := by
  have p1 := put16_any base w v n xs hown (c / 65536) (by omega) (by omega) hbase
  have p2 := fun v' w' (h : w'.ownsRow base 5 1 v' (n + 2) ((xs ++ lo2 (c / 65536)).map (.int .u8))) (hb : base ≤ w'.heap.size) => put16_any base w' v' (n + 2) _ h c hc (by omega) hb
  rw [List.append_assoc, lo2_be4 hc] at p2
  obtain ⟨q, hq⟩ : ∃ q, c / 65536 = q := ⟨_, rfl⟩
  rw [hq] at p1 p2
  have t1 : (c : Int) / 65536 = (q : Int) := by omega
  have t2 : IntKind.i64.wrap (q : Int) = (q : Int) := IntWalk.i64_in _ (by omega)
  have t3 : IntKind.i64.wrap (c : Int) = (c : Int) := IntWalk.i64_in _ (by omega)
  have hbs := Lib.hid hbase
  clear hq hown
  go_enter Try.func20, Try.ntmps20
  go_wp2_with fail
  refine p1.mono ?_
  rintro e w1 ⟨⟨v1, rfl, ho1⟩, hb1⟩
  have P2 := p2 v1 w1 ho1 (Nat.le_trans hbs.out hb1.size)
  have HB1 := Lib.hid hb1
  clear p1 p2 ho1 hb1
  go_wp2_with fail
  refine P2.mono ?_
  rintro e w2 ⟨⟨v2, rfl, ho2⟩, hb2⟩
  have HO := Lib.hid ho2
  have HB := Lib.hid (HB1.out.trans hb2)
  clear P2 ho2 hb2
  go_wp2_with fail
  go_ret
  exact ⟨⟨_, rfl, HO.out⟩, HB.out⟩

end Go.Proofs.Ytgbbfmpofmeadaa
