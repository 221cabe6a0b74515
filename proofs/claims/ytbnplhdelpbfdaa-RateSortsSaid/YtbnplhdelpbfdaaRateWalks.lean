/- The contracts of package rate's order, of the document's order, and of what of package math they ask: each call returns, for every word, and leaves the world as it was. -/
import Derived.Test.YtbnplhdelpbfdaaChecked
import Derived.Test.YtbnplhdelpbfdaaFlt
import Derived.WalkKit
import Derived.WalkLawsBesides
import Derived.Lib.Hide
import Derived.Deep.Cut
namespace Go.Proofs.Ytbnplhdelpbfdaa
open Go.RowKit
open Flt (nan key lessB cmpI S)

theorem bits_run (a : Nat) (w : World) : (callFunc 16 #[.float .f64 a]).run Try.prog w = .ok (.value (.int .u64 a)) w := by kernel_rfl
theorem frombits_run (a : Nat) (w : World) : (callFunc 20 #[.int .u64 (a : Int)]).run Try.prog w = .ok (.value (.float .f64 a)) w := by kernel_rfl

theorem ret_bool {a b : Bool} (h : a = b) : Ending.returned (.bool a) = .returned (.bool b) := by rw [h]
theorem ret_int {k : IntKind} {a b : Int} (h : a = b) : Ending.returned (.int k a) = .returned (.int k b) := by rw [h]

theorem nan_test (a : Nat) : (FloatKind.f64.format.order a a != some .eq) = decide (nan a) := by
  have := Flt.self_eq a
  show (Ieee.double.order a a != some .eq) = _
  rw [bne, this]; simp

theorem isNaN_any (a : Nat) (w : World) :
    Calls Try.prog 22 #[.float .f64 a] w fun e w' => e = .returned (.bool (decide (nan a))) ∧ w = w' := by
  have H := Lib.hid (nan_test a)
  go_enter Try.func22, Try.ntmps22
  go_wp2
  go_ret
  exact ⟨ret_bool H.out, rfl⟩

theorem signbit_any (a : Nat) (w : World) (wa : a < 18446744073709551616) :
    Calls Try.prog 23 #[.float .f64 a] w fun e w' => e = .returned (.bool (decide (S ≤ a))) ∧ w = w' := by
  have hb := bits_run
  go_enter Try.func23, Try.ntmps23
  go_wp2
  go_ret
  exact ⟨ret_bool (by unfold wrap64 S; rw [decide_eq_decide]; omega), rfl⟩

/- the document's key, its great numerals behind names -/
def bigB (a : Nat) : Bool := decide (S ≤ a)
def keyHi (a : Nat) : Int := ((18446744073709551615 - a : Nat) : Int)
def keyLo (a : Nat) : Int := ((a + S : Nat) : Int)
theorem ge_dec (a : Nat) : decide ((9223372036854775808 : Int) ≤ (a : Int)) = bigB a := by unfold bigB S; rw [decide_eq_decide]; omega
theorem hi_end (a : Nat) (wa : a < 18446744073709551616) (hn : ¬ nan a) (hs : S ≤ a) :
    IntKind.u64.wrap (1 + IntKind.u64.wrap (18446744073709551615 - (a : Int))) = (key a : Int) := by
  have hk : key a = 1 + (18446744073709551615 - a) := by unfold key; simp [hn, hs]
  unfold S at hs
  rw [hk, IntWalk.u64_in (18446744073709551615 - (a : Int)) (by omega), IntWalk.u64_in _ (by omega)]
  omega
theorem or_63 (a : Nat) (wa : a < S) : bits BinOp.or IntKind.u64 a 9223372036854775808 = ((a + S : Nat) : Int) := by
  have wa' := wa
  unfold S at wa'
  show IntKind.u64.wrap ((BitVec.ofInt 64 (a : Int) ||| BitVec.ofInt 64 (9223372036854775808 : Int)).toNat : Int) = _
  have e1 : BitVec.ofInt 64 (a : Int) = BitVec.ofNat 64 a := by rw [BitVec.ofInt_natCast]
  have e2 : BitVec.ofInt 64 (9223372036854775808 : Int) = BitVec.ofNat 64 (2 ^ 63) := by decide +kernel
  rw [e1, e2]
  have e3 : (BitVec.ofNat 64 a ||| BitVec.ofNat 64 (2 ^ 63)).toNat = a + S := by
    rw [BitVec.toNat_or, BitVec.toNat_ofNat, BitVec.toNat_ofNat, Nat.mod_eq_of_lt (by omega), Nat.mod_eq_of_lt (by omega)]
    have h := Nat.two_pow_add_eq_or_of_lt (i := 63) (b := a) (by omega) 1
    rw [Nat.mul_one] at h
    rw [Nat.or_comm, ← h]
    unfold S; omega
  rw [e3]
  exact IntWalk.u64_in _ (by unfold S; omega)
theorem lo_end (a : Nat) (hn : ¬ nan a) (hs : ¬ S ≤ a) :
    IntKind.u64.wrap (1 + bits BinOp.or IntKind.u64 a 9223372036854775808) = (key a : Int) := by
  have hk : key a = 1 + (a + S) := by unfold key; simp [hn, hs]
  rw [or_63 a (by omega), hk]
  unfold nan Flt.I at hn
  unfold S at *
  rw [IntWalk.u64_in _ (by omega)]
  omega
theorem key_any (a : Nat) (w : World) (wa : a < 18446744073709551616) :
    Calls Try.prog 19 #[.float .f64 a] w fun e w' => e = .returned (.int .u64 (key a)) ∧ w = w' := by
  have hb := bits_run
  have ht := nan_test a
  by_cases hn : nan a
  · have ht1 : (FloatKind.f64.format.order a a != some .eq) = true := by rw [ht]; simp [hn]
    have hk := Lib.hid (show key a = 0 by unfold key; simp [hn])
    clear ht
    go_enter Try.func19, Try.ntmps19
    go_wp2
    go_ret
    exact ⟨ret_int (by rw [hk.out]; rfl), rfl⟩
  · have ht1 : (FloatKind.f64.format.order a a != some .eq) = false := by rw [ht]; simp [hn]
    clear ht
    by_cases hs : S ≤ a
    · have hge : decide ((9223372036854775808 : Int) ≤ (a : Int)) = true := by rw [ge_dec]; simp [bigB, hs]
      have E := Lib.hid (hi_end a wa hn hs)
      clear wa hs
      go_enter Try.func19, Try.ntmps19
      go_wp2
      go_ret
      exact ⟨ret_int E.out, rfl⟩
    · have hge : decide ((9223372036854775808 : Int) ≤ (a : Int)) = false := by rw [ge_dec]; simp [bigB, hs]
      have E := Lib.hid (lo_end a hn hs)
      clear wa hs
      go_enter Try.func19, Try.ntmps19
      go_wp2
      go_ret
      exact ⟨ret_int E.out, rfl⟩

theorem eq0 (a : Nat) (ha : ¬ nan a) : (FloatKind.f64.format.order a 0 == some .eq) = decide (Flt.sr a = 0) := by
  have h := Flt.eq_some (a := a) (b := 0) ha (by decide +kernel)
  have h0 : Flt.sr 0 = 0 := by decide +kernel
  rw [h0] at h
  exact h

set_option maxRecDepth 100000 in
theorem less_any (a b : Nat) (w : World) (wa : a < 18446744073709551616) (wb : b < 18446744073709551616) :
    Calls Try.prog 17 #[.float .f64 a, .float .f64 b] w fun e w' => e = .returned (.bool (lessB a b)) ∧ w = w' := by
  by_cases ha : nan a
  · have E := Lib.hid (Flt.less_nan (a := a) (b := b) (.inl ha))
    by_cases hb : nan b
    all_goals
      clear wa wb
      go_enter Try.func17, Try.ntmps17
      go_wp2_with (go_at_call 22; refine (isNaN_any _ _).mono ?_; rintro e w' ⟨rfl, rfl⟩)
      go_ret
      exact ⟨ret_bool (by rw [E.out]; simp [ha, hb]), rfl⟩
  · by_cases hb : nan b
    · have E := Lib.hid (Flt.less_nan (a := a) (b := b) (.inr hb))
      clear wa wb
      go_enter Try.func17, Try.ntmps17
      go_wp2_with (go_at_call 22; refine (isNaN_any _ _).mono ?_; rintro e w' ⟨rfl, rfl⟩)
      go_ret
      exact ⟨ret_bool (by rw [E.out]; simp [ha, hb]), rfl⟩
    · have h1 := eq0 a ha
      have h2 := eq0 b hb
      by_cases c1 : Flt.sr a = 0
      · by_cases c2 : Flt.sr b = 0
        · have E := Lib.hid (Flt.less_zero wa wb ha hb c1 c2)
          have z1 : (FloatKind.f64.format.order a 0 == some .eq) = true := by rw [h1]; simp [c1]
          have z2 : (FloatKind.f64.format.order b 0 == some .eq) = true := by rw [h2]; simp [c2]
          have Wa := Lib.hid wa
          have Wb := Lib.hid wb
          clear wa wb h1 h2 c1 c2
          go_enter Try.func17, Try.ntmps17
          go_wp2_with (first | (go_at_call 22; refine (isNaN_any _ _).mono ?_; rintro e w' ⟨rfl, rfl⟩) | (go_at_call 23; refine (signbit_any _ _ (by first | exact Wa.out | exact Wb.out)).mono ?_; rintro e w' ⟨rfl, rfl⟩))
          all_goals
            go_ret
            exact ⟨ret_bool (by rw [E.out]; simp [*]), rfl⟩
        · have E := Lib.hid (Flt.less_else wa wb ha hb (by omega))
          have G := Lib.hid (Flt.lt_some ha hb)
          have z1 : (FloatKind.f64.format.order a 0 == some .eq) = true := by rw [h1]; simp [c1]
          have z2 : (FloatKind.f64.format.order b 0 == some .eq) = false := by rw [h2]; simp [c2]
          clear wa wb h1 h2 c1 c2
          go_enter Try.func17, Try.ntmps17
          go_wp2_with (go_at_call 22; refine (isNaN_any _ _).mono ?_; rintro e w' ⟨rfl, rfl⟩)
          go_ret
          exact ⟨ret_bool (by rw [E.out, ← G.out]; rfl), rfl⟩
      · have E := Lib.hid (Flt.less_else wa wb ha hb (by omega))
        have G := Lib.hid (Flt.lt_some ha hb)
        have z1 : (FloatKind.f64.format.order a 0 == some .eq) = false := by rw [h1]; simp [c1]
        clear wa wb h1 h2 c1
        go_enter Try.func17, Try.ntmps17
        go_wp2_with (go_at_call 22; refine (isNaN_any _ _).mono ?_; rintro e w' ⟨rfl, rfl⟩)
        go_ret
        exact ⟨ret_bool (by rw [E.out, ← G.out]; rfl), rfl⟩

set_option maxRecDepth 100000 in
theorem compare_any (a b : Nat) (w : World) (wa : a < 18446744073709551616) (wb : b < 18446744073709551616) :
    Calls Try.prog 12 #[.float .f64 a, .float .f64 b] w fun e w' => e = .returned (.int .i64 (cmpI a b)) ∧ w = w' := by
  have h1 := less_any a b w wa wb
  have h2 := less_any b a w wb wa
  have H1 := Lib.hid h1
  have H2 := Lib.hid h2
  clear h1 h2 wa wb
  by_cases c1 : key a < key b
  · have b1 : lessB a b = true := by simp [lessB, c1]
    have E := Lib.hid (show cmpI a b = -1 by simp [cmpI, c1])
    clear c1
    go_enter Try.func12, Try.ntmps12
    go_wp2_with fail
    refine H1.out.mono ?_
    rintro e w' ⟨rfl, rfl⟩
    go_wp2_with fail
    go_ret
    exact ⟨ret_int E.out.symm, rfl⟩
  · have b1 : lessB a b = false := by simp [lessB, c1]
    by_cases c2 : key b < key a
    · have b2 : lessB b a = true := by simp [lessB, c2]
      have E := Lib.hid (show cmpI a b = 1 by simp [cmpI, c1, c2])
      clear c1 c2
      go_enter Try.func12, Try.ntmps12
      go_wp2_with fail
      refine H1.out.mono ?_
      rintro e w' ⟨rfl, rfl⟩
      go_wp2_with fail
      refine H2.out.mono ?_
      rintro e w' ⟨rfl, rfl⟩
      go_wp2_with fail
      go_ret
      exact ⟨ret_int E.out.symm, rfl⟩
    · have b2 : lessB b a = false := by simp [lessB, c2]
      have E := Lib.hid (show cmpI a b = 0 by simp [cmpI, c1, c2])
      clear c1 c2
      go_enter Try.func12, Try.ntmps12
      go_wp2_with fail
      refine H1.out.mono ?_
      rintro e w' ⟨rfl, rfl⟩
      go_wp2_with fail
      refine H2.out.mono ?_
      rintro e w' ⟨rfl, rfl⟩
      go_wp2_with fail
      go_ret
      exact ⟨ret_int E.out.symm, rfl⟩

theorem refCompare_any (a b : Nat) (w : World) (wa : a < 18446744073709551616) (wb : b < 18446744073709551616) :
    Calls Try.prog 10 #[.float .f64 a, .float .f64 b] w fun e w' => e = .returned (.int .i64 (cmpI a b)) ∧ w = w' := by
  have Wa := Lib.hid wa
  have Wb := Lib.hid wb
  clear wa wb
  by_cases c1 : key a < key b
  · have E := Lib.hid (show cmpI a b = -1 by simp [cmpI, c1])
    go_enter Try.func10, Try.ntmps10
    go_wp2_with (go_at_call 19; refine (key_any _ _ (by first | exact Wa.out | exact Wb.out)).mono ?_; rintro e w' ⟨rfl, rfl⟩)
    go_ret
    exact ⟨ret_int E.out.symm, rfl⟩
  · by_cases c2 : key b < key a
    · have E := Lib.hid (show cmpI a b = 1 by simp [cmpI, c1, c2])
      go_enter Try.func10, Try.ntmps10
      go_wp2_with (go_at_call 19; refine (key_any _ _ (by first | exact Wa.out | exact Wb.out)).mono ?_; rintro e w' ⟨rfl, rfl⟩)
      go_ret
      exact ⟨ret_int E.out.symm, rfl⟩
    · have E := Lib.hid (show cmpI a b = 0 by simp [cmpI, c1, c2])
      go_enter Try.func10, Try.ntmps10
      go_wp2_with (go_at_call 19; refine (key_any _ _ (by first | exact Wa.out | exact Wb.out)).mono ?_; rintro e w' ⟨rfl, rfl⟩)
      go_ret
      exact ⟨ret_int E.out.symm, rfl⟩
end Go.Proofs.Ytbnplhdelpbfdaa
