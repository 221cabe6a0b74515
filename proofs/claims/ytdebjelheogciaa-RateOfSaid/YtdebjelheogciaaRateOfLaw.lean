/- The walk of the law on a fee's rate for a size, and on plain rates. -/
import Derived.Test.YtdebjelheogciaaRateGrowsLaw
namespace Go.Proofs.Ytdebjelheogciaa
open Go.RowKit
open Flt (nan key lessB cmpI S B I)

/-! ### plain facts -/
def plainB (a : Nat) : Bool := !decide (nan a) && !decide (a % S = I) && (!decide (Flt.sr a = 0) || !decide (S ≤ a))
def nz (w : World) : Nat := Question.cut (.nanBits .f64 0 0) (w.tape w.drawn (.nanBits .f64 0 0))

theorem nz_cut (t : Nat) : nan (Question.cut (.nanBits .f64 0 0) t) ∧ Question.cut (.nanBits .f64 0 0) t < 18446744073709551616 := by
  have e : Question.cut (.nanBits .f64 0 0) t = (t % 2) * 9223372036854775808 + 9218868437227405312 + 1 + (t / 2) % 4503599627370495 := rfl
  rw [e]
  unfold nan S I
  have h1 : t % 2 = 0 ∨ t % 2 = 1 := by omega
  have h2 := Nat.mod_lt (t / 2) (show 4503599627370495 > 0 by omega)
  generalize t / 2 % 4503599627370495 = x at *
  rcases h1 with h | h <;> rw [h] <;> constructor <;> omega
theorem nz_nan (w : World) : nan (nz w) := (nz_cut _).1
theorem nz_lt (w : World) : nz w < 18446744073709551616 := (nz_cut _).2

theorem zz_run (w : World) : (binOp .quo 22 (.float .f64 0) (.float .f64 0)).run Try.prog w = .ok (.float .f64 (nz w)) w.drew := by
  have h : FloatKind.f64.format.div 0 0 = none := by decide +kernel
  simp only [binOp, Op.floatArith, h]
  simp [Question.forced, nz]

theorem by_zero {f : Nat} (h0 : 1 ≤ f) (h1 : f < 18446744073709551616) : Ieee.double.div (Rnd.fl f) 0 = some I := by
  have g := Rnd.fl_ge h0
  have l := Rnd.fl_le (n := f) (by omega)
  have lim : 1087 * B < I := by decide +kernel
  have lim2 : I < S := by decide +kernel
  have hB1 : B ≤ 1023 * B := by decide +kernel
  have nb := Rnd.mant_norm (r := Rnd.fl f) (by omega)
  have bp := Flt.Bpos
  have r0 : Ieee.double.read 0 = .number false 0 (-1074) := by decide +kernel
  unfold Ieee.Format.div
  rw [Flt.read_fin (a := Rnd.fl f) (by rw [Rnd.small_mod (by omega)]; omega), r0, Rnd.small_mod (show Rnd.fl f < S by omega), Rnd.small_neg (show Rnd.fl f < S by omega)]
  have n0 : Flt.mant (Rnd.fl f) ≠ 0 := by omega
  simp only [Ieee.Datum.quotient, n0, if_true, if_false, Bool.xor_self, Option.map_some]
  decide +kernel

theorem foi_zero : floatOfInt .f64 0 = 0 := by decide +kernel

/-! ### the document's rate -/
theorem refOf_none (f z : Int) (w : World) (h : z < 0 ∨ (z = 0 ∧ f = 0)) :
    Calls Try.prog 14 #[.int .u64 f, .int .i64 z] w fun e w' => e = .returned (.float .f64 (nz w)) ∧ w.drew = w' := by
  have hz := zz_run
  rcases h with h | ⟨rfl, rfl⟩
  · go_enter Try.func14, Try.ntmps14
    go_wp2
    go_ret
    exact ⟨rfl, rfl⟩
  · go_enter Try.func14, Try.ntmps14
    go_wp2
    go_ret
    exact ⟨rfl, rfl⟩
theorem refOf_zero (f : Int) (w : World) (h1 : 1 ≤ f ∧ f < 18446744073709551616) :
    Calls Try.prog 14 #[.int .u64 f, .int .i64 0] w fun e w' => e = .returned (.float .f64 I) ∧ w = w' := by
  obtain ⟨k, rfl⟩ := Int.eq_ofNat_of_zero_le (show 0 ≤ f by omega)
  have h : floatBits .quo .f64 (floatOfInt .f64 (k : Int)) (floatOfInt .f64 0) = some I := by
    rw [foi, foi_zero]; exact by_zero (by omega) (by omega)
  have hq := fun w => run_float_arith (P := Try.prog) w .quo 22 .f64 _ _ _ h
  have t1 : ((k : Int) == 0) = false := by rw [beq_eq_false_iff_ne]; omega
  clear h h1
  go_enter Try.func14, Try.ntmps14
  go_wp2
  go_ret
  exact ⟨rfl, rfl⟩
theorem refOf_pos (f z : Int) (w : World) (h1 : 0 ≤ f ∧ f < 18446744073709551616) (h2 : 1 ≤ z ∧ z < 18446744073709551616) :
    Calls Try.prog 14 #[.int .u64 f, .int .i64 z] w fun e w' => e = .returned (.float .f64 (Rnd.rate f.toNat z.toNat)) ∧ w = w' := by
  obtain ⟨k, rfl⟩ := Int.eq_ofNat_of_zero_le h1.1
  obtain ⟨l, rfl⟩ := Int.eq_ofNat_of_zero_le (show 0 ≤ z by omega)
  have h : floatBits .quo .f64 (floatOfInt .f64 (k : Int)) (floatOfInt .f64 (l : Int)) = some (Rnd.rate k l) := by
    rw [foi, foi]; exact Rnd.rate_div (by omega) (by omega) (by omega)
  have hq := fun w => run_float_arith (P := Try.prog) w .quo 22 .f64 _ _ _ h
  have t1 : ((l : Int) == 0) = false := by rw [beq_eq_false_iff_ne]; omega
  have t2 : 0 ≤ (l : Int) := by omega
  rw [Int.toNat_natCast, Int.toNat_natCast]
  clear h h1 h2
  by_cases hk : k = 0
  · subst hk
    have hq0 : ∀ w, (binOp .quo 22 (.float .f64 (floatOfInt .f64 0)) (.float .f64 (floatOfInt .f64 (l : Int)))).run Try.prog w = .ok (.float .f64 (Rnd.rate 0 l)) w := hq
    clear hq
    rw [Int.natCast_zero]
    go_enter Try.func14, Try.ntmps14
    go_wp2
    go_ret
    exact ⟨rfl, rfl⟩
  · have t3 : ((k : Int) == 0) = false := by rw [beq_eq_false_iff_ne]; omega
    clear hk
    go_enter Try.func14, Try.ntmps14
    go_wp2
    go_ret
    exact ⟨rfl, rfl⟩

theorem same_eq (a : Nat) (w : World) :
    Calls Try.prog 13 #[.float .f64 a, .float .f64 a] w fun e w' => e = .returned (.bool true) ∧ w = w' := by
  have hb := bits_run
  go_enter Try.func13, Try.ntmps13
  go_wp2
  go_ret
  exact ⟨rfl, rfl⟩
theorem same_nan (a b : Nat) (w : World) (ha : nan a) (hn : nan b) :
    Calls Try.prog 13 #[.float .f64 a, .float .f64 b] w fun e w' => e = .returned (.bool true) ∧ w = w' := by
  have hb := bits_run
  have t1 : (FloatKind.f64.format.order a a != some .eq) = true := by rw [nan_test]; simp [ha]
  have t2 : (FloatKind.f64.format.order b b != some .eq) = true := by rw [nan_test]; simp [hn]
  by_cases hab : a = b
  · subst hab
    exact same_eq a w
  · have t3 : ((a : Int) == b) = false := by rw [beq_eq_false_iff_ne]; omega
    clear ha hn hab
    go_enter Try.func13, Try.ntmps13
    go_wp2
    go_ret
    exact ⟨rfl, rfl⟩

/-! ### plain rates -/
theorem andNot_63 (a : Nat) (wa : a < 18446744073709551616) : bits BinOp.andNot IntKind.u64 a 9223372036854775808 = ((a % S : Nat) : Int) := by
  show IntKind.u64.wrap ((BitVec.ofInt 64 (a : Int) &&& ~~~ BitVec.ofInt 64 (9223372036854775808 : Int)).toNat : Int) = _
  have e1 : BitVec.ofInt 64 (a : Int) = BitVec.ofNat 64 a := by rw [BitVec.ofInt_natCast]
  have e2 : ~~~ BitVec.ofInt 64 (9223372036854775808 : Int) = BitVec.ofNat 64 (2 ^ 63 - 1) := by decide +kernel
  rw [e1, e2]
  have e3 : (BitVec.ofNat 64 a &&& BitVec.ofNat 64 (2 ^ 63 - 1)).toNat = a % S := by
    rw [BitVec.toNat_and, BitVec.toNat_ofNat, BitVec.toNat_ofNat, Nat.mod_eq_of_lt (show a < 2 ^ 64 by omega), Nat.mod_eq_of_lt (show 2 ^ 63 - 1 < 2 ^ 64 by omega), Nat.and_two_pow_sub_one_eq_mod]
    rfl
  rw [e3]
  exact IntWalk.u64_in _ (by unfold S; omega)

theorem abs_any (a : Nat) (w : World) (wa : a < 18446744073709551616) :
    Calls Try.prog 30 #[.float .f64 a] w fun e w' => e = .returned (.float .f64 (a % S)) ∧ w = w' := by
  have h1 := bits_run
  have h2 := frombits_run
  have E := andNot_63 a wa
  generalize a % S = r at *
  clear wa
  go_enter Try.func30, Try.ntmps30
  go_wp2
  go_ret
  exact ⟨rfl, rfl⟩

theorem gt_max (r : Nat) (h : ¬ nan r) (hr : r < S) : (FloatKind.f64.format.order r 9218868437227405311 == some .gt) = decide (r = I) := by
  have e := Flt.gt_some (a := r) (b := 9218868437227405311) h (by decide +kernel)
  refine Eq.trans e ?_
  rw [Flt.sr_eq (a := r) (by unfold S at hr; omega), if_neg (by omega)]
  have e2 : Flt.sr 9218868437227405311 = 9218868437227405311 := by decide +kernel
  rw [e2, decide_eq_decide]
  unfold nan at h
  rw [Nat.mod_eq_of_lt hr] at h
  unfold I at *
  omega

theorem isInf_any (a : Nat) (w : World) (wa : a < 18446744073709551616) (ha : ¬ nan a) :
    Calls Try.prog 26 #[.float .f64 a, .int .i64 0] w fun e w' => e = .returned (.bool (decide (a % S = I))) ∧ w = w' := by
  have hr : a % S < S := Nat.mod_lt _ (by unfold S; omega)
  have hn : ¬ nan (a % S) := by unfold nan at *; rw [Nat.mod_mod]; exact ha
  have G := Lib.hid (gt_max (a % S) hn hr)
  have C := Lib.hid (abs_any a w wa)
  clear hr hn wa ha
  go_enter Try.func26, Try.ntmps26
  go_wp2_with fail
  refine C.out.mono ?_
  rintro e w' ⟨rfl, rfl⟩
  go_wp2_with fail
  go_ret
  exact ⟨ret_bool G.out, rfl⟩

set_option maxRecDepth 100000 in
theorem plain_any (a : Nat) (w : World) (wa : a < 18446744073709551616) :
    Calls Try.prog 15 #[.float .f64 a] w fun e w' => e = .returned (.bool (plainB a)) ∧ w = w' := by
  by_cases ha : nan a
  · have E := Lib.hid (show plainB a = false by simp [plainB, ha])
    clear wa
    go_enter Try.func15, Try.ntmps15
    go_wp2_with (go_at_call 25; refine (isNaN_any _ _).mono ?_; rintro e w' ⟨rfl, rfl⟩)
    go_ret
    exact ⟨ret_bool E.out.symm, rfl⟩
  · by_cases hi : a % S = I
    · have E := Lib.hid (show plainB a = false by simp [plainB, hi])
      have C := Lib.hid (isInf_any a w wa ha)
      rw [hi] at C
      clear wa hi
      go_enter Try.func15, Try.ntmps15
      go_wp2_with (first | (go_at_call 25; refine (isNaN_any _ _).mono ?_; rintro e w' ⟨rfl, rfl⟩) | (go_at_call 26; refine C.out.mono ?_; rintro e w' ⟨rfl, rfl⟩))
      go_ret
      exact ⟨ret_bool E.out.symm, rfl⟩
    · have C := Lib.hid (isInf_any a w wa ha)
      have e0 : decide (a % S = I) = false := by simp [hi]
      rw [e0] at C
      have z := eq0 a ha
      by_cases c : Flt.sr a = 0
      · have z1 : (FloatKind.f64.format.order a 0 == some .eq) = true := by rw [z]; simp [c]
        have D := Lib.hid (signbit_any a w wa)
        have E := Lib.hid (show plainB a = !decide (S ≤ a) by simp [plainB, ha, hi, c])
        clear wa hi e0 z c
        go_enter Try.func15, Try.ntmps15
        go_wp2_with (first | (go_at_call 25; refine (isNaN_any _ _).mono ?_; rintro e w' ⟨rfl, rfl⟩) | (go_at_call 26; refine C.out.mono ?_; rintro e w' ⟨rfl, rfl⟩) | (go_at_call 12; refine D.out.mono ?_; rintro e w' ⟨rfl, rfl⟩))
        go_ret
        exact ⟨ret_bool (by rw [E.out]), rfl⟩
      · have z1 : (FloatKind.f64.format.order a 0 == some .eq) = false := by rw [z]; simp [c]
        have E := Lib.hid (show plainB a = true by simp [plainB, ha, hi, c])
        clear wa hi e0 z c
        go_enter Try.func15, Try.ntmps15
        go_wp2_with (first | (go_at_call 25; refine (isNaN_any _ _).mono ?_; rintro e w' ⟨rfl, rfl⟩) | (go_at_call 26; refine C.out.mono ?_; rintro e w' ⟨rfl, rfl⟩))
        go_ret
        exact ⟨ret_bool E.out.symm, rfl⟩

/-! ### the law -/
theorem wf_i64 {a : Int} (h : (Lit.int .i64 a).wf = true) : -9223372036854775808 ≤ a ∧ a < 9223372036854775808 := by
  simp [Lit.wf, IntKind.min, IntKind.max, IntKind.signed, IntKind.bits] at h; omega
theorem nan_nanBits : nan nanBits := by decide +kernel

/-- the three ways that a rate and the document's rate are made: one word, or both no numbers; of a size from 1 on it is plain -/
theorem plain_rate {f z : Nat} (h1 : f < 18446744073709551616) (h2 : 1 ≤ z) : plainB (Rnd.rate f z) = true := by
  have h := Rnd.rate_small h1 h2
  have lim2 : I < S := by decide +kernel
  have hn : ¬ nan (Rnd.rate f z) := Rnd.nan_small (Nat.le_of_lt h)
  have hm : Rnd.rate f z % S ≠ I := by rw [Nat.mod_eq_of_lt (by omega)]; omega
  have hs : ¬ S ≤ Rnd.rate f z := by omega
  simp [plainB, hn, hm, hs]

/-- what stands in the law's second statement, in each of the five ways of a word -/
inductive Way (x : Nat) : Prop where
  | nan (h : (FloatKind.f64.format.order x x != some .eq) = true) (e : plainB x = false)
  | high (h : (FloatKind.f64.format.order x x != some .eq) = false) (h2 : (FloatKind.f64.format.order x 9218868437227405311 == some .gt) = true) (e : plainB x = false)
  | low (h : (FloatKind.f64.format.order x x != some .eq) = false) (h2 : (FloatKind.f64.format.order x 9218868437227405311 == some .gt) = false) (h3 : (FloatKind.f64.format.order x 18442240474082181119 == some .lt) = true) (e : plainB x = false)
  | zero (h : (FloatKind.f64.format.order x x != some .eq) = false) (h2 : (FloatKind.f64.format.order x 9218868437227405311 == some .gt) = false) (h3 : (FloatKind.f64.format.order x 18442240474082181119 == some .lt) = false) (h4 : (FloatKind.f64.format.order x 0 == some .eq) = true) (e : plainB x = !decide (S ≤ x))
  | plain (h : (FloatKind.f64.format.order x x != some .eq) = false) (h2 : (FloatKind.f64.format.order x 9218868437227405311 == some .gt) = false) (h3 : (FloatKind.f64.format.order x 18442240474082181119 == some .lt) = false) (h4 : (FloatKind.f64.format.order x 0 == some .eq) = false) (e : plainB x = true)

theorem way (x : Nat) (wx : x < 18446744073709551616) : Way x := by
  have t := nan_test x
  by_cases hn : nan x
  · exact .nan (by rw [t]; simp [hn]) (by simp [plainB, hn])
  · have h : (FloatKind.f64.format.order x x != some .eq) = false := by rw [t]; simp [hn]
    have g := Flt.gt_some (a := x) (b := 9218868437227405311) hn (by decide +kernel)
    have l := Flt.lt_some (a := x) (b := 18442240474082181119) hn (by decide +kernel)
    have s1 : Flt.sr 9218868437227405311 = 9218868437227405311 := by decide +kernel
    have s2 : Flt.sr 18442240474082181119 = -9218868437227405311 := by decide +kernel
    rw [s1] at g
    rw [s2] at l
    have z := eq0 x hn
    have sx := Flt.sr_eq wx
    have hn' := hn
    unfold nan I S at hn'
    unfold S at sx
    by_cases hi : x % S = I
    · have e : plainB x = false := by simp [plainB, hi]
      unfold S I at hi
      by_cases hx : 9223372036854775808 ≤ x
      · rw [if_pos hx] at sx
        refine .low h (Eq.trans g ?_) (Eq.trans l ?_) e
        · rw [decide_eq_false_iff_not]; omega
        · rw [decide_eq_true_eq]; omega
      · rw [if_neg hx] at sx
        refine .high h (Eq.trans g ?_) e
        rw [decide_eq_true_eq]; omega
    · have hi' := hi
      unfold S I at hi'
      have h2 : (FloatKind.f64.format.order x 9218868437227405311 == some .gt) = false := by
        refine Eq.trans g ?_
        rw [decide_eq_false_iff_not]; split at sx <;> omega
      have h3 : (FloatKind.f64.format.order x 18442240474082181119 == some .lt) = false := by
        refine Eq.trans l ?_
        rw [decide_eq_false_iff_not]; split at sx <;> omega
      by_cases c : Flt.sr x = 0
      · exact .zero h h2 h3 (by rw [z]; simp [c]) (by simp [plainB, hn, hi, c])
      · exact .plain h h2 h3 (by rw [z]; simp [c]) (by simp [plainB, hn, hi, c])

set_option maxRecDepth 100000 in
theorem rateOf_walk (f z : Int) (x : Nat) (wf : (Lit.int .u64 f).wf = true) (wz : (Lit.int .i64 z).wf = true) (wx : (Lit.float .f64 x).wf = true) (w : World) :
    Calls Try.prog 4 #[.int .u64 f, .int .i64 z, .float .f64 x] w fun e w' => e = .returned (.bool true) ∧ Grown w w' := by
  have Wf := Lib.hid (wf_u64 wf)
  have Wz := Lib.hid (wf_i64 wz)
  have Sg := Lib.hid (fun w => signbit_any x w (wf_lt wx))
  have Pl := Lib.hid (fun w => plain_any x w (wf_lt wx))
  have ways := way x (wf_lt wx)
  clear wf wz wx
  by_cases hz : 1 ≤ z
  · have O1 := Lib.hid (fun w => rate_any f z w Wf.out (by have := Wz.out; omega))
    have O2 := Lib.hid (fun w => refOf_pos f z w Wf.out (by have := Wz.out; omega))
    have P2 := Lib.hid (fun w => plain_any (Rnd.rate f.toNat z.toNat) w (rate_lt (by have := Wf.out; omega) (by omega)))
    have e2 : plainB (Rnd.rate f.toNat z.toNat) = true := plain_rate (by have := Wf.out; omega) (by omega)
    generalize Rnd.rate f.toNat z.toNat = r at *
    have Sm := Lib.hid (same_eq r)
    clear Wf Wz
    cases ways
    all_goals
      go_enter Try.func4, Try.ntmps4
      go_wp2_with (first
        | (go_at_call 11; (with_reducible refine (O1.out _).mono ?_); rintro e w' ⟨rfl, rfl⟩)
        | (go_at_call 14; (with_reducible refine (O2.out _).mono ?_); rintro e w' ⟨rfl, rfl⟩)
        | (go_at_call 13; (with_reducible refine (Sm.out _).mono ?_); rintro e w' ⟨rfl, rfl⟩)
        | (go_at_call 12; (with_reducible refine (Sg.out _).mono ?_); rintro e w' ⟨rfl, rfl⟩)
        | (go_at_call 15; first | ((with_reducible refine (Pl.out _).mono ?_); rintro e w' ⟨rfl, rfl⟩) | ((with_reducible refine (P2.out _).mono ?_); rintro e w' ⟨rfl, rfl⟩))
        | (go_at_call 10; refine (awake_any _).mono ?_; rintro e w' ⟨rfl, rfl⟩))
      go_ret
      exact ⟨rfl, Grown.refl _⟩
  · by_cases h0 : z = 0 ∧ 1 ≤ f
    · obtain ⟨rfl, h1⟩ := h0
      have O1 := Lib.hid (fun w => of_zero f w (by omega))
      have O2 := Lib.hid (fun w => refOf_zero f w ⟨h1, by have := Wf.out; omega⟩)
      have Sm := Lib.hid (same_eq I)
      clear Wf Wz hz
      cases ways
      all_goals
        go_enter Try.func4, Try.ntmps4
        go_wp2_with (first
          | (go_at_call 11; (with_reducible refine (O1.out _).mono ?_); rintro e w' ⟨rfl, rfl⟩)
          | (go_at_call 14; (with_reducible refine (O2.out _).mono ?_); rintro e w' ⟨rfl, rfl⟩)
          | (go_at_call 13; refine (Sm.out _).mono ?_; rintro e w' ⟨rfl, rfl⟩)
          | (go_at_call 12; (with_reducible refine (Sg.out _).mono ?_); rintro e w' ⟨rfl, rfl⟩)
          | (go_at_call 15; (with_reducible refine (Pl.out _).mono ?_); rintro e w' ⟨rfl, rfl⟩)
          | (go_at_call 10; refine (awake_any _).mono ?_; rintro e w' ⟨rfl, rfl⟩))
        go_ret
        exact ⟨rfl, Grown.refl _⟩
    · have hn : z < 0 ∨ (z = 0 ∧ f = 0) := by have := Wf.out; omega
      have O1 := Lib.hid (fun w => of_none f z w hn)
      have O2 := Lib.hid (fun w => refOf_none f z w hn)
      have hz1 : z < 1 := by omega
      clear Wf Wz hz hn h0
      cases ways
      all_goals
        go_enter Try.func4, Try.ntmps4
        go_wp2_with (first
          | (go_at_call 11; (with_reducible refine (O1.out _).mono ?_); rintro e w' ⟨rfl, rfl⟩)
          | (go_at_call 14; (with_reducible refine (O2.out _).mono ?_); rintro e w' ⟨rfl, rfl⟩)
          | (go_at_call 13; refine (same_nan _ _ _ nan_nanBits (nz_nan _)).mono ?_; rintro e w' ⟨rfl, rfl⟩)
          | (go_at_call 12; (with_reducible refine (Sg.out _).mono ?_); rintro e w' ⟨rfl, rfl⟩)
          | (go_at_call 15; (with_reducible refine (Pl.out _).mono ?_); rintro e w' ⟨rfl, rfl⟩)
          | (go_at_call 10; refine (awake_any _).mono ?_; rintro e w' ⟨rfl, rfl⟩))
        go_ret
        exact ⟨rfl, (Grown.refl _).drew⟩
end Go.Proofs.Ytdebjelheogciaa
