/- The walk of the law that rates grow with their fees and fall with their sizes. -/
import Derived.Test.YtdebjelheogciaaRateLaws
import Derived.Test.YtdebjelheogciaaRnd
namespace Go.Proofs.Ytdebjelheogciaa
open Go.RowKit
open Flt (nan key lessB cmpI S)

theorem foi (k : Nat) : floatOfInt .f64 (k : Int) = Rnd.fl k := by
  unfold floatOfInt FloatKind.nearest FloatKind.encode
  have e : decide ((k : Int) < 0) = false := by rw [decide_eq_false_iff_not]; omega
  rw [e, Int.natAbs_natCast]
  exact Rnd.nearest_nat k

theorem rate_lt {f z : Nat} (h1 : f < 18446744073709551616) (h2 : 1 ≤ z) : Rnd.rate f z < 18446744073709551616 := by
  have := Rnd.rate_small h1 h2
  unfold Flt.I at this
  omega

/-- a rate of a size from 1 on -/
theorem rate_any (f z : Int) (w : World) (h1 : 0 ≤ f ∧ f < 18446744073709551616) (h2 : 1 ≤ z ∧ z < 18446744073709551616) :
    Calls Try.prog 11 #[.int .u64 f, .int .i64 z] w fun e w' => e = .returned (.float .f64 (Rnd.rate f.toNat z.toNat)) ∧ w = w' := by
  obtain ⟨k, rfl⟩ := Int.eq_ofNat_of_zero_le h1.1
  obtain ⟨l, rfl⟩ := Int.eq_ofNat_of_zero_le (show 0 ≤ z by omega)
  refine of_pos _ _ _ w (by omega) ?_
  rw [foi, foi, Int.toNat_natCast, Int.toNat_natCast]
  exact Rnd.rate_div (by omega) (by omega) (by omega)

theorem compare_le (a b : Nat) (w : World) (ha : a ≤ Flt.I) (hb : b ≤ Flt.I) (h : a ≤ b) :
    Calls Try.prog 8 #[.float .f64 a, .float .f64 b] w fun e w' => e = .returned (.int .i64 (cmpI a b)) ∧ cmpI a b ≤ 0 ∧ w = w' := by
  have k := Rnd.cmp_small ha hb h
  have l : Flt.I < 18446744073709551616 := by decide +kernel
  exact (compare_any a b w (by omega) (by omega)).mono fun e w' h => ⟨h.1, k, h.2⟩

theorem grows_le (x y s : Int) (h1 : 0 ≤ x ∧ x < 18446744073709551616) (h2 : 0 ≤ y ∧ y < 18446744073709551616) (h3 : x ≤ y) (h4 : 1 ≤ s) :
    Rnd.rate x.toNat s.toNat ≤ Flt.I ∧ Rnd.rate y.toNat s.toNat ≤ Flt.I ∧ Rnd.rate x.toNat s.toNat ≤ Rnd.rate y.toNat s.toNat :=
  ⟨Nat.le_of_lt (Rnd.rate_small (by omega) (by omega)), Nat.le_of_lt (Rnd.rate_small (by omega) (by omega)), Rnd.rate_grows (by omega) (by omega)⟩
theorem falls_le (x s t : Int) (h1 : 0 ≤ x ∧ x < 18446744073709551616) (h3 : s ≤ t) (h4 : 1 ≤ s) :
    Rnd.rate x.toNat t.toNat ≤ Flt.I ∧ Rnd.rate x.toNat s.toNat ≤ Flt.I ∧ Rnd.rate x.toNat t.toNat ≤ Rnd.rate x.toNat s.toNat :=
  ⟨Nat.le_of_lt (Rnd.rate_small (by omega) (by omega)), Nat.le_of_lt (Rnd.rate_small (by omega) (by omega)), Rnd.rate_falls (by omega) (by omega)⟩

theorem compare_grows (x y s : Int) (w : World) (h1 : 0 ≤ x ∧ x < 18446744073709551616) (h2 : 0 ≤ y ∧ y < 18446744073709551616) (h3 : x ≤ y) (h4 : 1 ≤ s) :
    Calls Try.prog 8 #[.float .f64 (Rnd.rate x.toNat s.toNat), .float .f64 (Rnd.rate y.toNat s.toNat)] w fun e w' => e = .returned (.int .i64 (cmpI (Rnd.rate x.toNat s.toNat) (Rnd.rate y.toNat s.toNat))) ∧ cmpI (Rnd.rate x.toNat s.toNat) (Rnd.rate y.toNat s.toNat) ≤ 0 ∧ w = w' := by
  obtain ⟨a, b, c⟩ := grows_le x y s h1 h2 h3 h4
  exact compare_le _ _ w a b c
theorem compare_falls (x s t : Int) (w : World) (h1 : 0 ≤ x ∧ x < 18446744073709551616) (h3 : s ≤ t) (h4 : 1 ≤ s) :
    Calls Try.prog 8 #[.float .f64 (Rnd.rate x.toNat t.toNat), .float .f64 (Rnd.rate x.toNat s.toNat)] w fun e w' => e = .returned (.int .i64 (cmpI (Rnd.rate x.toNat t.toNat) (Rnd.rate x.toNat s.toNat))) ∧ cmpI (Rnd.rate x.toNat t.toNat) (Rnd.rate x.toNat s.toNat) ≤ 0 ∧ w = w' := by
  obtain ⟨a, b, c⟩ := falls_le x s t h1 h3 h4
  exact compare_le _ _ w a b c

theorem wf_u64 {a : Int} (h : (Lit.int .u64 a).wf = true) : 0 ≤ a ∧ a < 18446744073709551616 := by
  simp [Lit.wf, IntKind.min, IntKind.max, IntKind.signed, IntKind.bits] at h; omega
theorem wf_u16 {a : Int} (h : (Lit.int .u16 a).wf = true) : 0 ≤ a ∧ a < 65536 := by
  simp [Lit.wf, IntKind.min, IntKind.max, IntKind.signed, IntKind.bits] at h; omega

set_option maxRecDepth 100000 in
theorem rateGrows_walk (a b n m : Int) (wa : (Lit.int .u64 a).wf = true) (wb : (Lit.int .u64 b).wf = true) (wn : (Lit.int .u16 n).wf = true) (wm : (Lit.int .u16 m).wf = true) (w : World) :
    Calls Try.prog 7 #[.int .u64 a, .int .u64 b, .int .u16 n, .int .u16 m] w fun e w' => e = .returned (.bool true) ∧ Grown w w' := by
  have Wa := Lib.hid (wf_u64 wa)
  have Wb := Lib.hid (wf_u64 wb)
  obtain ⟨n0, n1⟩ := wf_u16 wn
  obtain ⟨m0, m1⟩ := wf_u16 wm
  clear wa wb wn wm
  rcases Int.lt_trichotomy a b with ab | rfl | ab <;> rcases Int.lt_trichotomy n m with nm | rfl | nm
  all_goals
    go_enter Try.func7, Try.ntmps7
    go_wp2_with fail
    refine (rate_any _ _ _ (by have := Wa.out; have := Wb.out; omega) (by omega)).mono ?_
    rintro e w' ⟨rfl, rfl⟩
    go_wp2_with fail
    refine (rate_any _ _ _ (by have := Wa.out; have := Wb.out; omega) (by omega)).mono ?_
    rintro e w' ⟨rfl, rfl⟩
    go_wp2_with fail
    refine (compare_grows _ _ _ _ (by have := Wa.out; have := Wb.out; omega) (by have := Wa.out; have := Wb.out; omega) (by omega) (by omega)).mono ?_
    rintro e w' ⟨rfl, hq, rfl⟩
    go_wp2_with fail
    refine (rate_any _ _ _ (by have := Wa.out; have := Wb.out; omega) (by omega)).mono ?_
    rintro e w' ⟨rfl, rfl⟩
    go_wp2_with fail
    refine (rate_any _ _ _ (by have := Wa.out; have := Wb.out; omega) (by omega)).mono ?_
    rintro e w' ⟨rfl, rfl⟩
    go_wp2_with fail
    refine (compare_falls _ _ _ _ (by have := Wa.out; have := Wb.out; omega) (by omega) (by omega)).mono ?_
    rintro e w' ⟨rfl, hr, rfl⟩
    go_wp2_with (go_at_call 10; refine (awake_any _).mono ?_; rintro e w' ⟨rfl, rfl⟩)
    go_ret
    exact ⟨rfl, Grown.refl _⟩
end Go.Proofs.Ytdebjelheogciaa
