/- The walks of the laws on the order of rates: each returns true, and has at most made new memory. -/
import Derived.Test.YtdebjelheogciaaRateOf
namespace Go.Proofs.Ytdebjelheogciaa
open Go.RowKit
open Flt (nan key lessB cmpI S)

theorem wf_lt {a : Nat} (h : (Lit.float .f64 a).wf = true) : a < 18446744073709551616 := by
  simpa [Lit.wf] using h

theorem cmp_bd (a b : Nat) : -1 ≤ cmpI a b ∧ cmpI a b ≤ 1 := by
  unfold cmpI; (repeat' split) <;> omega
theorem three_plain (a b c : Nat) : (0 < cmpI a b ∨ 0 < cmpI b c ∨ cmpI a c ≤ 0) ∧ (cmpI a b ≠ 0 ∨ cmpI a c = cmpI b c) := by
  unfold cmpI
  constructor <;> (repeat' split) <;> omega

set_option maxRecDepth 100000 in
theorem rateOrders_walk (a b : Nat) (wa : (Lit.float .f64 a).wf = true) (wb : (Lit.float .f64 b).wf = true) (w : World) :
    Calls Try.prog 3 #[.float .f64 a, .float .f64 b] w fun e w' => e = .returned (.bool true) ∧ Grown w w' := by
  have c1 := Lib.hid (fun w => compare_any a b w (wf_lt wa) (wf_lt wb))
  have c2 := Lib.hid (fun w => compare_any b a w (wf_lt wb) (wf_lt wa))
  have c3 := Lib.hid (fun w => refCompare_any a b w (wf_lt wa) (wf_lt wb))
  have c4 := Lib.hid (fun w => compare_any a a w (wf_lt wa) (wf_lt wa))
  have e2 : (cmpI a b == -cmpI b a) = true := by rw [beq_iff_eq]; exact Flt.cmp_antisym a b
  have e3 := Flt.cmp_self a
  obtain ⟨b1, b2⟩ := cmp_bd b a
  clear wa wb
  go_enter Try.func3, Try.ntmps3
  go_wp2_with (first
    | (go_at_call 8; first | ((with_reducible refine (c1.out _).mono ?_); rintro e w' ⟨rfl, rfl⟩) | ((with_reducible refine (c2.out _).mono ?_); rintro e w' ⟨rfl, rfl⟩) | ((with_reducible refine (c4.out _).mono ?_); rintro e w' ⟨rfl, rfl⟩))
    | (go_at_call 9; refine (c3.out _).mono ?_; rintro e w' ⟨rfl, rfl⟩)
    | (go_at_call 10; refine (awake_any _).mono ?_; rintro e w' ⟨rfl, rfl⟩))
  go_ret
  exact ⟨rfl, Grown.refl _⟩

set_option maxRecDepth 100000 in
theorem rateThree_walk (a b c : Nat) (wa : (Lit.float .f64 a).wf = true) (wb : (Lit.float .f64 b).wf = true) (wc : (Lit.float .f64 c).wf = true) (w : World) :
    Calls Try.prog 6 #[.float .f64 a, .float .f64 b, .float .f64 c] w fun e w' => e = .returned (.bool true) ∧ Grown w w' := by
  have c1 := Lib.hid (fun w => compare_any a b w (wf_lt wa) (wf_lt wb))
  have c2 := Lib.hid (fun w => compare_any b c w (wf_lt wb) (wf_lt wc))
  have c3 := Lib.hid (fun w => compare_any a c w (wf_lt wa) (wf_lt wc))
  have P := Lib.hid (three_plain a b c)
  clear wa wb wc
  go_enter Try.func6, Try.ntmps6
  go_wp2_with (first
    | (go_at_call 8; first | ((with_reducible refine (c1.out _).mono ?_); rintro e w' ⟨rfl, rfl⟩) | ((with_reducible refine (c2.out _).mono ?_); rintro e w' ⟨rfl, rfl⟩) | ((with_reducible refine (c3.out _).mono ?_); rintro e w' ⟨rfl, rfl⟩))
    | (go_at_call 10; refine (awake_any _).mono ?_; rintro e w' ⟨rfl, rfl⟩))
  all_goals first
    | (go_ret; exact ⟨rfl, Grown.refl _⟩)
    | (exfalso; have p := P.out; omega)
    | (go_ret; exact ⟨ret_bool (by have p := P.out; simp only [Bool.or_eq_true, decide_eq_true_eq]; omega), Grown.refl _⟩)
    | (go_ret; exact ⟨ret_bool (by have p := P.out; simp only [Bool.or_eq_true, Bool.and_eq_true, decide_eq_true_eq, beq_iff_eq, bne_iff_ne]; omega), Grown.refl _⟩)
end Go.Proofs.Ytdebjelheogciaa
