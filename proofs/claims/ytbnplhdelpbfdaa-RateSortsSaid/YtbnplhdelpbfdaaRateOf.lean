/- The contracts of a rate's making, and of the document's example, which every statement asks. -/
import Derived.Test.YtbnplhdelpbfdaaRateWalks
import Derived.Deep.QuietTactic
import Derived.BigQuiet
namespace Go.Proofs.Ytbnplhdelpbfdaa
open Go.RowKit
open Flt (nan key lessB cmpI S)

theorem frombits_int (n : Int) (w : World) : (callFunc 20 #[.int .u64 n]).run Try.prog w = .ok (.value (.float .f64 n.toNat)) w := by kernel_rfl
theorem ret_float {a b : Nat} (h : a = b) : Ending.returned (.float .f64 a) = .returned (.float .f64 b) := by rw [h]

def infBits (n : Int) : Nat := if 0 ≤ n then 9218868437227405312 else 18442240474082181120
def nanBits : Nat := 9221120237041090561
theorem inf_any (n : Int) (w : World) :
    Calls Try.prog 13 #[.int .i64 n] w fun e w' => e = .returned (.float .f64 (infBits n)) ∧ w = w' := by
  have hb := frombits_int
  by_cases h : 0 ≤ n
  · have E := Lib.hid (show infBits n = 9218868437227405312 by simp [infBits, h])
    go_enter Try.func13, Try.ntmps13
    go_wp2
    go_ret
    exact ⟨ret_float E.out.symm, rfl⟩
  · have E := Lib.hid (show infBits n = 18442240474082181120 by simp [infBits, h])
    go_enter Try.func13, Try.ntmps13
    go_wp2
    go_ret
    exact ⟨ret_float E.out.symm, rfl⟩
theorem nan_any (w : World) :
    Calls Try.prog 18 #[] w fun e w' => e = .returned (.float .f64 nanBits) ∧ w = w' := by
  have hb := frombits_int
  go_enter Try.func18, Try.ntmps18
  go_wp2
  go_ret
  exact ⟨rfl, rfl⟩

theorem of_pos (fee size : Int) (r : Nat) (w : World) (hs : 0 < size) (h : floatBits .quo .f64 (floatOfInt .f64 fee) (floatOfInt .f64 size) = some r) :
    Calls Try.prog 11 #[.int .u64 fee, .int .i64 size] w fun e w' => e = .returned (.float .f64 r) ∧ w = w' := by
  have hq := fun w => run_float_arith (P := Try.prog) w .quo 26 .f64 _ _ r h
  clear h
  go_enter Try.func11, Try.ntmps11
  go_wp2_with fail
  go_ret
  exact ⟨rfl, rfl⟩
theorem of_zero (fee : Int) (w : World) (hf : 0 < fee) :
    Calls Try.prog 11 #[.int .u64 fee, .int .i64 0] w fun e w' => e = .returned (.float .f64 9218868437227405312) ∧ w = w' := by
  go_enter Try.func11, Try.ntmps11
  go_wp2_with (go_at_call 13; refine (inf_any _ _).mono ?_; rintro e w' ⟨rfl, rfl⟩)
  go_ret
  exact ⟨rfl, rfl⟩
theorem of_none (fee size : Int) (w : World) (hf : size < 0 ∨ (size = 0 ∧ fee = 0)) :
    Calls Try.prog 11 #[.int .u64 fee, .int .i64 size] w fun e w' => e = .returned (.float .f64 nanBits) ∧ w = w' := by
  rcases hf with h | ⟨rfl, rfl⟩
  · have h0 : (size == 0) = false := by simp; omega
    go_enter Try.func11, Try.ntmps11
    go_wp2_with (go_at_call 18; refine (nan_any _).mono ?_; rintro e w' ⟨rfl, rfl⟩)
    go_ret
    exact ⟨rfl, rfl⟩
  · go_enter Try.func11, Try.ntmps11
    go_wp2_with (go_at_call 18; refine (nan_any _).mono ?_; rintro e w' ⟨rfl, rfl⟩)
    go_ret
    exact ⟨rfl, rfl⟩

theorem awake_any (w : World) :
    Calls Try.prog 4 #[] w fun e w' => e = .returned (.bool true) ∧ w = w' := by
  have c0 := fun w => of_none 0 0 w (.inr ⟨rfl, rfl⟩)
  have c6 := fun w => of_pos 6 4 4609434218613702656 w (by omega) (by decide +kernel)
  have n0 : (FloatKind.f64.format.order nanBits nanBits != some .eq) = true := by decide +kernel
  have k0 := fun w => compare_any nanBits (infBits (-1)) w (by decide +kernel) (by decide +kernel)
  have ek : cmpI nanBits (infBits (-1)) = -1 := by decide +kernel
  have n1 : (FloatKind.f64.format.order 4609434218613702656 4609434218613702656 == some .eq) = true := by decide +kernel
  rw [ek] at k0
  clear ek
  have C0 := Lib.hid c0
  have C6 := Lib.hid c6
  have K0 := Lib.hid k0
  clear c0 c6 k0
  go_enter Try.func4, Try.ntmps4
  go_wp2_with fail
  refine (C0.out _).mono ?_
  rintro e w' ⟨rfl, rfl⟩
  go_wp2_with fail
  refine (inf_any _ _).mono ?_
  rintro e w' ⟨rfl, rfl⟩
  go_wp2_with fail
  refine (K0.out _).mono ?_
  rintro e w' ⟨rfl, rfl⟩
  go_wp2_with fail
  refine (C6.out _).mono ?_
  rintro e w' ⟨rfl, rfl⟩
  go_wp2_with fail
  go_ret
  exact ⟨rfl, rfl⟩
end Go.Proofs.Ytbnplhdelpbfdaa
