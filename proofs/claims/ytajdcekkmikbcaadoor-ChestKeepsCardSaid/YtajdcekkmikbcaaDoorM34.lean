/- Merged: The landed scroll's small functions: sectors of bytes, cuts, bounds. -/
import Derived.Test.YtajdcekkmikbcaaDoorM14
namespace Go.Proofs.YtajdcekkmikbcaaDoor
section
set_option linter.unusedVariables false
set_option linter.unusedSimpArgs false
open Go.RowKit
set_option maxRecDepth 100000
theorem wholes_any (k : Nat) (hk : k ≤ 1099511627776) (w : World) : Calls Tryd.prog 66 #[.int .i64 (k : Int)] w fun r w' => r = .returned (.int .i64 (((k + 63) / 64 : Nat) : Int)) ∧ w' = w := by
  have hq : ((k : Int) + 64 - 1).tdiv 64 = (((k + 63) / 64 : Nat) : Int) := by rw [Int.tdiv_eq_ediv_of_nonneg (by omega)]; omega
  go_enter Tryd.func66, Tryd.ntmps66
  go_wp2
  go_ret
  refine ⟨?_, rfl⟩
  rfl
theorem sectorsIn_any (A : Option Addr) (n c : Nat) (hn : n ≤ 1099511627776) (w : World) : Calls Tryd.prog 56 #[.slice A n c] w fun r w' => r = .returned (.int .i64 ((n / 64 : Nat) : Int)) ∧ w' = w := by
  have hq : ((n : Int)).tdiv 64 = ((n / 64 : Nat) : Int) := by rw [Int.tdiv_eq_ediv_of_nonneg (by omega)]; omega
  go_enter Tryd.func56, Tryd.ntmps56
  go_wp2
  go_ret
  refine ⟨?_, rfl⟩
  rfl
theorem outside_any (t : Int) (w : World) : Calls Tryd.prog 60 #[.int .i64 t] w fun r w' => r = .returned (.bool (decide (t < 0 ∨ 1099511627776 < t))) ∧ w' = w := by
  by_cases h1 : t < 0
  · have d1 : decide (t < 0) = true := decide_eq_true h1
    have e : decide (t < 0 ∨ 1099511627776 < t) = true := decide_eq_true (.inl h1)
    rw [e]
    clear h1 e
    go_enter Tryd.func60, Tryd.ntmps60
    go_wp2
    go_ret
    exact ⟨rfl, rfl⟩
  · have d1 : decide (t < 0) = false := decide_eq_false h1
    have e : decide (t < 0 ∨ 1099511627776 < t) = decide (1099511627776 < t) := by
      by_cases h2 : 1099511627776 < t
      · rw [decide_eq_true h2, decide_eq_true (.inr h2)]
      · rw [decide_eq_false h2, decide_eq_false (by omega)]
    rw [e]
    clear h1 e
    go_enter Tryd.func60, Tryd.ntmps60
    go_wp2
    go_ret
    exact ⟨rfl, rfl⟩
theorem cut_any (A : Option Addr) (n c k : Nat) (hk : 64 * (k + 1) ≤ n) (hc : n ≤ c) (hn : n ≤ 1099511627776) (w : World) : Calls Tryd.prog 57 #[.slice A n c, .int .i64 (k : Int)] w fun r w' => r = .returned (.slice (A.map (·.add (64 * k))) 64 64) ∧ w' = w := by
  have SL : (Instr.slice 36 (.slice A n c) (some (.int .i64 ((64 * k : Nat) : Int))) (some (.int .i64 ((64 * (k + 1) : Nat) : Int))) (some (.int .i64 ((64 * (k + 1) : Nat) : Int)))).run Tryd.prog w = .ok (.slice (A.map (·.add (64 * k))) 64 64) w := by
    rw [run_slice_lhm (P := Tryd.prog) w 36 A n c (by kernel_rfl) .i64 .i64 .i64 _ _ _ (by omega) (by omega) (by omega) (by omega)]
    rw [show Tryd.prog.elem 36 = 5 by kernel_rfl, size_u8]
    simp only [Result.andThen, sliced, Int.toNat_natCast, Nat.mul_one]
    rw [if_neg (by omega), show 64 * (k + 1) - 64 * k = 64 by omega]
  have w1 : IntKind.i64.wrap ((k : Int) * 64) = ((64 * k : Nat) : Int) := by rw [IntWalk.i64_in _ (by omega)]; omega
  have w2 : IntKind.i64.wrap (((k : Int) + 1) * 64) = ((64 * (k + 1) : Nat) : Int) := by rw [IntWalk.i64_in _ (by omega)]; omega
  have HK : k ≤ 1099511627776 := by omega
  generalize 64 * (k + 1) = b at *
  obtain ⟨a, ha⟩ : ∃ a, a = 64 * k := ⟨_, rfl⟩
  rw [← ha] at SL w1 ⊢
  clear ha hk
  go_enter Tryd.func57, Tryd.ntmps57
  go_wp2
  go_ret
  exact ⟨rfl, rfl⟩
end
end Go.Proofs.YtajdcekkmikbcaaDoor
