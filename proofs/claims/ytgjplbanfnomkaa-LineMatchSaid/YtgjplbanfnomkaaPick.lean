/- The document's Pick. -/
import Derived.Test.YtgjplbanfnomkaaFldX
set_option linter.unusedVariables false
namespace Go.Proofs.Ytgjplbanfnomkaa
open Go.RowKit
theorem pick_any (x : Int) (n : Nat) (w : World) (h1 : 1 ≤ n) (h2 : n ≤ 1099511627776) :
    Calls Try.prog 49 #[.int .i64 x, .int .i64 (n : Int)] w fun e w' => (∃ k : Nat, k < n ∧ e = .returned (.int .i64 (k : Int))) ∧ w' = w := by
  have b1 : -(n : Int) < x.tmod n := Int.lt_tmod_of_pos x (by omega)
  have b2 : x.tmod n < (n : Int) := Int.tmod_lt_of_pos x (by omega)
  have hn : ¬ (n : Int) < 1 := by omega
  obtain ⟨r, hr⟩ : ∃ r, r = x.tmod n := ⟨_, rfl⟩
  rw [← hr] at b1 b2
  have hr2 := hr.symm
  have HR := Lib.hid hr
  clear hr
  by_cases h0 : r < 0
  · go_enter Try.func49, Try.ntmps49
    go_wp2
    go_ret
    refine ⟨⟨(r + n).toNat, by omega, ?_⟩, rfl⟩
    show Ending.returned (Value.int .i64 (r + (n : Int))) = _
    rw [Int.toNat_of_nonneg (by omega)]
  · go_enter Try.func49, Try.ntmps49
    go_wp2
    go_ret
    refine ⟨⟨r.toNat, by omega, ?_⟩, rfl⟩
    show Ending.returned (Value.int .i64 r) = _
    rw [Int.toNat_of_nonneg (by omega)]
end Go.Proofs.Ytgjplbanfnomkaa
