/- The document's digest: 'Of'. -/
import Derived.Test.YtoafgpoiikpcfaaDoorShaS7
namespace Go.Proofs.YtoafgpoiikpcfaaDoor
open Go.RowKit
theorem k64_len : K64.length = 64 := rfl
theorem add_row (g j : Nat) : (⟨g, 0, none⟩ : Addr).add j = ⟨g, j, none⟩ := by unfold Addr.add; by_cases hj : j = 0 <;> simp [hj]
end Go.Proofs.YtoafgpoiikpcfaaDoor
