/- Merged: The document's drum: Start. -/
import Derived.Test.YtajdcekkmikbcaaDoorM08
namespace Go.Proofs.YtajdcekkmikbcaaDoor
section
set_option linter.unusedVariables false
open Go.RowKit
set_option maxRecDepth 100000 in
theorem land_step {L : List Sec} {W : List (Nat × Sec)} {M : List B8} {j : Nat} (hj : j < W.length) : landL L (W.take (j + 1)) M = (landL L (W.take j) M).set W[j].1 (tornS ((landL L (W.take j) M).getD W[j].1 []) W[j].2 (M.getD j 255)) := by
  rw [List.take_succ_eq_append_getElem hj, landL_snoc, List.length_take, Nat.min_eq_left (by omega)]
/-- The blocks of D, and those made since w. -/
def Dn (D : Nat → Prop) (w w' : World) : Nat → Prop := fun k => D k ∨ (w.heap.size ≤ k ∧ k < w'.heap.size)
end
end Go.Proofs.YtajdcekkmikbcaaDoor
