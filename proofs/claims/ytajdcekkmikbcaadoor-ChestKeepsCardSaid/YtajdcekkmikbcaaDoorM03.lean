/- Merged: The contracts of package sums and of the document's answers: each call returns, for every input. -/
import Derived.Test.YtajdcekkmikbcaaDoorChecked
import Derived.WalkKit
import Derived.IntWalk
import Derived.WalkLawsBesides
import Derived.Lib.Hide
import Derived.Deep.Cut
namespace Go.Proofs.YtajdcekkmikbcaaDoor
section

open Go.RowKit

set_option maxRecDepth 100000 in
theorem ret_bool {a b : Bool} (h : a = b) : Ending.returned (.bool a) = .returned (.bool b) := by rw [h]
def M : Nat := 4611686018427387904
end
end Go.Proofs.YtajdcekkmikbcaaDoor
