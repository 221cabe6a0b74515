/- Merged: The landed scan: its contract. -/
import Derived.Test.YtajdcekkmikbcaaDoorM37
import Derived.WalkMore
namespace Go.Proofs.YtajdcekkmikbcaaDoor
section
set_option linter.unusedVariables false
set_option linter.unusedSimpArgs false
open Go.RowKit
set_option maxRecDepth 100000
def lenS13 (v : Value) : Nat := match v with | .slice _ k _ => k | _ => 0
end
end Go.Proofs.YtajdcekkmikbcaaDoor
