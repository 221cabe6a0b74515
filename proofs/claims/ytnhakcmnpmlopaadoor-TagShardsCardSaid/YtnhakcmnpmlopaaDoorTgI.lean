/- The example's tags, reckoned. -/
import Derived.Test.YtnhakcmnpmlopaaDoorTgH
namespace Go.Proofs.YtnhakcmnpmlopaaDoor
theorem awake_ne : decide (signD [1] 0 [5] = signD [1] 1 [5]) = false := by
  decide +kernel
end Go.Proofs.YtnhakcmnpmlopaaDoor
