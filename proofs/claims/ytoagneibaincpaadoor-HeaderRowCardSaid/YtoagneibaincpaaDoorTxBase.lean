/- What the walks over transactions build on. -/
import Derived.Test.YtoagneibaincpaaDoorFldX
import Derived.Test.YtoagneibaincpaaDoorAllWalks
import Derived.Test.YtoagneibaincpaaDoorIdEq2
import Derived.Test.YtoagneibaincpaaDoorRowLoad2
import Derived.Test.YtoagneibaincpaaDoorFwA
import Derived.Test.YtoagneibaincpaaDoorTail
import Derived.Test.YtoagneibaincpaaDoorShaT2
import Derived.Test.YtoagneibaincpaaDoorTgD
import Derived.Test.YtoagneibaincpaaDoorTrX
import Derived.Deep.MidRow
import Derived.Deep.WholeRow
import Derived.LoopTactic
import Derived.Outline
namespace Go.Proofs.YtoagneibaincpaaDoor
open Go.RowKit
end Go.Proofs.YtoagneibaincpaaDoor
