/- The walk of CertSame, whole. -/
import Derived.Test.YthoaaieiiokcmaaDoorM25
import Derived.Test.YthoaaieiiokcmaaDoorM27
import Derived.Test.YthoaaieiiokcmaaDoorM28
set_option linter.unusedVariables false
namespace Go.Proofs.YthoaaieiiokcmaaDoor
open Go.RowKit
theorem certSame_walk (x : Crt) (A : Option Addr) (c : Nat) (y : Crt) (A' : Option Addr) (c' : Nat) (w : World) (hx : x.L) (px : CPath w x A c) (mx : x.ids.length ≤ maxLen) (hy : y.L) (py : CPath w y A' c') (my : y.ids.length ≤ maxLen) (hG : Glob w) :
    Calls Tryd.prog 6 #[.agg (x.cells A c).toArray, .agg (y.cells A' c').toArray] w fun r w' => r = .returned (.bool true) ∧ Below w.heap.size w w' := to_below (certSame_of cawake_any csame x A c y A' c' w hx px mx hy py my hG)
end Go.Proofs.YthoaaieiiokcmaaDoor
