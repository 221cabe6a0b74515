/- The walk of CertForms, whole. -/
import Derived.Test.YthoaaieiiokcmaaDoorM25
import Derived.Test.YthoaaieiiokcmaaDoorM35
import Derived.Test.YthoaaieiiokcmaaDoorM37
set_option linter.unusedVariables false
namespace Go.Proofs.YthoaaieiiokcmaaDoor
open Go.RowKit
theorem certForms_walk (x : Crt) (A : Option Addr) (c : Nat) (A1 : Option Addr) (c1 : Nat) (b : List B8) (w : World) (hx : x.L) (px : CPath w x A c) (mx : x.ids.length ≤ maxLen) (hs : Sl w w.heap.size A1 (b.map bv)) (hm : b.length ≤ maxLen) (hA : A1 = none → c1 = 0) (hc : b.length ≤ c1) (hG : Glob w) :
    Calls Tryd.prog 5 #[.agg (x.cells A c).toArray, .slice A1 b.length c1] w fun r w' => r = .returned (.bool true) ∧ Below w.heap.size w w' := to_below (certForms_of cawake_any cread cput x A c A1 c1 b w hx px mx hs hm hA hc hG)
end Go.Proofs.YthoaaieiiokcmaaDoor
