/- The contract of the code's 'Under'. -/
import Derived.Test.YtnhakcmnpmlopaaDoorShaW6
namespace Go.Proofs.YtnhakcmnpmlopaaDoor
open Go.RowKit

def longB (xs : List B8) : List B8 := wb (BitVec.ofNat 32 xs.length) ++ xs
def underB (m : B8) (ls : List (List B8)) : List B8 := m :: (ls.map longB).flatten
theorem longs_take (ls : List (List B8)) (k : Nat) (h : k < ls.length) : ((ls.take (k + 1)).map longB).flatten = ((ls.take k).map longB).flatten ++ (wb (BitVec.ofNat 32 ls[k].length) ++ ls[k]) := by
  rw [List.take_succ_eq_append_getElem h, List.map_append, List.flatten_append]; simp [longB]
end Go.Proofs.YtnhakcmnpmlopaaDoor
