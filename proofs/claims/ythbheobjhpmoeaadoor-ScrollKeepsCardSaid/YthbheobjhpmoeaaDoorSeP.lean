/- ScrollKeeps' walk, in the card's order of arguments. -/
import Derived.Test.YthbheobjhpmoeaaDoorM42
import Derived.Test.YthbheobjhpmoeaaDoorSeZ
set_option linter.unusedVariables false
set_option linter.unusedSimpArgs false
namespace Go.Proofs.YthbheobjhpmoeaaDoor
open Go.RowKit
set_option maxRecDepth 100000
theorem keeps_law (A0 : Option Addr) (c0 : Nat) (l0 : List (List B8)) (A1 : Option Addr) (c1 : Nat) (l1 : List Bool) (A2 : Option Addr) (c2 : Nat) (l2 : List B8) (a3 : Nat) (W : World) (s0 : LstN W A0 l0) (m0 : l0.length ≤ maxLen) (w0 : A0 = none → c0 = 0) (h0 : l0.length ≤ c0) (x0 : ∀ x ∈ l0, x.length ≤ maxLen)
    (s1 : Sl W W.heap.size A1 (l1.map bov)) (m1 : l1.length ≤ maxLen) (w1 : A1 = none → c1 = 0) (h1 : l1.length ≤ c1) (s2 : Sl W W.heap.size A2 (l2.map bv)) (m2 : l2.length ≤ maxLen) (w2 : A2 = none → c2 = 0) (h2 : l2.length ≤ c2) (b3 : a3 < 65536) (hG : Glob W) :
    Calls Tryd.prog 6 #[.slice A0 l0.length c0, .slice A1 l1.length c1, .slice A2 l2.length c2, .int .u16 (a3 : Int)] W fun r w' => r = .returned (.bool true) ∧ Below W.heap.size W w' :=
  (scrollKeeps_of sc13 A0 c0 l0 A1 c1 l1 A2 c2 l2 a3 b3 W hG s0 w0 h0 m0 x0 s1 m1 s2 w2 h2 m2).mono fun _ _ h => to_below13 h
end Go.Proofs.YthbheobjhpmoeaaDoor
