/- The contracts of package sums and of the document's answers: each call returns, for every input. -/
import Derived.Test.YtmkpoodhhpfgpaaChecked
import Derived.WalkKit
import Derived.IntWalk
import Derived.WalkLawsBesides
import Derived.Lib.Hide
import Derived.Deep.Cut
namespace Go.Proofs.Ytmkpoodhhpfgpaa
open Go.RowKit

set_option maxRecDepth 100000 in
theorem ret_bool {a b : Bool} (h : a = b) : Ending.returned (.bool a) = .returned (.bool b) := by rw [h]
set_option maxRecDepth 100000 in
theorem ret_int {k : IntKind} {a b : Int} (h : a = b) : Ending.returned (.int k a) = .returned (.int k b) := by rw [h]

def M : Nat := 4611686018427387904
def addOk (a b : Nat) : Bool := decide (a + b ≤ M)
def addV (a b : Nat) : Nat := if a + b ≤ M then a + b else 0
def addE (a b : Nat) : Nat := if a + b ≤ M then 0 else 6
def lessV (a b : Nat) : Nat := if a ≤ M ∧ b ≤ M ∧ b ≤ a then a - b else 0
def lessE (a b : Nat) : Nat := if a ≤ M ∧ b ≤ M then (if b ≤ a then 0 else 9) else 6
def amtB (a : Nat) : Bool := decide (a ≤ M)

end Go.Proofs.Ytmkpoodhhpfgpaa
