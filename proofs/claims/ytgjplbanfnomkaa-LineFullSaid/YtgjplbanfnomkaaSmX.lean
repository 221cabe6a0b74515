/- Merged: The contracts of package sums and of the document's answers: each call returns, for every input. The contracts of both Alls, and of the document's example. -/
import Derived.Test.YtgjplbanfnomkaaChecked
import Derived.WalkKit
import Derived.IntWalk
import Derived.WalkLawsBesides
import Derived.Lib.Hide
import Derived.Deep.Cut
import Derived.Test.YtgjplbanfnomkaaKit
import Derived.LoopTactic
import Derived.Below
import Derived.Deep.QuietTactic
import Derived.BigQuiet
import Derived.OwnWalk
namespace Go.Proofs.Ytgjplbanfnomkaa
section

open Go.RowKit

set_option maxRecDepth 100000 in
theorem ret_bool {a b : Bool} (h : a = b) : Ending.returned (.bool a) = .returned (.bool b) := by rw [h]
set_option maxRecDepth 100000 in
theorem ret_int {k : IntKind} {a b : Int} (h : a = b) : Ending.returned (.int k a) = .returned (.int k b) := by rw [h]

def M : Nat := 4611686018427387904
def addOk (a b : Nat) : Bool := decide (a + b ≤ M)
def addV (a b : Nat) : Nat := if a + b ≤ M then a + b else 0
def addE (a b : Nat) : Nat := if a + b ≤ M then 0 else 6
def lessV (a b : Nat) : Nat := if a ≤ M ∧ b ≤ M ∧ b ≤ a then a - b else 0
def lessE (a b : Nat) : Nat := if a ≤ M ∧ b ≤ M then (if b ≤ a then 0 else 9) else 6
def amtB (a : Nat) : Bool := decide (a ≤ M)


end
section

open Go.RowKit

def allV (s : Nat) : List Nat → Nat × Nat
  | [] => (s, 0)
  | a :: l => if s + a ≤ M then allV (s + a) l else (0, 6)
set_option maxRecDepth 100000 in
theorem allV_yes (s : Nat) (l : List Nat) (k : Nat) (h : k < l.length) (hs : s + l[k] ≤ M) : allV (s + l[k]) (l.drop (k + 1)) = allV s (l.drop k) := by
  rw [List.drop_eq_getElem_cons h]; simp [allV, hs]
set_option maxRecDepth 100000 in
theorem allV_no (s : Nat) (l : List Nat) (k : Nat) (h : k < l.length) (hs : ¬ s + l[k] ≤ M) : allV s (l.drop k) = (0, 6) := by
  rw [List.drop_eq_getElem_cons h]; simp [allV, hs]
set_option maxRecDepth 100000 in
theorem allV_end (s : Nat) (l : List Nat) : allV s (l.drop l.length) = (s, 0) := by simp [allV]


end
end Go.Proofs.Ytgjplbanfnomkaa
