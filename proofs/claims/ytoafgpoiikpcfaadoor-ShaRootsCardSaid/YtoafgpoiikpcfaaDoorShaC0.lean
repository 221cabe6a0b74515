/- The constants of the rounds as roots of primes, as plain functions on numbers: what the document's Constants is held against. No program is named here. -/
import Derived.Test.YtoafgpoiikpcfaaDoorShaPure
namespace Go.Proofs.YtoafgpoiikpcfaaDoor
/-- No number from d on (as long as its square is at most n) divides n; m: rounds. -/
def noDiv (n : Nat) : Nat → Nat → Bool
  | 0, _ => true
  | m + 1, d => if d * d ≤ n then (if n % d = 0 then false else noDiv n m (d + 1)) else true
def primeN (n : Nat) : Bool := noDiv n n 2 && decide (1 < n)
/-- The whole part of a root, from a guess on. -/
def wholeN (p k : Nat) : Nat → Nat → Nat
  | 0, x => x
  | m + 1, x => if (x + 1) ^ k ≤ p then wholeN p k m (x + 1) else x
/-- The first bits of the fraction: those from bit m - 1 down are still to be found. -/
def fracN (B p k x : Nat) : Nat → Nat → Nat
  | 0, v => v
  | m + 1, v => fracN B p k x m (if (x * B + (v + 2 ^ m)) ^ k ≤ p * B ^ k then v + 2 ^ m else v)
theorem fracN_zero (B p k x v : Nat) : fracN B p k x 0 v = v := by rw [fracN]
theorem fracN_step (B p k x m v : Nat) : fracN B p k x (m + 1) v = fracN B p k x m (if (x * B + (v + 2 ^ m)) ^ k ≤ p * B ^ k then v + 2 ^ m else v) := by rw [fracN]
def rootN (p k : Nat) : Nat := fracN 4294967296 p k (wholeN p k p 1) 32 0
/-- The roots of the first primes from p on, until there are n; m: rounds. -/
def constN (k : Nat) : Nat → Nat → List Nat → Nat → List Nat
  | 0, _, l, _ => l
  | m + 1, n, l, p => if l.length < n then constN k m n (if primeN p then l ++ [rootN p k] else l) (p + 1) else l
set_option maxRecDepth 100000 in
theorem const_h : constN 2 400 8 [] 2 = H8.list.map BitVec.toNat := by decide +kernel
set_option maxRecDepth 100000 in
theorem const_k : constN 3 400 64 [] 2 = K64.map BitVec.toNat := by decide +kernel
end Go.Proofs.YtoafgpoiikpcfaaDoor
