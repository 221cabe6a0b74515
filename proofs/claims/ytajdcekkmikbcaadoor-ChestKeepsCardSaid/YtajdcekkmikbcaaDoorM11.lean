/- Merged: Fields that came in (the document's records), read: a slice of them. -/
import Derived.Test.YtajdcekkmikbcaaDoorM09
import Derived.Deep.MidRow
import Derived.Deep.WholeRow
namespace Go.Proofs.YtajdcekkmikbcaaDoor
section
set_option linter.unusedVariables false
open Go.RowKit Go.ChangeShapes Go.WideShapes Go.ChangeAt
/-- A field's record, as it lies. -/
structure Fd where
  k : Int
  n : Nat
  A : Option Addr
  c : Nat
  b : List B8
  d : List B8
def Fd.cells (f : Fd) : List Value := [.int .i64 f.k, .int .u64 (f.n : Int), .slice f.A f.b.length f.c] ++ f.d.map bv
/-- A record whose bytes lie below block B. -/
structure Fd.ok (f : Fd) (w : World) (B : Nat) : Prop where
  k0 : -9223372036854775808 ≤ f.k
  k1 : f.k < 9223372036854775808
  n : f.n < 18446744073709551616
  s : Sl w B f.A (f.b.map bv)
  a : f.A = none → f.c = 0
  c : f.b.length ≤ f.c
  m : f.b.length ≤ maxLen
  d : f.d.length = 32
set_option maxRecDepth 100000 in
theorem Fd.len (f : Fd) (h : f.d.length = 32) : f.cells.length = 35 := by simp [Fd.cells, h]
section
variable {H : Type} {enc : TypeId × Value → H} {W : World} {fuel : Nat} {x : DataW H × List MemPlace}
end
end
end Go.Proofs.YtajdcekkmikbcaaDoor
