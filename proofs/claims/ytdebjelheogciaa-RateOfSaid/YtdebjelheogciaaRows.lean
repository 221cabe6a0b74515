/-
  No cell of these rows narrows 'for every input' (looked for: loops, veiled, ifaces, maps, wideKeys, modest, calm, conditions, laid).
  DERIVED. THE GIVEN ROWS OF THIS SEAT. 5 by the template 'for every input the law returns true; each argument reads behind the call as it read before'; 0 by the template 'total and deterministic' (their statements: YtdebjelheogciaaTotals.lean).
  GIVEN WITH THE SEED: the statements are not yours to turn. If you find one false, say at which input.
  Laid BY PROGRAM, IN A SANDBOX (cutbox-rows.mjs): the forced cells as the released guide's own fill.sh prints them over the translation 3a72e4887caa4867… (all of the seat's roots in one cut). By AI agents, Wed Nov 11 2026. No macro, syntax, notation, axiom, sorry.
-/
import Derived.Test.YtdebjelheogciaaChecked
import GoSem.Claim
import GoSem.ClaimJoined
import GoSem.ClaimMapViews
import Derived.JoinedTies
import Derived.KernelRfl
namespace Go.Proofs.Ytdebjelheogciaa
/- THE CELL 'sum', in the pinned program and in every row, IS THE sha256 OF THE DUMP (.gsa) THAT YtdebjelheogciaaProg.lean LOADS. Nothing in Lean hashes anything: it is a label: what it is worth is what the hold of that sum in a sandbox is worth. -/
noncomputable def Try.pinned : Pinned := { name := "ytdebjelheogciaa", sum := "3a72e4887caa48672dbb2b3a9543ffccee171341a1514a01501628bdf3139e70", checked := Try.checked }
namespace Rows
def none {H : Type} : Left H := { results := [], args := [] }

/-- 'seisinlaw01.RateOrders': WHATEVER THE INPUT: true; the input reads as it did. -/
def rateOrdersSpec : ChangeSpec := { name := "rateOrders", fn := fun _ => fun
  | [d1, d2] => { results := [.lit (.bool true)], args := [d1, d2] }
  | _ => none }
def rateOrdersRow : OpenClaim := { program := "ytdebjelheogciaa", sum := "3a72e4887caa48672dbb2b3a9543ffccee171341a1514a01501628bdf3139e70", func := "seisin/seisinlaw01.RateOrders", spec := "rateOrders", inPlace := ["math.Float64bits", "math.Float64frombits"], apart := false }
def RateOrdersSaid : Prop := rateOrdersRow.holds Try.pinned (OpenSpec.ofChange rateOrdersSpec)

/-- ITS FALSE NEIGHBOUR: 'it returns false'. Refute it at one input. -/
def rateOrdersWrong : ChangeSpec := { name := "rateOrders", fn := fun _ => fun
  | [d1, d2] => { results := [.lit (.bool false)], args := [d1, d2] }
  | _ => none }
def RateOrdersWrongFalsely : Prop := rateOrdersRow.holds Try.pinned (OpenSpec.ofChange rateOrdersWrong)

/-- 'seisinlaw01.RateOf': WHATEVER THE INPUT: true; the input reads as it did. -/
def rateOfSpec : ChangeSpec := { name := "rateOf", fn := fun _ => fun
  | [d1, d2, d3] => { results := [.lit (.bool true)], args := [d1, d2, d3] }
  | _ => none }
def rateOfRow : OpenClaim := { program := "ytdebjelheogciaa", sum := "3a72e4887caa48672dbb2b3a9543ffccee171341a1514a01501628bdf3139e70", func := "seisin/seisinlaw01.RateOf", spec := "rateOf", inPlace := ["math.Float64frombits", "math.Float64bits"], apart := false }
def RateOfSaid : Prop := rateOfRow.holds Try.pinned (OpenSpec.ofChange rateOfSpec)

/-- ITS FALSE NEIGHBOUR: 'it returns false'. Refute it at one input. -/
def rateOfWrong : ChangeSpec := { name := "rateOf", fn := fun _ => fun
  | [d1, d2, d3] => { results := [.lit (.bool false)], args := [d1, d2, d3] }
  | _ => none }
def RateOfWrongFalsely : Prop := rateOfRow.holds Try.pinned (OpenSpec.ofChange rateOfWrong)

/-- 'seisinlaw01.RateSorts': WHATEVER THE INPUT: true; the input reads as it did. -/
def rateSortsSpec : ChangeSpec := { name := "rateSorts", fn := fun _ => fun
  | [d] => { results := [.lit (.bool true)], args := [d] }
  | _ => none }
def rateSortsRow : OpenClaim := { program := "ytdebjelheogciaa", sum := "3a72e4887caa48672dbb2b3a9543ffccee171341a1514a01501628bdf3139e70", func := "seisin/seisinlaw01.RateSorts", spec := "rateSorts", inPlace := ["math.Float64frombits", "math.Float64bits"], unfollowed := true, recurses := true, apart := false }
def RateSortsSaid : Prop := rateSortsRow.holds Try.pinned (OpenSpec.ofChange rateSortsSpec)

/-- ITS FALSE NEIGHBOUR: 'it returns false'. Refute it at one input. -/
def rateSortsWrong : ChangeSpec := { name := "rateSorts", fn := fun _ => fun
  | [d] => { results := [.lit (.bool false)], args := [d] }
  | _ => none }
def RateSortsWrongFalsely : Prop := rateSortsRow.holds Try.pinned (OpenSpec.ofChange rateSortsWrong)

/-- 'seisinlaw01.RateThree': WHATEVER THE INPUT: true; the input reads as it did. -/
def rateThreeSpec : ChangeSpec := { name := "rateThree", fn := fun _ => fun
  | [d1, d2, d3] => { results := [.lit (.bool true)], args := [d1, d2, d3] }
  | _ => none }
def rateThreeRow : OpenClaim := { program := "ytdebjelheogciaa", sum := "3a72e4887caa48672dbb2b3a9543ffccee171341a1514a01501628bdf3139e70", func := "seisin/seisinlaw01.RateThree", spec := "rateThree", inPlace := ["math.Float64bits", "math.Float64frombits"], apart := false }
def RateThreeSaid : Prop := rateThreeRow.holds Try.pinned (OpenSpec.ofChange rateThreeSpec)

/-- ITS FALSE NEIGHBOUR: 'it returns false'. Refute it at one input. -/
def rateThreeWrong : ChangeSpec := { name := "rateThree", fn := fun _ => fun
  | [d1, d2, d3] => { results := [.lit (.bool false)], args := [d1, d2, d3] }
  | _ => none }
def RateThreeWrongFalsely : Prop := rateThreeRow.holds Try.pinned (OpenSpec.ofChange rateThreeWrong)

/-- 'seisinlaw01.RateGrows': WHATEVER THE INPUT: true; the input reads as it did. -/
def rateGrowsSpec : ChangeSpec := { name := "rateGrows", fn := fun _ => fun
  | [d1, d2, d3, d4] => { results := [.lit (.bool true)], args := [d1, d2, d3, d4] }
  | _ => none }
def rateGrowsRow : OpenClaim := { program := "ytdebjelheogciaa", sum := "3a72e4887caa48672dbb2b3a9543ffccee171341a1514a01501628bdf3139e70", func := "seisin/seisinlaw01.RateGrows", spec := "rateGrows", inPlace := ["math.Float64frombits", "math.Float64bits"], apart := false }
def RateGrowsSaid : Prop := rateGrowsRow.holds Try.pinned (OpenSpec.ofChange rateGrowsSpec)

/-- ITS FALSE NEIGHBOUR: 'it returns false'. Refute it at one input. -/
def rateGrowsWrong : ChangeSpec := { name := "rateGrows", fn := fun _ => fun
  | [d1, d2, d3, d4] => { results := [.lit (.bool false)], args := [d1, d2, d3, d4] }
  | _ => none }
def RateGrowsWrongFalsely : Prop := rateGrowsRow.holds Try.pinned (OpenSpec.ofChange rateGrowsWrong)

/- THE SECOND FORM. 'bulk': how many values and letters a reading holds, each counted each time it is reached (what is shared counts as often as it is met; a slice's spare places count too). A statement '..UptoSaid' is the law's where the arguments, and the package variables that the reading takes, are together of bulk at most 1048576: NARROWER than '..Said'. Prove '..Said' where nothing that the law and all that it calls make is longer than what came in: it says more and counts as full. Else prove '..UptoSaid'. A law counts once. -/
mutual
def uptoBulk {H : Type} : DataW H → Nat
  | .lit (.string bytes) => bytes.length + 1
  | .lit _ => 1
  | .nil => 1
  | .ptr d => uptoBulk d + 1
  | .slice elems spare => uptoBulkAll elems + uptoBulkAll spare + 1
  | .agg parts => uptoBulkAll parts + 1
  | .iface _ d => uptoBulk d + 1
  | .map entries => uptoBulkEntries entries + 1
  | .held _ => 1
def uptoBulkAll {H : Type} : List (DataW H) → Nat
  | [] => 0
  | d :: r => uptoBulk d + uptoBulkAll r
def uptoBulkEntries {H : Type} : List (Lit × DataW H) → Nat
  | [] => 0
  | x :: r => uptoBulkEntry x + uptoBulkEntries r
def uptoBulkEntry {H : Type} : Lit × DataW H → Nat
  | (.string bytes, d) => bytes.length + uptoBulk d + 1
  | (_, d) => uptoBulk d + 1
 end
def uptoSmall : (H : Type) → List (DataW H) → Bool := fun _ ds => decide (uptoBulkAll ds ≤ 1048576)
def OpenSpec.upto (s : _root_.Go.ChangeSpec) : _root_.Go.OpenSpec := { _root_.Go.OpenSpec.ofChange s with cond := some uptoSmall }

/-- 'seisinlaw01.RateOrders', WHERE WHAT IT READS IS OF BULK AT MOST 1048576: true; the input reads as it did. -/
def rateOrdersUptoRow : OpenClaim := { program := "ytdebjelheogciaa", sum := "3a72e4887caa48672dbb2b3a9543ffccee171341a1514a01501628bdf3139e70", func := "seisin/seisinlaw01.RateOrders", spec := "rateOrders", inPlace := ["math.Float64bits", "math.Float64frombits"], apart := false, narrowed := true }
def RateOrdersUptoSaid : Prop := rateOrdersUptoRow.holds Try.pinned (OpenSpec.upto rateOrdersSpec)

/-- 'seisinlaw01.RateOf', WHERE WHAT IT READS IS OF BULK AT MOST 1048576: true; the input reads as it did. -/
def rateOfUptoRow : OpenClaim := { program := "ytdebjelheogciaa", sum := "3a72e4887caa48672dbb2b3a9543ffccee171341a1514a01501628bdf3139e70", func := "seisin/seisinlaw01.RateOf", spec := "rateOf", inPlace := ["math.Float64frombits", "math.Float64bits"], apart := false, narrowed := true }
def RateOfUptoSaid : Prop := rateOfUptoRow.holds Try.pinned (OpenSpec.upto rateOfSpec)

/-- 'seisinlaw01.RateSorts', WHERE WHAT IT READS IS OF BULK AT MOST 1048576: true; the input reads as it did. -/
def rateSortsUptoRow : OpenClaim := { program := "ytdebjelheogciaa", sum := "3a72e4887caa48672dbb2b3a9543ffccee171341a1514a01501628bdf3139e70", func := "seisin/seisinlaw01.RateSorts", spec := "rateSorts", inPlace := ["math.Float64frombits", "math.Float64bits"], unfollowed := true, recurses := true, apart := false, narrowed := true }
def RateSortsUptoSaid : Prop := rateSortsUptoRow.holds Try.pinned (OpenSpec.upto rateSortsSpec)

/-- 'seisinlaw01.RateThree', WHERE WHAT IT READS IS OF BULK AT MOST 1048576: true; the input reads as it did. -/
def rateThreeUptoRow : OpenClaim := { program := "ytdebjelheogciaa", sum := "3a72e4887caa48672dbb2b3a9543ffccee171341a1514a01501628bdf3139e70", func := "seisin/seisinlaw01.RateThree", spec := "rateThree", inPlace := ["math.Float64bits", "math.Float64frombits"], apart := false, narrowed := true }
def RateThreeUptoSaid : Prop := rateThreeUptoRow.holds Try.pinned (OpenSpec.upto rateThreeSpec)

/-- 'seisinlaw01.RateGrows', WHERE WHAT IT READS IS OF BULK AT MOST 1048576: true; the input reads as it did. -/
def rateGrowsUptoRow : OpenClaim := { program := "ytdebjelheogciaa", sum := "3a72e4887caa48672dbb2b3a9543ffccee171341a1514a01501628bdf3139e70", func := "seisin/seisinlaw01.RateGrows", spec := "rateGrows", inPlace := ["math.Float64frombits", "math.Float64bits"], apart := false, narrowed := true }
def RateGrowsUptoSaid : Prop := rateGrowsUptoRow.holds Try.pinned (OpenSpec.upto rateGrowsSpec)

end Rows
end Go.Proofs.Ytdebjelheogciaa
