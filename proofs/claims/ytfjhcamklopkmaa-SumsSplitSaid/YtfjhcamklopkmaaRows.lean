/-
  No cell of these rows narrows 'for every input' (looked for: loops, veiled, ifaces, maps, wideKeys, modest, calm, conditions, laid).
  DERIVED. THE GIVEN ROWS OF THIS SEAT. 4 by the template 'for every input the law returns true; each argument reads behind the call as it read before'; 0 by the template 'total and deterministic' (their statements: YtfjhcamklopkmaaTotals.lean).
  GIVEN WITH THE SEED: the statements are not yours to turn. If you find one false, say at which input.
  Laid BY PROGRAM, IN A SANDBOX (cutbox-rows.mjs): the forced cells as the released guide's own fill.sh prints them over the translation 5b53703024372576… (all of the seat's roots in one cut). By AI agents, Wed Nov 11 2026. No macro, syntax, notation, axiom, sorry.
-/
import Derived.Test.YtfjhcamklopkmaaChecked
import GoSem.Claim
import GoSem.ClaimJoined
import GoSem.ClaimMapViews
import Derived.JoinedTies
import Derived.KernelRfl
namespace Go.Proofs.Ytfjhcamklopkmaa
/- THE CELL 'sum', in the pinned program and in every row, IS THE sha256 OF THE DUMP (.gsa) THAT YtfjhcamklopkmaaProg.lean LOADS. Nothing in Lean hashes anything: it is a label: what it is worth is what the hold of that sum in a sandbox is worth. -/
noncomputable def Try.pinned : Pinned := { name := "ytfjhcamklopkmaa", sum := "5b53703024372576e53eb854edb82935d5759d45d66f3f29ed1862681745ef27", checked := Try.checked }
namespace Rows
def none {H : Type} : Left H := { results := [], args := [] }

/-- 'seisinlaw02.SumsTell': WHATEVER THE INPUT: true; the input reads as it did. -/
def sumsTellSpec : ChangeSpec := { name := "sumsTell", fn := fun _ => fun
  | [d1, d2] => { results := [.lit (.bool true)], args := [d1, d2] }
  | _ => none }
def sumsTellRow : OpenClaim := { program := "ytfjhcamklopkmaa", sum := "5b53703024372576e53eb854edb82935d5759d45d66f3f29ed1862681745ef27", func := "seisin/seisinlaw02.SumsTell", spec := "sumsTell", apart := false }
def SumsTellSaid : Prop := sumsTellRow.holds Try.pinned (OpenSpec.ofChange sumsTellSpec)

/-- ITS FALSE NEIGHBOUR: 'it returns false'. Refute it at one input. -/
def sumsTellWrong : ChangeSpec := { name := "sumsTell", fn := fun _ => fun
  | [d1, d2] => { results := [.lit (.bool false)], args := [d1, d2] }
  | _ => none }
def SumsTellWrongFalsely : Prop := sumsTellRow.holds Try.pinned (OpenSpec.ofChange sumsTellWrong)

/-- 'seisinlaw02.SumsAll': WHATEVER THE INPUT: true; the input reads as it did. -/
def sumsAllSpec : ChangeSpec := { name := "sumsAll", fn := fun _ => fun
  | [d] => { results := [.lit (.bool true)], args := [d] }
  | _ => none }
def sumsAllRow : OpenClaim := { program := "ytfjhcamklopkmaa", sum := "5b53703024372576e53eb854edb82935d5759d45d66f3f29ed1862681745ef27", func := "seisin/seisinlaw02.SumsAll", spec := "sumsAll", apart := false }
def SumsAllSaid : Prop := sumsAllRow.holds Try.pinned (OpenSpec.ofChange sumsAllSpec)

/-- ITS FALSE NEIGHBOUR: 'it returns false'. Refute it at one input. -/
def sumsAllWrong : ChangeSpec := { name := "sumsAll", fn := fun _ => fun
  | [d] => { results := [.lit (.bool false)], args := [d] }
  | _ => none }
def SumsAllWrongFalsely : Prop := sumsAllRow.holds Try.pinned (OpenSpec.ofChange sumsAllWrong)

/-- 'seisinlaw02.SumsSplit': WHATEVER THE INPUT: true; the input reads as it did. -/
def sumsSplitSpec : ChangeSpec := { name := "sumsSplit", fn := fun _ => fun
  | [d1, d2] => { results := [.lit (.bool true)], args := [d1, d2] }
  | _ => none }
def sumsSplitRow : OpenClaim := { program := "ytfjhcamklopkmaa", sum := "5b53703024372576e53eb854edb82935d5759d45d66f3f29ed1862681745ef27", func := "seisin/seisinlaw02.SumsSplit", spec := "sumsSplit", apart := false }
def SumsSplitSaid : Prop := sumsSplitRow.holds Try.pinned (OpenSpec.ofChange sumsSplitSpec)

/-- ITS FALSE NEIGHBOUR: 'it returns false'. Refute it at one input. -/
def sumsSplitWrong : ChangeSpec := { name := "sumsSplit", fn := fun _ => fun
  | [d1, d2] => { results := [.lit (.bool false)], args := [d1, d2] }
  | _ => none }
def SumsSplitWrongFalsely : Prop := sumsSplitRow.holds Try.pinned (OpenSpec.ofChange sumsSplitWrong)

/-- 'seisinlaw02.SumsBack': WHATEVER THE INPUT: true; the input reads as it did. -/
def sumsBackSpec : ChangeSpec := { name := "sumsBack", fn := fun _ => fun
  | [d1, d2, d3] => { results := [.lit (.bool true)], args := [d1, d2, d3] }
  | _ => none }
def sumsBackRow : OpenClaim := { program := "ytfjhcamklopkmaa", sum := "5b53703024372576e53eb854edb82935d5759d45d66f3f29ed1862681745ef27", func := "seisin/seisinlaw02.SumsBack", spec := "sumsBack", apart := false }
def SumsBackSaid : Prop := sumsBackRow.holds Try.pinned (OpenSpec.ofChange sumsBackSpec)

/-- ITS FALSE NEIGHBOUR: 'it returns false'. Refute it at one input. -/
def sumsBackWrong : ChangeSpec := { name := "sumsBack", fn := fun _ => fun
  | [d1, d2, d3] => { results := [.lit (.bool false)], args := [d1, d2, d3] }
  | _ => none }
def SumsBackWrongFalsely : Prop := sumsBackRow.holds Try.pinned (OpenSpec.ofChange sumsBackWrong)

/- THE SECOND FORM. 'bulk': how many values and letters a reading holds, each counted each time it is reached (what is shared counts as often as it is met; a slice's spare places count too). A statement '..UptoSaid' is the law's where the arguments, and the package variables that the reading takes, are together of bulk at most 1048576: NARROWER than '..Said'. Prove '..Said' where nothing that the law and all that it calls make is longer than what came in: it says more and counts as full. Else prove '..UptoSaid'. A law counts once. -/
mutual
def uptoBulk {H : Type} : DataW H → Nat
  | .lit (.string bytes) => bytes.length + 1
  | .lit _ => 1
  | .nil => 1
  | .ptr d => uptoBulk d + 1
  | .slice elems spare => uptoBulkAll elems + uptoBulkAll spare + 1
  | .agg parts => uptoBulkAll parts + 1
  | .iface _ d => uptoBulk d + 1
  | .map entries => uptoBulkEntries entries + 1
  | .held _ => 1
def uptoBulkAll {H : Type} : List (DataW H) → Nat
  | [] => 0
  | d :: r => uptoBulk d + uptoBulkAll r
def uptoBulkEntries {H : Type} : List (Lit × DataW H) → Nat
  | [] => 0
  | x :: r => uptoBulkEntry x + uptoBulkEntries r
def uptoBulkEntry {H : Type} : Lit × DataW H → Nat
  | (.string bytes, d) => bytes.length + uptoBulk d + 1
  | (_, d) => uptoBulk d + 1
 end
def uptoSmall : (H : Type) → List (DataW H) → Bool := fun _ ds => decide (uptoBulkAll ds ≤ 1048576)
def OpenSpec.upto (s : _root_.Go.ChangeSpec) : _root_.Go.OpenSpec := { _root_.Go.OpenSpec.ofChange s with cond := some uptoSmall }

/-- 'seisinlaw02.SumsTell', WHERE WHAT IT READS IS OF BULK AT MOST 1048576: true; the input reads as it did. -/
def sumsTellUptoRow : OpenClaim := { program := "ytfjhcamklopkmaa", sum := "5b53703024372576e53eb854edb82935d5759d45d66f3f29ed1862681745ef27", func := "seisin/seisinlaw02.SumsTell", spec := "sumsTell", apart := false, narrowed := true }
def SumsTellUptoSaid : Prop := sumsTellUptoRow.holds Try.pinned (OpenSpec.upto sumsTellSpec)

/-- 'seisinlaw02.SumsAll', WHERE WHAT IT READS IS OF BULK AT MOST 1048576: true; the input reads as it did. -/
def sumsAllUptoRow : OpenClaim := { program := "ytfjhcamklopkmaa", sum := "5b53703024372576e53eb854edb82935d5759d45d66f3f29ed1862681745ef27", func := "seisin/seisinlaw02.SumsAll", spec := "sumsAll", apart := false, narrowed := true }
def SumsAllUptoSaid : Prop := sumsAllUptoRow.holds Try.pinned (OpenSpec.upto sumsAllSpec)

/-- 'seisinlaw02.SumsSplit', WHERE WHAT IT READS IS OF BULK AT MOST 1048576: true; the input reads as it did. -/
def sumsSplitUptoRow : OpenClaim := { program := "ytfjhcamklopkmaa", sum := "5b53703024372576e53eb854edb82935d5759d45d66f3f29ed1862681745ef27", func := "seisin/seisinlaw02.SumsSplit", spec := "sumsSplit", apart := false, narrowed := true }
def SumsSplitUptoSaid : Prop := sumsSplitUptoRow.holds Try.pinned (OpenSpec.upto sumsSplitSpec)

/-- 'seisinlaw02.SumsBack', WHERE WHAT IT READS IS OF BULK AT MOST 1048576: true; the input reads as it did. -/
def sumsBackUptoRow : OpenClaim := { program := "ytfjhcamklopkmaa", sum := "5b53703024372576e53eb854edb82935d5759d45d66f3f29ed1862681745ef27", func := "seisin/seisinlaw02.SumsBack", spec := "sumsBack", apart := false, narrowed := true }
def SumsBackUptoSaid : Prop := sumsBackUptoRow.holds Try.pinned (OpenSpec.upto sumsBackSpec)

end Rows
end Go.Proofs.Ytfjhcamklopkmaa
