/-
  No cell of these rows narrows 'for every input' (looked for: loops, veiled, ifaces, maps, wideKeys, modest, calm, conditions, laid).
  DERIVED. THE GIVEN ROWS OF THIS SEAT. 4 by the template 'for every input the law returns true; each argument reads behind the call as it read before'; 0 by the template 'total and deterministic' (their statements: YtgjplbanfnomkaaTotals.lean).
  GIVEN WITH THE SEED: the statements are not yours to turn. If you find one false, say at which input.
  Laid BY PROGRAM, IN A SANDBOX (cutbox-rows.mjs): the forced cells as the released guide's own fill.sh prints them over the translation 7fe4d9adb14b90d6… (all of the seat's roots in one cut). By AI agents, Wed Nov 11 2026. No macro, syntax, notation, axiom, sorry.
-/
import Derived.Test.YtgjplbanfnomkaaChecked
import GoSem.Claim
import GoSem.ClaimJoined
import GoSem.ClaimMapViews
import Derived.JoinedTies
import Derived.KernelRfl
namespace Go.Proofs.Ytgjplbanfnomkaa
/- THE CELL 'sum', in the pinned program and in every row, IS THE sha256 OF THE DUMP (.gsa) THAT YtgjplbanfnomkaaProg.lean LOADS. Nothing in Lean hashes anything: it is a label: what it is worth is what the hold of that sum in a sandbox is worth. -/
noncomputable def Try.pinned : Pinned := { name := "ytgjplbanfnomkaa", sum := "7fe4d9adb14b90d66ec7a4ad6a3ab301238beb2f5ef342ec183e4f86c843b627", checked := Try.checked }
namespace Rows
def none {H : Type} : Left H := { results := [], args := [] }

/-- 'seisinlaw17.LinePlays': WHATEVER THE INPUT: true; the input reads as it did. -/
def linePlaysSpec : ChangeSpec := { name := "linePlays", fn := fun _ => fun
  | [d1, d2, d3] => { results := [.lit (.bool true)], args := [d1, d2, d3] }
  | _ => none }
def linePlaysRow : OpenClaim := { program := "ytgjplbanfnomkaa", sum := "7fe4d9adb14b90d66ec7a4ad6a3ab301238beb2f5ef342ec183e4f86c843b627", func := "seisin/seisinlaw17.LinePlays", spec := "linePlays", inPlace := ["slices.overlaps[seisin/api.Item]"], unfollowed := true, recurses := true, apart := false }
def LinePlaysSaid : Prop := linePlaysRow.holds Try.pinned (OpenSpec.ofChange linePlaysSpec)

/-- ITS FALSE NEIGHBOUR: 'it returns false'. Refute it at one input. -/
def linePlaysWrong : ChangeSpec := { name := "linePlays", fn := fun _ => fun
  | [d1, d2, d3] => { results := [.lit (.bool false)], args := [d1, d2, d3] }
  | _ => none }
def LinePlaysWrongFalsely : Prop := linePlaysRow.holds Try.pinned (OpenSpec.ofChange linePlaysWrong)

/-- 'seisinlaw17.LineFull': WHATEVER THE INPUT: true; the input reads as it did. -/
def lineFullSpec : ChangeSpec := { name := "lineFull", fn := fun _ => fun
  | [d1, d2] => { results := [.lit (.bool true)], args := [d1, d2] }
  | _ => none }
def lineFullRow : OpenClaim := { program := "ytgjplbanfnomkaa", sum := "7fe4d9adb14b90d66ec7a4ad6a3ab301238beb2f5ef342ec183e4f86c843b627", func := "seisin/seisinlaw17.LineFull", spec := "lineFull", inPlace := ["slices.overlaps[seisin/api.Item]"], unfollowed := true, recurses := true, apart := false }
def LineFullSaid : Prop := lineFullRow.holds Try.pinned (OpenSpec.ofChange lineFullSpec)

/-- ITS FALSE NEIGHBOUR: 'it returns false'. Refute it at one input. -/
def lineFullWrong : ChangeSpec := { name := "lineFull", fn := fun _ => fun
  | [d1, d2] => { results := [.lit (.bool false)], args := [d1, d2] }
  | _ => none }
def LineFullWrongFalsely : Prop := lineFullRow.holds Try.pinned (OpenSpec.ofChange lineFullWrong)

/-- 'seisinlaw17.LineMatch': WHATEVER THE INPUT: true; the input reads as it did. -/
def lineMatchSpec : ChangeSpec := { name := "lineMatch", fn := fun _ => fun
  | [d1, d2, d3] => { results := [.lit (.bool true)], args := [d1, d2, d3] }
  | _ => none }
def lineMatchRow : OpenClaim := { program := "ytgjplbanfnomkaa", sum := "7fe4d9adb14b90d66ec7a4ad6a3ab301238beb2f5ef342ec183e4f86c843b627", func := "seisin/seisinlaw17.LineMatch", spec := "lineMatch", inPlace := ["slices.overlaps[seisin/api.Item]"], unfollowed := true, recurses := true, apart := false }
def LineMatchSaid : Prop := lineMatchRow.holds Try.pinned (OpenSpec.ofChange lineMatchSpec)

/-- ITS FALSE NEIGHBOUR: 'it returns false'. Refute it at one input. -/
def lineMatchWrong : ChangeSpec := { name := "lineMatch", fn := fun _ => fun
  | [d1, d2, d3] => { results := [.lit (.bool false)], args := [d1, d2, d3] }
  | _ => none }
def LineMatchWrongFalsely : Prop := lineMatchRow.holds Try.pinned (OpenSpec.ofChange lineMatchWrong)

/-- 'seisinlaw17.LineBytes': WHATEVER THE INPUT: true; the input reads as it did. -/
def lineBytesSpec : ChangeSpec := { name := "lineBytes", fn := fun _ => fun
  | [d1, d2, d3, d4] => { results := [.lit (.bool true)], args := [d1, d2, d3, d4] }
  | _ => none }
def lineBytesRow : OpenClaim := { program := "ytgjplbanfnomkaa", sum := "7fe4d9adb14b90d66ec7a4ad6a3ab301238beb2f5ef342ec183e4f86c843b627", func := "seisin/seisinlaw17.LineBytes", spec := "lineBytes", inPlace := ["slices.overlaps[seisin/api.Item]"], unfollowed := true, recurses := true, apart := false }
def LineBytesSaid : Prop := lineBytesRow.holds Try.pinned (OpenSpec.ofChange lineBytesSpec)

/-- ITS FALSE NEIGHBOUR: 'it returns false'. Refute it at one input. -/
def lineBytesWrong : ChangeSpec := { name := "lineBytes", fn := fun _ => fun
  | [d1, d2, d3, d4] => { results := [.lit (.bool false)], args := [d1, d2, d3, d4] }
  | _ => none }
def LineBytesWrongFalsely : Prop := lineBytesRow.holds Try.pinned (OpenSpec.ofChange lineBytesWrong)

/- THE SECOND FORM. 'bulk': how many values and letters a reading holds, each counted each time it is reached (what is shared counts as often as it is met; a slice's spare places count too). A statement '..UptoSaid' is the law's where the arguments, and the package variables that the reading takes, are together of bulk at most 1048576: NARROWER than '..Said'. Prove '..Said' where nothing that the law and all that it calls make is longer than what came in: it says more and counts as full. Else prove '..UptoSaid'. A law counts once. -/
mutual
def uptoBulk {H : Type} : DataW H → Nat
  | .lit (.string bytes) => bytes.length + 1
  | .lit _ => 1
  | .nil => 1
  | .ptr d => uptoBulk d + 1
  | .slice elems spare => uptoBulkAll elems + uptoBulkAll spare + 1
  | .agg parts => uptoBulkAll parts + 1
  | .iface _ d => uptoBulk d + 1
  | .map entries => uptoBulkEntries entries + 1
  | .held _ => 1
def uptoBulkAll {H : Type} : List (DataW H) → Nat
  | [] => 0
  | d :: r => uptoBulk d + uptoBulkAll r
def uptoBulkEntries {H : Type} : List (Lit × DataW H) → Nat
  | [] => 0
  | x :: r => uptoBulkEntry x + uptoBulkEntries r
def uptoBulkEntry {H : Type} : Lit × DataW H → Nat
  | (.string bytes, d) => bytes.length + uptoBulk d + 1
  | (_, d) => uptoBulk d + 1
 end
def uptoSmall : (H : Type) → List (DataW H) → Bool := fun _ ds => decide (uptoBulkAll ds ≤ 1048576)
def OpenSpec.upto (s : _root_.Go.ChangeSpec) : _root_.Go.OpenSpec := { _root_.Go.OpenSpec.ofChange s with cond := some uptoSmall }

/-- 'seisinlaw17.LinePlays', WHERE WHAT IT READS IS OF BULK AT MOST 1048576: true; the input reads as it did. -/
def linePlaysUptoRow : OpenClaim := { program := "ytgjplbanfnomkaa", sum := "7fe4d9adb14b90d66ec7a4ad6a3ab301238beb2f5ef342ec183e4f86c843b627", func := "seisin/seisinlaw17.LinePlays", spec := "linePlays", inPlace := ["slices.overlaps[seisin/api.Item]"], unfollowed := true, recurses := true, apart := false, narrowed := true }
def LinePlaysUptoSaid : Prop := linePlaysUptoRow.holds Try.pinned (OpenSpec.upto linePlaysSpec)

/-- 'seisinlaw17.LineFull', WHERE WHAT IT READS IS OF BULK AT MOST 1048576: true; the input reads as it did. -/
def lineFullUptoRow : OpenClaim := { program := "ytgjplbanfnomkaa", sum := "7fe4d9adb14b90d66ec7a4ad6a3ab301238beb2f5ef342ec183e4f86c843b627", func := "seisin/seisinlaw17.LineFull", spec := "lineFull", inPlace := ["slices.overlaps[seisin/api.Item]"], unfollowed := true, recurses := true, apart := false, narrowed := true }
def LineFullUptoSaid : Prop := lineFullUptoRow.holds Try.pinned (OpenSpec.upto lineFullSpec)

/-- 'seisinlaw17.LineMatch', WHERE WHAT IT READS IS OF BULK AT MOST 1048576: true; the input reads as it did. -/
def lineMatchUptoRow : OpenClaim := { program := "ytgjplbanfnomkaa", sum := "7fe4d9adb14b90d66ec7a4ad6a3ab301238beb2f5ef342ec183e4f86c843b627", func := "seisin/seisinlaw17.LineMatch", spec := "lineMatch", inPlace := ["slices.overlaps[seisin/api.Item]"], unfollowed := true, recurses := true, apart := false, narrowed := true }
def LineMatchUptoSaid : Prop := lineMatchUptoRow.holds Try.pinned (OpenSpec.upto lineMatchSpec)

/-- 'seisinlaw17.LineBytes', WHERE WHAT IT READS IS OF BULK AT MOST 1048576: true; the input reads as it did. -/
def lineBytesUptoRow : OpenClaim := { program := "ytgjplbanfnomkaa", sum := "7fe4d9adb14b90d66ec7a4ad6a3ab301238beb2f5ef342ec183e4f86c843b627", func := "seisin/seisinlaw17.LineBytes", spec := "lineBytes", inPlace := ["slices.overlaps[seisin/api.Item]"], unfollowed := true, recurses := true, apart := false, narrowed := true }
def LineBytesUptoSaid : Prop := lineBytesUptoRow.holds Try.pinned (OpenSpec.upto lineBytesSpec)

end Rows
end Go.Proofs.Ytgjplbanfnomkaa
