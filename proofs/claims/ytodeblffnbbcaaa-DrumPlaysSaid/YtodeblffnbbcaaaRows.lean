/-
  No cell of these rows narrows 'for every input' (looked for: loops, veiled, ifaces, maps, wideKeys, modest, calm, conditions, laid).
  DERIVED. THE GIVEN ROWS OF THIS SEAT. 4 by the template 'for every input the law returns true; each argument reads behind the call as it read before'; 0 by the template 'total and deterministic' (their statements: YtodeblffnbbcaaaTotals.lean).
  GIVEN WITH THE SEED: the statements are not yours to turn. If you find one false, say at which input.
  Laid BY PROGRAM, IN A SANDBOX (cutbox-rows.mjs): the forced cells as the released guide's own fill.sh prints them over the translation 196ead7d0fc25f20… (all of the seat's roots in one cut). By AI agents, Wed Nov 11 2026. No macro, syntax, notation, axiom, sorry.
-/
import Derived.Test.YtodeblffnbbcaaaChecked
import GoSem.Claim
import GoSem.ClaimJoined
import GoSem.ClaimMapViews
import Derived.JoinedTies
import Derived.KernelRfl
namespace Go.Proofs.Ytodeblffnbbcaaa
/- THE CELL 'sum', in the pinned program and in every row, IS THE sha256 OF THE DUMP (.gsa) THAT YtodeblffnbbcaaaProg.lean LOADS. Nothing in Lean hashes anything: it is a label: what it is worth is what the hold of that sum in a sandbox is worth. -/
noncomputable def Try.pinned : Pinned := { name := "ytodeblffnbbcaaa", sum := "196ead7d0fc25f20debbdc200faeee797c3d0a2ec2fc987896b2d671d902a5e1", checked := Try.checked }
namespace Rows
def none {H : Type} : Left H := { results := [], args := [] }

/-- 'seisinlaw12.DrumPlays': WHATEVER THE INPUT: true; the input reads as it did. -/
def drumPlaysSpec : ChangeSpec := { name := "drumPlays", fn := fun _ => fun
  | [d1, d2] => { results := [.lit (.bool true)], args := [d1, d2] }
  | _ => none }
def drumPlaysRow : OpenClaim := { program := "ytodeblffnbbcaaa", sum := "196ead7d0fc25f20debbdc200faeee797c3d0a2ec2fc987896b2d671d902a5e1", func := "seisin/seisinlaw12.DrumPlays", spec := "drumPlays", unfollowed := true, recurses := true, apart := false }
def DrumPlaysSaid : Prop := drumPlaysRow.holds Try.pinned (OpenSpec.ofChange drumPlaysSpec)

/-- ITS FALSE NEIGHBOUR: 'it returns false'. Refute it at one input. -/
def drumPlaysWrong : ChangeSpec := { name := "drumPlays", fn := fun _ => fun
  | [d1, d2] => { results := [.lit (.bool false)], args := [d1, d2] }
  | _ => none }
def DrumPlaysWrongFalsely : Prop := drumPlaysRow.holds Try.pinned (OpenSpec.ofChange drumPlaysWrong)

/-- 'seisinlaw12.DrumKeeps': WHATEVER THE INPUT: true; the input reads as it did. -/
def drumKeepsSpec : ChangeSpec := { name := "drumKeeps", fn := fun _ => fun
  | [d1, d2, d3] => { results := [.lit (.bool true)], args := [d1, d2, d3] }
  | _ => none }
def drumKeepsRow : OpenClaim := { program := "ytodeblffnbbcaaa", sum := "196ead7d0fc25f20debbdc200faeee797c3d0a2ec2fc987896b2d671d902a5e1", func := "seisin/seisinlaw12.DrumKeeps", spec := "drumKeeps", unfollowed := true, recurses := true, apart := false }
def DrumKeepsSaid : Prop := drumKeepsRow.holds Try.pinned (OpenSpec.ofChange drumKeepsSpec)

/-- ITS FALSE NEIGHBOUR: 'it returns false'. Refute it at one input. -/
def drumKeepsWrong : ChangeSpec := { name := "drumKeeps", fn := fun _ => fun
  | [d1, d2, d3] => { results := [.lit (.bool false)], args := [d1, d2, d3] }
  | _ => none }
def DrumKeepsWrongFalsely : Prop := drumKeepsRow.holds Try.pinned (OpenSpec.ofChange drumKeepsWrong)

/-- 'seisinlaw12.DrumApart': WHATEVER THE INPUT: true; the input reads as it did. -/
def drumApartSpec : ChangeSpec := { name := "drumApart", fn := fun _ => fun
  | [d] => { results := [.lit (.bool true)], args := [d] }
  | _ => none }
def drumApartRow : OpenClaim := { program := "ytodeblffnbbcaaa", sum := "196ead7d0fc25f20debbdc200faeee797c3d0a2ec2fc987896b2d671d902a5e1", func := "seisin/seisinlaw12.DrumApart", spec := "drumApart", unfollowed := true, recurses := true, apart := false }
def DrumApartSaid : Prop := drumApartRow.holds Try.pinned (OpenSpec.ofChange drumApartSpec)

/-- ITS FALSE NEIGHBOUR: 'it returns false'. Refute it at one input. -/
def drumApartWrong : ChangeSpec := { name := "drumApart", fn := fun _ => fun
  | [d] => { results := [.lit (.bool false)], args := [d] }
  | _ => none }
def DrumApartWrongFalsely : Prop := drumApartRow.holds Try.pinned (OpenSpec.ofChange drumApartWrong)

/-- 'seisinlaw12.DrumFuse': WHATEVER THE INPUT: true; the input reads as it did. -/
def drumFuseSpec : ChangeSpec := { name := "drumFuse", fn := fun _ => fun
  | [d1, d2] => { results := [.lit (.bool true)], args := [d1, d2] }
  | _ => none }
def drumFuseRow : OpenClaim := { program := "ytodeblffnbbcaaa", sum := "196ead7d0fc25f20debbdc200faeee797c3d0a2ec2fc987896b2d671d902a5e1", func := "seisin/seisinlaw12.DrumFuse", spec := "drumFuse", unfollowed := true, recurses := true, apart := false }
def DrumFuseSaid : Prop := drumFuseRow.holds Try.pinned (OpenSpec.ofChange drumFuseSpec)

/-- ITS FALSE NEIGHBOUR: 'it returns false'. Refute it at one input. -/
def drumFuseWrong : ChangeSpec := { name := "drumFuse", fn := fun _ => fun
  | [d1, d2] => { results := [.lit (.bool false)], args := [d1, d2] }
  | _ => none }
def DrumFuseWrongFalsely : Prop := drumFuseRow.holds Try.pinned (OpenSpec.ofChange drumFuseWrong)

/- THE SECOND FORM. 'bulk': how many values and letters a reading holds, each counted each time it is reached (what is shared counts as often as it is met; a slice's spare places count too). A statement '..UptoSaid' is the law's where the arguments, and the package variables that the reading takes, are together of bulk at most 1048576: NARROWER than '..Said'. Prove '..Said' where nothing that the law and all that it calls make is longer than what came in: it says more and counts as full. Else prove '..UptoSaid'. A law counts once. -/
mutual
def uptoBulk {H : Type} : DataW H → Nat
  | .lit (.string bytes) => bytes.length + 1
  | .lit _ => 1
  | .nil => 1
  | .ptr d => uptoBulk d + 1
  | .slice elems spare => uptoBulkAll elems + uptoBulkAll spare + 1
  | .agg parts => uptoBulkAll parts + 1
  | .iface _ d => uptoBulk d + 1
  | .map entries => uptoBulkEntries entries + 1
  | .held _ => 1
def uptoBulkAll {H : Type} : List (DataW H) → Nat
  | [] => 0
  | d :: r => uptoBulk d + uptoBulkAll r
def uptoBulkEntries {H : Type} : List (Lit × DataW H) → Nat
  | [] => 0
  | x :: r => uptoBulkEntry x + uptoBulkEntries r
def uptoBulkEntry {H : Type} : Lit × DataW H → Nat
  | (.string bytes, d) => bytes.length + uptoBulk d + 1
  | (_, d) => uptoBulk d + 1
 end
def uptoSmall : (H : Type) → List (DataW H) → Bool := fun _ ds => decide (uptoBulkAll ds ≤ 1048576)
def OpenSpec.upto (s : _root_.Go.ChangeSpec) : _root_.Go.OpenSpec := { _root_.Go.OpenSpec.ofChange s with cond := some uptoSmall }

/-- 'seisinlaw12.DrumPlays', WHERE WHAT IT READS IS OF BULK AT MOST 1048576: true; the input reads as it did. -/
def drumPlaysUptoRow : OpenClaim := { program := "ytodeblffnbbcaaa", sum := "196ead7d0fc25f20debbdc200faeee797c3d0a2ec2fc987896b2d671d902a5e1", func := "seisin/seisinlaw12.DrumPlays", spec := "drumPlays", unfollowed := true, recurses := true, apart := false, narrowed := true }
def DrumPlaysUptoSaid : Prop := drumPlaysUptoRow.holds Try.pinned (OpenSpec.upto drumPlaysSpec)

/-- 'seisinlaw12.DrumKeeps', WHERE WHAT IT READS IS OF BULK AT MOST 1048576: true; the input reads as it did. -/
def drumKeepsUptoRow : OpenClaim := { program := "ytodeblffnbbcaaa", sum := "196ead7d0fc25f20debbdc200faeee797c3d0a2ec2fc987896b2d671d902a5e1", func := "seisin/seisinlaw12.DrumKeeps", spec := "drumKeeps", unfollowed := true, recurses := true, apart := false, narrowed := true }
def DrumKeepsUptoSaid : Prop := drumKeepsUptoRow.holds Try.pinned (OpenSpec.upto drumKeepsSpec)

/-- 'seisinlaw12.DrumApart', WHERE WHAT IT READS IS OF BULK AT MOST 1048576: true; the input reads as it did. -/
def drumApartUptoRow : OpenClaim := { program := "ytodeblffnbbcaaa", sum := "196ead7d0fc25f20debbdc200faeee797c3d0a2ec2fc987896b2d671d902a5e1", func := "seisin/seisinlaw12.DrumApart", spec := "drumApart", unfollowed := true, recurses := true, apart := false, narrowed := true }
def DrumApartUptoSaid : Prop := drumApartUptoRow.holds Try.pinned (OpenSpec.upto drumApartSpec)

/-- 'seisinlaw12.DrumFuse', WHERE WHAT IT READS IS OF BULK AT MOST 1048576: true; the input reads as it did. -/
def drumFuseUptoRow : OpenClaim := { program := "ytodeblffnbbcaaa", sum := "196ead7d0fc25f20debbdc200faeee797c3d0a2ec2fc987896b2d671d902a5e1", func := "seisin/seisinlaw12.DrumFuse", spec := "drumFuse", unfollowed := true, recurses := true, apart := false, narrowed := true }
def DrumFuseUptoSaid : Prop := drumFuseUptoRow.holds Try.pinned (OpenSpec.upto drumFuseSpec)

end Rows
end Go.Proofs.Ytodeblffnbbcaaa
