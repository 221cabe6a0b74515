/-
  No cell of these rows narrows 'for every input' (looked for: loops, veiled, ifaces, maps, wideKeys, modest, calm, conditions, laid).
  DERIVED. THE GIVEN ROWS OF THIS SEAT. 6 by the template 'for every input the law returns true; each argument reads behind the call as it read before'; 0 by the template 'total and deterministic' (their statements: YtmkpoodhhpfgpaaTotals.lean).
  GIVEN WITH THE SEED: the statements are not yours to turn. If you find one false, say at which input.
  Laid BY PROGRAM, IN A SANDBOX (cutbox-rows.mjs): the forced cells as the released guide's own fill.sh prints them over the translation 39df01f1e590e416… (all of the seat's roots in one cut). By AI agents, Wed Nov 11 2026. No macro, syntax, notation, axiom, sorry.
-/
import Derived.Test.YtmkpoodhhpfgpaaChecked
import GoSem.Claim
import GoSem.ClaimJoined
import GoSem.ClaimMapViews
import Derived.JoinedTies
import Derived.KernelRfl
namespace Go.Proofs.Ytmkpoodhhpfgpaa
/- THE CELL 'sum', in the pinned program and in every row, IS THE sha256 OF THE DUMP (.gsa) THAT YtmkpoodhhpfgpaaProg.lean LOADS. Nothing in Lean hashes anything: it is a label: what it is worth is what the hold of that sum in a sandbox is worth. -/
noncomputable def Try.pinned : Pinned := { name := "ytmkpoodhhpfgpaa", sum := "39df01f1e590e4160fba4c3ee6d2d64a24fc1c0de8f93c77d9cc9c408640fbe1", checked := Try.checked }
namespace Rows
def none {H : Type} : Left H := { results := [], args := [] }

/-- 'seisinlaw16.VoteTells': WHATEVER THE INPUT: true; the input reads as it did. -/
def voteTellsSpec : ChangeSpec := { name := "voteTells", fn := fun _ => fun
  | [d1, d2, d3, d4, d5, d6, d7, d8] => { results := [.lit (.bool true)], args := [d1, d2, d3, d4, d5, d6, d7, d8] }
  | _ => none }
def voteTellsRow : OpenClaim := { program := "ytmkpoodhhpfgpaa", sum := "39df01f1e590e4160fba4c3ee6d2d64a24fc1c0de8f93c77d9cc9c408640fbe1", func := "seisin/seisinlaw16.VoteTells", spec := "voteTells", unfollowed := true, recurses := true, apart := false }
def VoteTellsSaid : Prop := voteTellsRow.holds Try.pinned (OpenSpec.ofChange voteTellsSpec)

/-- ITS FALSE NEIGHBOUR: 'it returns false'. Refute it at one input. -/
def voteTellsWrong : ChangeSpec := { name := "voteTells", fn := fun _ => fun
  | [d1, d2, d3, d4, d5, d6, d7, d8] => { results := [.lit (.bool false)], args := [d1, d2, d3, d4, d5, d6, d7, d8] }
  | _ => none }
def VoteTellsWrongFalsely : Prop := voteTellsRow.holds Try.pinned (OpenSpec.ofChange voteTellsWrong)

/-- 'seisinlaw16.VoteAgreed': WHATEVER THE INPUT: true; the input reads as it did. -/
def voteAgreedSpec : ChangeSpec := { name := "voteAgreed", fn := fun _ => fun
  | [d] => { results := [.lit (.bool true)], args := [d] }
  | _ => none }
def voteAgreedRow : OpenClaim := { program := "ytmkpoodhhpfgpaa", sum := "39df01f1e590e4160fba4c3ee6d2d64a24fc1c0de8f93c77d9cc9c408640fbe1", func := "seisin/seisinlaw16.VoteAgreed", spec := "voteAgreed", unfollowed := true, recurses := true, apart := false }
def VoteAgreedSaid : Prop := voteAgreedRow.holds Try.pinned (OpenSpec.ofChange voteAgreedSpec)

/-- ITS FALSE NEIGHBOUR: 'it returns false'. Refute it at one input. -/
def voteAgreedWrong : ChangeSpec := { name := "voteAgreed", fn := fun _ => fun
  | [d] => { results := [.lit (.bool false)], args := [d] }
  | _ => none }
def VoteAgreedWrongFalsely : Prop := voteAgreedRow.holds Try.pinned (OpenSpec.ofChange voteAgreedWrong)

/-- 'seisinlaw16.VoteOne': WHATEVER THE INPUT: true; the input reads as it did. -/
def voteOneSpec : ChangeSpec := { name := "voteOne", fn := fun _ => fun
  | [d] => { results := [.lit (.bool true)], args := [d] }
  | _ => none }
def voteOneRow : OpenClaim := { program := "ytmkpoodhhpfgpaa", sum := "39df01f1e590e4160fba4c3ee6d2d64a24fc1c0de8f93c77d9cc9c408640fbe1", func := "seisin/seisinlaw16.VoteOne", spec := "voteOne", unfollowed := true, recurses := true, apart := false }
def VoteOneSaid : Prop := voteOneRow.holds Try.pinned (OpenSpec.ofChange voteOneSpec)

/-- ITS FALSE NEIGHBOUR: 'it returns false'. Refute it at one input. -/
def voteOneWrong : ChangeSpec := { name := "voteOne", fn := fun _ => fun
  | [d] => { results := [.lit (.bool false)], args := [d] }
  | _ => none }
def VoteOneWrongFalsely : Prop := voteOneRow.holds Try.pinned (OpenSpec.ofChange voteOneWrong)

/-- 'seisinlaw16.VoteMeet': WHATEVER THE INPUT: true; the input reads as it did. -/
def voteMeetSpec : ChangeSpec := { name := "voteMeet", fn := fun _ => fun
  | [d1, d2, d3, d4] => { results := [.lit (.bool true)], args := [d1, d2, d3, d4] }
  | _ => none }
def voteMeetRow : OpenClaim := { program := "ytmkpoodhhpfgpaa", sum := "39df01f1e590e4160fba4c3ee6d2d64a24fc1c0de8f93c77d9cc9c408640fbe1", func := "seisin/seisinlaw16.VoteMeet", spec := "voteMeet", unfollowed := true, recurses := true, apart := false }
def VoteMeetSaid : Prop := voteMeetRow.holds Try.pinned (OpenSpec.ofChange voteMeetSpec)

/-- ITS FALSE NEIGHBOUR: 'it returns false'. Refute it at one input. -/
def voteMeetWrong : ChangeSpec := { name := "voteMeet", fn := fun _ => fun
  | [d1, d2, d3, d4] => { results := [.lit (.bool false)], args := [d1, d2, d3, d4] }
  | _ => none }
def VoteMeetWrongFalsely : Prop := voteMeetRow.holds Try.pinned (OpenSpec.ofChange voteMeetWrong)

/-- 'seisinlaw16.VoteBytes': WHATEVER THE INPUT: true; the input reads as it did. -/
def voteBytesSpec : ChangeSpec := { name := "voteBytes", fn := fun _ => fun
  | [d1, d2] => { results := [.lit (.bool true)], args := [d1, d2] }
  | _ => none }
def voteBytesRow : OpenClaim := { program := "ytmkpoodhhpfgpaa", sum := "39df01f1e590e4160fba4c3ee6d2d64a24fc1c0de8f93c77d9cc9c408640fbe1", func := "seisin/seisinlaw16.VoteBytes", spec := "voteBytes", unfollowed := true, recurses := true, apart := false }
def VoteBytesSaid : Prop := voteBytesRow.holds Try.pinned (OpenSpec.ofChange voteBytesSpec)

/-- ITS FALSE NEIGHBOUR: 'it returns false'. Refute it at one input. -/
def voteBytesWrong : ChangeSpec := { name := "voteBytes", fn := fun _ => fun
  | [d1, d2] => { results := [.lit (.bool false)], args := [d1, d2] }
  | _ => none }
def VoteBytesWrongFalsely : Prop := voteBytesRow.holds Try.pinned (OpenSpec.ofChange voteBytesWrong)

/-- 'seisinlaw16.VoteNew': WHATEVER THE INPUT: true; the input reads as it did. -/
def voteNewSpec : ChangeSpec := { name := "voteNew", fn := fun _ => fun
  | [d1, d2, d3, d4, d5, d6] => { results := [.lit (.bool true)], args := [d1, d2, d3, d4, d5, d6] }
  | _ => none }
def voteNewRow : OpenClaim := { program := "ytmkpoodhhpfgpaa", sum := "39df01f1e590e4160fba4c3ee6d2d64a24fc1c0de8f93c77d9cc9c408640fbe1", func := "seisin/seisinlaw16.VoteNew", spec := "voteNew", unfollowed := true, recurses := true, apart := false }
def VoteNewSaid : Prop := voteNewRow.holds Try.pinned (OpenSpec.ofChange voteNewSpec)

/-- ITS FALSE NEIGHBOUR: 'it returns false'. Refute it at one input. -/
def voteNewWrong : ChangeSpec := { name := "voteNew", fn := fun _ => fun
  | [d1, d2, d3, d4, d5, d6] => { results := [.lit (.bool false)], args := [d1, d2, d3, d4, d5, d6] }
  | _ => none }
def VoteNewWrongFalsely : Prop := voteNewRow.holds Try.pinned (OpenSpec.ofChange voteNewWrong)

/- THE SECOND FORM. 'bulk': how many values and letters a reading holds, each counted each time it is reached (what is shared counts as often as it is met; a slice's spare places count too). A statement '..UptoSaid' is the law's where the arguments, and the package variables that the reading takes, are together of bulk at most 1048576: NARROWER than '..Said'. Prove '..Said' where nothing that the law and all that it calls make is longer than what came in: it says more and counts as full. Else prove '..UptoSaid'. A law counts once. -/
mutual
def uptoBulk {H : Type} : DataW H → Nat
  | .lit (.string bytes) => bytes.length + 1
  | .lit _ => 1
  | .nil => 1
  | .ptr d => uptoBulk d + 1
  | .slice elems spare => uptoBulkAll elems + uptoBulkAll spare + 1
  | .agg parts => uptoBulkAll parts + 1
  | .iface _ d => uptoBulk d + 1
  | .map entries => uptoBulkEntries entries + 1
  | .held _ => 1
def uptoBulkAll {H : Type} : List (DataW H) → Nat
  | [] => 0
  | d :: r => uptoBulk d + uptoBulkAll r
def uptoBulkEntries {H : Type} : List (Lit × DataW H) → Nat
  | [] => 0
  | x :: r => uptoBulkEntry x + uptoBulkEntries r
def uptoBulkEntry {H : Type} : Lit × DataW H → Nat
  | (.string bytes, d) => bytes.length + uptoBulk d + 1
  | (_, d) => uptoBulk d + 1
 end
def uptoSmall : (H : Type) → List (DataW H) → Bool := fun _ ds => decide (uptoBulkAll ds ≤ 1048576)
def OpenSpec.upto (s : _root_.Go.ChangeSpec) : _root_.Go.OpenSpec := { _root_.Go.OpenSpec.ofChange s with cond := some uptoSmall }

/-- 'seisinlaw16.VoteTells', WHERE WHAT IT READS IS OF BULK AT MOST 1048576: true; the input reads as it did. -/
def voteTellsUptoRow : OpenClaim := { program := "ytmkpoodhhpfgpaa", sum := "39df01f1e590e4160fba4c3ee6d2d64a24fc1c0de8f93c77d9cc9c408640fbe1", func := "seisin/seisinlaw16.VoteTells", spec := "voteTells", unfollowed := true, recurses := true, apart := false, narrowed := true }
def VoteTellsUptoSaid : Prop := voteTellsUptoRow.holds Try.pinned (OpenSpec.upto voteTellsSpec)

/-- 'seisinlaw16.VoteAgreed', WHERE WHAT IT READS IS OF BULK AT MOST 1048576: true; the input reads as it did. -/
def voteAgreedUptoRow : OpenClaim := { program := "ytmkpoodhhpfgpaa", sum := "39df01f1e590e4160fba4c3ee6d2d64a24fc1c0de8f93c77d9cc9c408640fbe1", func := "seisin/seisinlaw16.VoteAgreed", spec := "voteAgreed", unfollowed := true, recurses := true, apart := false, narrowed := true }
def VoteAgreedUptoSaid : Prop := voteAgreedUptoRow.holds Try.pinned (OpenSpec.upto voteAgreedSpec)

/-- 'seisinlaw16.VoteOne', WHERE WHAT IT READS IS OF BULK AT MOST 1048576: true; the input reads as it did. -/
def voteOneUptoRow : OpenClaim := { program := "ytmkpoodhhpfgpaa", sum := "39df01f1e590e4160fba4c3ee6d2d64a24fc1c0de8f93c77d9cc9c408640fbe1", func := "seisin/seisinlaw16.VoteOne", spec := "voteOne", unfollowed := true, recurses := true, apart := false, narrowed := true }
def VoteOneUptoSaid : Prop := voteOneUptoRow.holds Try.pinned (OpenSpec.upto voteOneSpec)

/-- 'seisinlaw16.VoteMeet', WHERE WHAT IT READS IS OF BULK AT MOST 1048576: true; the input reads as it did. -/
def voteMeetUptoRow : OpenClaim := { program := "ytmkpoodhhpfgpaa", sum := "39df01f1e590e4160fba4c3ee6d2d64a24fc1c0de8f93c77d9cc9c408640fbe1", func := "seisin/seisinlaw16.VoteMeet", spec := "voteMeet", unfollowed := true, recurses := true, apart := false, narrowed := true }
def VoteMeetUptoSaid : Prop := voteMeetUptoRow.holds Try.pinned (OpenSpec.upto voteMeetSpec)

/-- 'seisinlaw16.VoteBytes', WHERE WHAT IT READS IS OF BULK AT MOST 1048576: true; the input reads as it did. -/
def voteBytesUptoRow : OpenClaim := { program := "ytmkpoodhhpfgpaa", sum := "39df01f1e590e4160fba4c3ee6d2d64a24fc1c0de8f93c77d9cc9c408640fbe1", func := "seisin/seisinlaw16.VoteBytes", spec := "voteBytes", unfollowed := true, recurses := true, apart := false, narrowed := true }
def VoteBytesUptoSaid : Prop := voteBytesUptoRow.holds Try.pinned (OpenSpec.upto voteBytesSpec)

/-- 'seisinlaw16.VoteNew', WHERE WHAT IT READS IS OF BULK AT MOST 1048576: true; the input reads as it did. -/
def voteNewUptoRow : OpenClaim := { program := "ytmkpoodhhpfgpaa", sum := "39df01f1e590e4160fba4c3ee6d2d64a24fc1c0de8f93c77d9cc9c408640fbe1", func := "seisin/seisinlaw16.VoteNew", spec := "voteNew", unfollowed := true, recurses := true, apart := false, narrowed := true }
def VoteNewUptoSaid : Prop := voteNewUptoRow.holds Try.pinned (OpenSpec.upto voteNewSpec)

end Rows
end Go.Proofs.Ytmkpoodhhpfgpaa
