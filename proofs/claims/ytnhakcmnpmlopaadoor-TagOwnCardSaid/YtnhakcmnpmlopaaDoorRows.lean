/-
  NARROWER THAN 'FOR EVERY INPUT', by the rows' own cells (each row's printed sentence says how): TagTells: laid · TagRings: laid · TagOwn: laid · TagShards: laid.
  DERIVED. THE GIVEN ROWS OF THIS SEAT. 4 by the template 'for every input the law returns true; each argument reads behind the call as it read before'; 0 by the template 'total and deterministic' (their statements: YtnhakcmnpmlopaaDoorTotals.lean).
  GIVEN WITH THE SEED: the statements are not yours to turn. If you find one false, say at which input.
  Laid BY PROGRAM, IN A SANDBOX (cutbox-rows.mjs): the forced cells as the released guide's own fill.sh prints them over the translation d6a3462206c8490b… (all of the seat's roots in one cut). By AI agents, Wed Nov 11 2026. No macro, syntax, notation, axiom, sorry.
-/
import Derived.Test.YtnhakcmnpmlopaaDoorChecked
import GoSem.Claim
import GoSem.ClaimJoined
import GoSem.ClaimMapViews
import Derived.JoinedTies
import Derived.KernelRfl
namespace Go.Proofs.YtnhakcmnpmlopaaDoor
/- THE CELL 'sum', in the pinned program and in every row, IS THE sha256 OF THE DUMP (.gsa) THAT YtnhakcmnpmlopaaDoorProg.lean LOADS. Nothing in Lean hashes anything: it is a label: what it is worth is what the hold of that sum in a sandbox is worth. -/
noncomputable def Tryd.pinned : Pinned := { name := "ytnhakcmnpmlopaadoor", sum := "d6a3462206c8490beea58098694faf85681c2cce8111f3bcbb003aa6b41877e1", checked := Tryd.checked }
namespace Rows
def none {H : Type} : Left H := { results := [], args := [] }

/- WHAT THE LISTED PACKAGE-LEVEL VARIABLES READ AS WHEN THE CALL BEGINS. Each datum BY PROGRAM (the guide's laid-datum.mjs) off the statement by which the dump's own 'gosem.cut.vars' lays the variable. In a bare row this is a premise. The card (YtnhakcmnpmlopaaDoorCards.lean) ties it to the program's text. -/
def laid_seisin_sha_startWords {H : Type} : DataW H := .agg [.lit (.int .u32 1779033703), .lit (.int .u32 3144134277), .lit (.int .u32 1013904242), .lit (.int .u32 2773480762), .lit (.int .u32 1359893119), .lit (.int .u32 2600822924), .lit (.int .u32 528734635), .lit (.int .u32 1541459225)]
def laid_seisin_sha_roundWords {H : Type} : DataW H := .agg [.lit (.int .u32 1116352408), .lit (.int .u32 1899447441), .lit (.int .u32 3049323471), .lit (.int .u32 3921009573), .lit (.int .u32 961987163), .lit (.int .u32 1508970993), .lit (.int .u32 2453635748), .lit (.int .u32 2870763221), .lit (.int .u32 3624381080), .lit (.int .u32 310598401), .lit (.int .u32 607225278), .lit (.int .u32 1426881987), .lit (.int .u32 1925078388), .lit (.int .u32 2162078206), .lit (.int .u32 2614888103), .lit (.int .u32 3248222580), .lit (.int .u32 3835390401), .lit (.int .u32 4022224774), .lit (.int .u32 264347078), .lit (.int .u32 604807628), .lit (.int .u32 770255983), .lit (.int .u32 1249150122), .lit (.int .u32 1555081692), .lit (.int .u32 1996064986), .lit (.int .u32 2554220882), .lit (.int .u32 2821834349), .lit (.int .u32 2952996808), .lit (.int .u32 3210313671), .lit (.int .u32 3336571891), .lit (.int .u32 3584528711), .lit (.int .u32 113926993), .lit (.int .u32 338241895), .lit (.int .u32 666307205), .lit (.int .u32 773529912), .lit (.int .u32 1294757372), .lit (.int .u32 1396182291), .lit (.int .u32 1695183700), .lit (.int .u32 1986661051), .lit (.int .u32 2177026350), .lit (.int .u32 2456956037), .lit (.int .u32 2730485921), .lit (.int .u32 2820302411), .lit (.int .u32 3259730800), .lit (.int .u32 3345764771), .lit (.int .u32 3516065817), .lit (.int .u32 3600352804), .lit (.int .u32 4094571909), .lit (.int .u32 275423344), .lit (.int .u32 430227734), .lit (.int .u32 506948616), .lit (.int .u32 659060556), .lit (.int .u32 883997877), .lit (.int .u32 958139571), .lit (.int .u32 1322822218), .lit (.int .u32 1537002063), .lit (.int .u32 1747873779), .lit (.int .u32 1955562222), .lit (.int .u32 2024104815), .lit (.int .u32 2227730452), .lit (.int .u32 2361852424), .lit (.int .u32 2428436474), .lit (.int .u32 2756734187), .lit (.int .u32 3204031479), .lit (.int .u32 3329325298)]

/-- 'seisinlaw06.TagTells': WHATEVER THE INPUT: true; the input reads as it did. -/
def tagTellsSpec : ChangeSpec := { name := "tagTells", fn := fun _ => fun
  | [d1, d2, d3] => { results := [.lit (.bool true)], args := [d1, d2, d3] }
  | _ => none }
def tagTellsRow : OpenClaim := { program := "ytnhakcmnpmlopaadoor", sum := "d6a3462206c8490beea58098694faf85681c2cce8111f3bcbb003aa6b41877e1", func := "seisin/seisinlaw06.TagTells", spec := "tagTells", named := ["seisin/sha.startWords", "seisin/sha.roundWords"], apart := false, laid := [("seisin/sha.startWords", laid_seisin_sha_startWords), ("seisin/sha.roundWords", laid_seisin_sha_roundWords)] }
def TagTellsSaid : Prop := tagTellsRow.holds Tryd.pinned (OpenSpec.ofChange tagTellsSpec)

/-- ITS FALSE NEIGHBOUR: 'it returns false'. Refute it at one input. -/
def tagTellsWrong : ChangeSpec := { name := "tagTells", fn := fun _ => fun
  | [d1, d2, d3] => { results := [.lit (.bool false)], args := [d1, d2, d3] }
  | _ => none }
def TagTellsWrongFalsely : Prop := tagTellsRow.holds Tryd.pinned (OpenSpec.ofChange tagTellsWrong)

/-- 'seisinlaw06.TagRings': WHATEVER THE INPUT: true; the input reads as it did. -/
def tagRingsSpec : ChangeSpec := { name := "tagRings", fn := fun _ => fun
  | [d1, d2, d3, d4, d5] => { results := [.lit (.bool true)], args := [d1, d2, d3, d4, d5] }
  | _ => none }
def tagRingsRow : OpenClaim := { program := "ytnhakcmnpmlopaadoor", sum := "d6a3462206c8490beea58098694faf85681c2cce8111f3bcbb003aa6b41877e1", func := "seisin/seisinlaw06.TagRings", spec := "tagRings", named := ["seisin/sha.startWords", "seisin/sha.roundWords"], apart := false, laid := [("seisin/sha.startWords", laid_seisin_sha_startWords), ("seisin/sha.roundWords", laid_seisin_sha_roundWords)] }
def TagRingsSaid : Prop := tagRingsRow.holds Tryd.pinned (OpenSpec.ofChange tagRingsSpec)

/-- ITS FALSE NEIGHBOUR: 'it returns false'. Refute it at one input. -/
def tagRingsWrong : ChangeSpec := { name := "tagRings", fn := fun _ => fun
  | [d1, d2, d3, d4, d5] => { results := [.lit (.bool false)], args := [d1, d2, d3, d4, d5] }
  | _ => none }
def TagRingsWrongFalsely : Prop := tagRingsRow.holds Tryd.pinned (OpenSpec.ofChange tagRingsWrong)

/-- 'seisinlaw06.TagOwn': WHATEVER THE INPUT: true; the input reads as it did. -/
def tagOwnSpec : ChangeSpec := { name := "tagOwn", fn := fun _ => fun
  | [d1, d2, d3, d4] => { results := [.lit (.bool true)], args := [d1, d2, d3, d4] }
  | _ => none }
def tagOwnRow : OpenClaim := { program := "ytnhakcmnpmlopaadoor", sum := "d6a3462206c8490beea58098694faf85681c2cce8111f3bcbb003aa6b41877e1", func := "seisin/seisinlaw06.TagOwn", spec := "tagOwn", named := ["seisin/sha.startWords", "seisin/sha.roundWords"], apart := false, laid := [("seisin/sha.startWords", laid_seisin_sha_startWords), ("seisin/sha.roundWords", laid_seisin_sha_roundWords)] }
def TagOwnSaid : Prop := tagOwnRow.holds Tryd.pinned (OpenSpec.ofChange tagOwnSpec)

/-- ITS FALSE NEIGHBOUR: 'it returns false'. Refute it at one input. -/
def tagOwnWrong : ChangeSpec := { name := "tagOwn", fn := fun _ => fun
  | [d1, d2, d3, d4] => { results := [.lit (.bool false)], args := [d1, d2, d3, d4] }
  | _ => none }
def TagOwnWrongFalsely : Prop := tagOwnRow.holds Tryd.pinned (OpenSpec.ofChange tagOwnWrong)

/-- 'seisinlaw06.TagShards': WHATEVER THE INPUT: true; the input reads as it did. -/
def tagShardsSpec : ChangeSpec := { name := "tagShards", fn := fun _ => fun
  | [d1, d2, d3, d4, d5] => { results := [.lit (.bool true)], args := [d1, d2, d3, d4, d5] }
  | _ => none }
def tagShardsRow : OpenClaim := { program := "ytnhakcmnpmlopaadoor", sum := "d6a3462206c8490beea58098694faf85681c2cce8111f3bcbb003aa6b41877e1", func := "seisin/seisinlaw06.TagShards", spec := "tagShards", named := ["seisin/sha.startWords", "seisin/sha.roundWords"], apart := false, laid := [("seisin/sha.startWords", laid_seisin_sha_startWords), ("seisin/sha.roundWords", laid_seisin_sha_roundWords)] }
def TagShardsSaid : Prop := tagShardsRow.holds Tryd.pinned (OpenSpec.ofChange tagShardsSpec)

/-- ITS FALSE NEIGHBOUR: 'it returns false'. Refute it at one input. -/
def tagShardsWrong : ChangeSpec := { name := "tagShards", fn := fun _ => fun
  | [d1, d2, d3, d4, d5] => { results := [.lit (.bool false)], args := [d1, d2, d3, d4, d5] }
  | _ => none }
def TagShardsWrongFalsely : Prop := tagShardsRow.holds Tryd.pinned (OpenSpec.ofChange tagShardsWrong)

/- THE SECOND FORM. 'bulk': how many values and letters a reading holds, each counted each time it is reached (what is shared counts as often as it is met; a slice's spare places count too). A statement '..UptoSaid' is the law's where the arguments, and the package variables that the reading takes, are together of bulk at most 1048576: NARROWER than '..Said'. Prove '..Said' where nothing that the law and all that it calls make is longer than what came in: it says more and counts as full. Else prove '..UptoSaid'. A law counts once. -/
mutual
def uptoBulk {H : Type} : DataW H → Nat
  | .lit (.string bytes) => bytes.length + 1
  | .lit _ => 1
  | .nil => 1
  | .ptr d => uptoBulk d + 1
  | .slice elems spare => uptoBulkAll elems + uptoBulkAll spare + 1
  | .agg parts => uptoBulkAll parts + 1
  | .iface _ d => uptoBulk d + 1
  | .map entries => uptoBulkEntries entries + 1
  | .held _ => 1
def uptoBulkAll {H : Type} : List (DataW H) → Nat
  | [] => 0
  | d :: r => uptoBulk d + uptoBulkAll r
def uptoBulkEntries {H : Type} : List (Lit × DataW H) → Nat
  | [] => 0
  | x :: r => uptoBulkEntry x + uptoBulkEntries r
def uptoBulkEntry {H : Type} : Lit × DataW H → Nat
  | (.string bytes, d) => bytes.length + uptoBulk d + 1
  | (_, d) => uptoBulk d + 1
 end
def uptoSmall : (H : Type) → List (DataW H) → Bool := fun _ ds => decide (uptoBulkAll ds ≤ 1048576)
def OpenSpec.upto (s : _root_.Go.ChangeSpec) : _root_.Go.OpenSpec := { _root_.Go.OpenSpec.ofChange s with cond := some uptoSmall }

/-- 'seisinlaw06.TagTells', WHERE WHAT IT READS IS OF BULK AT MOST 1048576: true; the input reads as it did. -/
def tagTellsUptoRow : OpenClaim := { program := "ytnhakcmnpmlopaadoor", sum := "d6a3462206c8490beea58098694faf85681c2cce8111f3bcbb003aa6b41877e1", func := "seisin/seisinlaw06.TagTells", spec := "tagTells", named := ["seisin/sha.startWords", "seisin/sha.roundWords"], apart := false, laid := [("seisin/sha.startWords", laid_seisin_sha_startWords), ("seisin/sha.roundWords", laid_seisin_sha_roundWords)], narrowed := true }
def TagTellsUptoSaid : Prop := tagTellsUptoRow.holds Tryd.pinned (OpenSpec.upto tagTellsSpec)

/-- 'seisinlaw06.TagRings', WHERE WHAT IT READS IS OF BULK AT MOST 1048576: true; the input reads as it did. -/
def tagRingsUptoRow : OpenClaim := { program := "ytnhakcmnpmlopaadoor", sum := "d6a3462206c8490beea58098694faf85681c2cce8111f3bcbb003aa6b41877e1", func := "seisin/seisinlaw06.TagRings", spec := "tagRings", named := ["seisin/sha.startWords", "seisin/sha.roundWords"], apart := false, laid := [("seisin/sha.startWords", laid_seisin_sha_startWords), ("seisin/sha.roundWords", laid_seisin_sha_roundWords)], narrowed := true }
def TagRingsUptoSaid : Prop := tagRingsUptoRow.holds Tryd.pinned (OpenSpec.upto tagRingsSpec)

/-- 'seisinlaw06.TagOwn', WHERE WHAT IT READS IS OF BULK AT MOST 1048576: true; the input reads as it did. -/
def tagOwnUptoRow : OpenClaim := { program := "ytnhakcmnpmlopaadoor", sum := "d6a3462206c8490beea58098694faf85681c2cce8111f3bcbb003aa6b41877e1", func := "seisin/seisinlaw06.TagOwn", spec := "tagOwn", named := ["seisin/sha.startWords", "seisin/sha.roundWords"], apart := false, laid := [("seisin/sha.startWords", laid_seisin_sha_startWords), ("seisin/sha.roundWords", laid_seisin_sha_roundWords)], narrowed := true }
def TagOwnUptoSaid : Prop := tagOwnUptoRow.holds Tryd.pinned (OpenSpec.upto tagOwnSpec)

/-- 'seisinlaw06.TagShards', WHERE WHAT IT READS IS OF BULK AT MOST 1048576: true; the input reads as it did. -/
def tagShardsUptoRow : OpenClaim := { program := "ytnhakcmnpmlopaadoor", sum := "d6a3462206c8490beea58098694faf85681c2cce8111f3bcbb003aa6b41877e1", func := "seisin/seisinlaw06.TagShards", spec := "tagShards", named := ["seisin/sha.startWords", "seisin/sha.roundWords"], apart := false, laid := [("seisin/sha.startWords", laid_seisin_sha_startWords), ("seisin/sha.roundWords", laid_seisin_sha_roundWords)], narrowed := true }
def TagShardsUptoSaid : Prop := tagShardsUptoRow.holds Tryd.pinned (OpenSpec.upto tagShardsSpec)

end Rows
end Go.Proofs.YtnhakcmnpmlopaaDoor
