/-
  DERIVED. GIVEN WITH THE SEED: THE CARDS: each row of YtnhakcmnpmlopaaDoorRows.lean that lists a variable, with what it lists TIED to the program's text (the seventh form; the later family's looks); each row that meets fmt, with fmt's text TOLD by the authors' own Lean function (tested against real Go, not proved from fmt's source: count such statements apart). THE CARD IS WHAT COUNTS. Prove the row's statement (the work); the ties are given (YtnhakcmnpmlopaaDoorTie.lean); close each card by the builder's one call (the guide's Derived/Test/ToyasCard.lean, 'card_holds'). Laid BY PROGRAM, IN A SANDBOX (cutbox-door.mjs). By AI agents, Wed Nov 11 2026. No macro, syntax, notation, axiom, sorry.
-/
import Derived.Test.YtnhakcmnpmlopaaDoorRows
import GoSem.ClaimSeven
namespace Go.Proofs.YtnhakcmnpmlopaaDoor
namespace Rows

/-- THE TIED CARD OF 'seisinlaw06.TagTells'. -/
def tagTellsCard : Claim7 := { stood := { row := tagTellsRow, standIns := [], harness := (true, "dbed326b987fcf24055a4a362e86c750296b4be844c86349774524299a6354bd"), looks := false }, kinds := [], alts := [], laidByText := true, laidKinds := [.data, .data], laidTests := true, laidLooks := .later }
def TagTellsCardSaid : Prop := Claim7.holds Tryd.pinned (.plain (OpenSpec.ofChange tagTellsSpec)) tagTellsCard

/-- THE TIED CARD OF 'seisinlaw06.TagRings'. -/
def tagRingsCard : Claim7 := { stood := { row := tagRingsRow, standIns := [], harness := (true, "dbed326b987fcf24055a4a362e86c750296b4be844c86349774524299a6354bd"), looks := false }, kinds := [], alts := [], laidByText := true, laidKinds := [.data, .data], laidTests := true, laidLooks := .later }
def TagRingsCardSaid : Prop := Claim7.holds Tryd.pinned (.plain (OpenSpec.ofChange tagRingsSpec)) tagRingsCard

/-- THE TIED CARD OF 'seisinlaw06.TagOwn'. -/
def tagOwnCard : Claim7 := { stood := { row := tagOwnRow, standIns := [], harness := (true, "dbed326b987fcf24055a4a362e86c750296b4be844c86349774524299a6354bd"), looks := false }, kinds := [], alts := [], laidByText := true, laidKinds := [.data, .data], laidTests := true, laidLooks := .later }
def TagOwnCardSaid : Prop := Claim7.holds Tryd.pinned (.plain (OpenSpec.ofChange tagOwnSpec)) tagOwnCard

/-- THE TIED CARD OF 'seisinlaw06.TagShards'. -/
def tagShardsCard : Claim7 := { stood := { row := tagShardsRow, standIns := [], harness := (true, "dbed326b987fcf24055a4a362e86c750296b4be844c86349774524299a6354bd"), looks := false }, kinds := [], alts := [], laidByText := true, laidKinds := [.data, .data], laidTests := true, laidLooks := .later }
def TagShardsCardSaid : Prop := Claim7.holds Tryd.pinned (.plain (OpenSpec.ofChange tagShardsSpec)) tagShardsCard

/-- THE SECOND FORM's CARD OF 'seisinlaw06.TagTells'. -/
def tagTellsUptoCard : Claim7 := { stood := { row := tagTellsUptoRow, standIns := [], harness := (true, "dbed326b987fcf24055a4a362e86c750296b4be844c86349774524299a6354bd"), looks := false }, kinds := [], alts := [], laidByText := true, laidKinds := [.data, .data], laidTests := true, laidLooks := .later }
def TagTellsUptoCardSaid : Prop := Claim7.holds Tryd.pinned (.plain (OpenSpec.upto tagTellsSpec)) tagTellsUptoCard

/-- THE SECOND FORM's CARD OF 'seisinlaw06.TagRings'. -/
def tagRingsUptoCard : Claim7 := { stood := { row := tagRingsUptoRow, standIns := [], harness := (true, "dbed326b987fcf24055a4a362e86c750296b4be844c86349774524299a6354bd"), looks := false }, kinds := [], alts := [], laidByText := true, laidKinds := [.data, .data], laidTests := true, laidLooks := .later }
def TagRingsUptoCardSaid : Prop := Claim7.holds Tryd.pinned (.plain (OpenSpec.upto tagRingsSpec)) tagRingsUptoCard

/-- THE SECOND FORM's CARD OF 'seisinlaw06.TagOwn'. -/
def tagOwnUptoCard : Claim7 := { stood := { row := tagOwnUptoRow, standIns := [], harness := (true, "dbed326b987fcf24055a4a362e86c750296b4be844c86349774524299a6354bd"), looks := false }, kinds := [], alts := [], laidByText := true, laidKinds := [.data, .data], laidTests := true, laidLooks := .later }
def TagOwnUptoCardSaid : Prop := Claim7.holds Tryd.pinned (.plain (OpenSpec.upto tagOwnSpec)) tagOwnUptoCard

/-- THE SECOND FORM's CARD OF 'seisinlaw06.TagShards'. -/
def tagShardsUptoCard : Claim7 := { stood := { row := tagShardsUptoRow, standIns := [], harness := (true, "dbed326b987fcf24055a4a362e86c750296b4be844c86349774524299a6354bd"), looks := false }, kinds := [], alts := [], laidByText := true, laidKinds := [.data, .data], laidTests := true, laidLooks := .later }
def TagShardsUptoCardSaid : Prop := Claim7.holds Tryd.pinned (.plain (OpenSpec.upto tagShardsSpec)) tagShardsUptoCard
end Rows
end Go.Proofs.YtnhakcmnpmlopaaDoor
