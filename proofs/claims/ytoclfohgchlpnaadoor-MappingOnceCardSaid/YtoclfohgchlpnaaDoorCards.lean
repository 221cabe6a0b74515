/-
  DERIVED. GIVEN WITH THE SEED: THE CARDS: each row of YtoclfohgchlpnaaDoorRows.lean that lists a variable, with what it lists TIED to the program's text (the seventh form; the later family's looks); each row that meets fmt, with fmt's text TOLD by the authors' own Lean function (tested against real Go, not proved from fmt's source: count such statements apart). THE CARD IS WHAT COUNTS. Prove the row's statement (the work); the ties are given (YtoclfohgchlpnaaDoorTie.lean); close each card by the builder's one call (the guide's Derived/Test/ToyasCard.lean, 'card_holds'). Laid BY PROGRAM, IN A SANDBOX (cutbox-door.mjs). By AI agents, Wed Nov 11 2026. No macro, syntax, notation, axiom, sorry.
-/
import Derived.Test.YtoclfohgchlpnaaDoorRows
import GoSem.ClaimSeven
namespace Go.Proofs.YtoclfohgchlpnaaDoor
namespace Rows

/-- THE TIED CARD OF 'seisinlaw08.MappingOf'. -/
def mappingOfCard : Claim7 := { stood := { row := mappingOfRow, standIns := [], harness := (true, "e6f043f9412713a683e30cc82e981806238eb0d0726363d80ec1f34c160e1b5b"), looks := false }, kinds := [], alts := [], laidByText := true, laidKinds := [.data, .data], laidTests := true, laidLooks := .later }
def MappingOfCardSaid : Prop := Claim7.holds Tryd.pinned (.plain (OpenSpec.ofChange mappingOfSpec)) mappingOfCard

/-- THE TIED CARD OF 'seisinlaw08.MappingTells'. -/
def mappingTellsCard : Claim7 := { stood := { row := mappingTellsRow, standIns := [], harness := (true, "e6f043f9412713a683e30cc82e981806238eb0d0726363d80ec1f34c160e1b5b"), looks := false }, kinds := [], alts := [], laidByText := true, laidKinds := [.data, .data], laidTests := true, laidLooks := .later }
def MappingTellsCardSaid : Prop := Claim7.holds Tryd.pinned (.plain (OpenSpec.ofChange mappingTellsSpec)) mappingTellsCard

/-- THE TIED CARD OF 'seisinlaw08.MappingOnce'. -/
def mappingOnceCard : Claim7 := { stood := { row := mappingOnceRow, standIns := [], harness := (true, "e6f043f9412713a683e30cc82e981806238eb0d0726363d80ec1f34c160e1b5b"), looks := false }, kinds := [], alts := [], laidByText := true, laidKinds := [.data, .data], laidTests := true, laidLooks := .later }
def MappingOnceCardSaid : Prop := Claim7.holds Tryd.pinned (.plain (OpenSpec.ofChange mappingOnceSpec)) mappingOnceCard

/-- THE TIED CARD OF 'seisinlaw08.MappingOne'. -/
def mappingOneCard : Claim7 := { stood := { row := mappingOneRow, standIns := [], harness := (true, "e6f043f9412713a683e30cc82e981806238eb0d0726363d80ec1f34c160e1b5b"), looks := false }, kinds := [], alts := [], laidByText := true, laidKinds := [.data, .data], laidTests := true, laidLooks := .later }
def MappingOneCardSaid : Prop := Claim7.holds Tryd.pinned (.plain (OpenSpec.ofChange mappingOneSpec)) mappingOneCard

/-- THE SECOND FORM's CARD OF 'seisinlaw08.MappingOf'. -/
def mappingOfUptoCard : Claim7 := { stood := { row := mappingOfUptoRow, standIns := [], harness := (true, "e6f043f9412713a683e30cc82e981806238eb0d0726363d80ec1f34c160e1b5b"), looks := false }, kinds := [], alts := [], laidByText := true, laidKinds := [.data, .data], laidTests := true, laidLooks := .later }
def MappingOfUptoCardSaid : Prop := Claim7.holds Tryd.pinned (.plain (OpenSpec.upto mappingOfSpec)) mappingOfUptoCard

/-- THE SECOND FORM's CARD OF 'seisinlaw08.MappingTells'. -/
def mappingTellsUptoCard : Claim7 := { stood := { row := mappingTellsUptoRow, standIns := [], harness := (true, "e6f043f9412713a683e30cc82e981806238eb0d0726363d80ec1f34c160e1b5b"), looks := false }, kinds := [], alts := [], laidByText := true, laidKinds := [.data, .data], laidTests := true, laidLooks := .later }
def MappingTellsUptoCardSaid : Prop := Claim7.holds Tryd.pinned (.plain (OpenSpec.upto mappingTellsSpec)) mappingTellsUptoCard

/-- THE SECOND FORM's CARD OF 'seisinlaw08.MappingOnce'. -/
def mappingOnceUptoCard : Claim7 := { stood := { row := mappingOnceUptoRow, standIns := [], harness := (true, "e6f043f9412713a683e30cc82e981806238eb0d0726363d80ec1f34c160e1b5b"), looks := false }, kinds := [], alts := [], laidByText := true, laidKinds := [.data, .data], laidTests := true, laidLooks := .later }
def MappingOnceUptoCardSaid : Prop := Claim7.holds Tryd.pinned (.plain (OpenSpec.upto mappingOnceSpec)) mappingOnceUptoCard

/-- THE SECOND FORM's CARD OF 'seisinlaw08.MappingOne'. -/
def mappingOneUptoCard : Claim7 := { stood := { row := mappingOneUptoRow, standIns := [], harness := (true, "e6f043f9412713a683e30cc82e981806238eb0d0726363d80ec1f34c160e1b5b"), looks := false }, kinds := [], alts := [], laidByText := true, laidKinds := [.data, .data], laidTests := true, laidLooks := .later }
def MappingOneUptoCardSaid : Prop := Claim7.holds Tryd.pinned (.plain (OpenSpec.upto mappingOneSpec)) mappingOneUptoCard
end Rows
end Go.Proofs.YtoclfohgchlpnaaDoor
