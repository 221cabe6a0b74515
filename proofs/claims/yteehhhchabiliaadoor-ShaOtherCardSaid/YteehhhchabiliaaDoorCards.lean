/-
  DERIVED. GIVEN WITH THE SEED: THE CARDS: each row of YteehhhchabiliaaDoorRows.lean that lists a variable, with what it lists TIED to the program's text (the seventh form; the later family's looks); each row that meets fmt, with fmt's text TOLD by the authors' own Lean function (tested against real Go, not proved from fmt's source: count such statements apart). THE CARD IS WHAT COUNTS. Prove the row's statement (the work); the ties are given (YteehhhchabiliaaDoorTie.lean); close each card by the builder's one call (the guide's Derived/Test/ToyasCard.lean, 'card_holds'). Laid BY PROGRAM, IN A SANDBOX (cutbox-door.mjs). By AI agents, Wed Nov 11 2026. No macro, syntax, notation, axiom, sorry.
-/
import Derived.Test.YteehhhchabiliaaDoorRows
import GoSem.ClaimSeven
namespace Go.Proofs.YteehhhchabiliaaDoor
namespace Rows

/-- THE TIED CARD OF 'seisinlaw03.ShaTells'. -/
def shaTellsCard : Claim7 := { stood := { row := shaTellsRow, standIns := [], harness := (true, "411b68945682ccf0ed8f947e2f54b696004be632d0f0c2e1e45fca0012b42577"), looks := false }, kinds := [], alts := [], laidByText := true, laidKinds := [.data, .data], laidTests := true, laidLooks := .later }
def ShaTellsCardSaid : Prop := Claim7.holds Tryd.pinned (.plain (OpenSpec.ofChange shaTellsSpec)) shaTellsCard

/-- THE TIED CARD OF 'seisinlaw03.ShaUnder'. -/
def shaUnderCard : Claim7 := { stood := { row := shaUnderRow, standIns := [], harness := (true, "411b68945682ccf0ed8f947e2f54b696004be632d0f0c2e1e45fca0012b42577"), looks := false }, kinds := [], alts := [], laidByText := true, laidKinds := [.data, .data], laidTests := true, laidLooks := .later }
def ShaUnderCardSaid : Prop := Claim7.holds Tryd.pinned (.plain (OpenSpec.ofChange shaUnderSpec)) shaUnderCard

/-- THE TIED CARD OF 'seisinlaw03.ShaOther'. -/
def shaOtherCard : Claim7 := { stood := { row := shaOtherRow, standIns := [], harness := (true, "411b68945682ccf0ed8f947e2f54b696004be632d0f0c2e1e45fca0012b42577"), looks := false }, kinds := [], alts := [], laidByText := true, laidKinds := [.data, .data], laidTests := true, laidLooks := .later }
def ShaOtherCardSaid : Prop := Claim7.holds Tryd.pinned (.plain (OpenSpec.ofChange shaOtherSpec)) shaOtherCard

/-- THE TIED CARD OF 'seisinlaw03.ShaRoots'. -/
def shaRootsCard : Claim7 := { stood := { row := shaRootsRow, standIns := [], harness := (true, "411b68945682ccf0ed8f947e2f54b696004be632d0f0c2e1e45fca0012b42577"), looks := false }, kinds := [], alts := [], laidByText := true, laidKinds := [.data, .data], laidTests := true, laidLooks := .later }
def ShaRootsCardSaid : Prop := Claim7.holds Tryd.pinned (.plain (OpenSpec.ofChange shaRootsSpec)) shaRootsCard

/-- THE SECOND FORM's CARD OF 'seisinlaw03.ShaTells'. -/
def shaTellsUptoCard : Claim7 := { stood := { row := shaTellsUptoRow, standIns := [], harness := (true, "411b68945682ccf0ed8f947e2f54b696004be632d0f0c2e1e45fca0012b42577"), looks := false }, kinds := [], alts := [], laidByText := true, laidKinds := [.data, .data], laidTests := true, laidLooks := .later }
def ShaTellsUptoCardSaid : Prop := Claim7.holds Tryd.pinned (.plain (OpenSpec.upto shaTellsSpec)) shaTellsUptoCard

/-- THE SECOND FORM's CARD OF 'seisinlaw03.ShaUnder'. -/
def shaUnderUptoCard : Claim7 := { stood := { row := shaUnderUptoRow, standIns := [], harness := (true, "411b68945682ccf0ed8f947e2f54b696004be632d0f0c2e1e45fca0012b42577"), looks := false }, kinds := [], alts := [], laidByText := true, laidKinds := [.data, .data], laidTests := true, laidLooks := .later }
def ShaUnderUptoCardSaid : Prop := Claim7.holds Tryd.pinned (.plain (OpenSpec.upto shaUnderSpec)) shaUnderUptoCard

/-- THE SECOND FORM's CARD OF 'seisinlaw03.ShaOther'. -/
def shaOtherUptoCard : Claim7 := { stood := { row := shaOtherUptoRow, standIns := [], harness := (true, "411b68945682ccf0ed8f947e2f54b696004be632d0f0c2e1e45fca0012b42577"), looks := false }, kinds := [], alts := [], laidByText := true, laidKinds := [.data, .data], laidTests := true, laidLooks := .later }
def ShaOtherUptoCardSaid : Prop := Claim7.holds Tryd.pinned (.plain (OpenSpec.upto shaOtherSpec)) shaOtherUptoCard

/-- THE SECOND FORM's CARD OF 'seisinlaw03.ShaRoots'. -/
def shaRootsUptoCard : Claim7 := { stood := { row := shaRootsUptoRow, standIns := [], harness := (true, "411b68945682ccf0ed8f947e2f54b696004be632d0f0c2e1e45fca0012b42577"), looks := false }, kinds := [], alts := [], laidByText := true, laidKinds := [.data, .data], laidTests := true, laidLooks := .later }
def ShaRootsUptoCardSaid : Prop := Claim7.holds Tryd.pinned (.plain (OpenSpec.upto shaRootsSpec)) shaRootsUptoCard
end Rows
end Go.Proofs.YteehhhchabiliaaDoor
