/-
  DERIVED. GIVEN WITH THE SEED: THE CARDS: each row of YtppkjlmnnpfcfaaDoorRows.lean that lists a variable, with what it lists TIED to the program's text (the seventh form; the later family's looks); each row that meets fmt, with fmt's text TOLD by the authors' own Lean function (tested against real Go, not proved from fmt's source: count such statements apart). THE CARD IS WHAT COUNTS. Prove the row's statement (the work); the ties are given (YtppkjlmnnpfcfaaDoorTie.lean); close each card by the builder's one call (the guide's Derived/Test/ToyasCard.lean, 'card_holds'). Laid BY PROGRAM, IN A SANDBOX (cutbox-door.mjs). By AI agents, Wed Nov 11 2026. No macro, syntax, notation, axiom, sorry.
-/
import Derived.Test.YtppkjlmnnpfcfaaDoorRows
import GoSem.ClaimSeven
namespace Go.Proofs.YtppkjlmnnpfcfaaDoor
namespace Rows

/-- THE TIED CARD OF 'seisinlaw05.TreeTells'. -/
def treeTellsCard : Claim7 := { stood := { row := treeTellsRow, standIns := [], harness := (true, "b50b734e53782dddd34aa8b78d2f621e7fe51b8c0f72fda12a27010848bffd64"), looks := false }, kinds := [], alts := [], laidByText := true, laidKinds := [.data, .data], laidTests := true, laidLooks := .later }
def TreeTellsCardSaid : Prop := Claim7.holds Tryd.pinned (.plain (OpenSpec.ofChange treeTellsSpec)) treeTellsCard

/-- THE TIED CARD OF 'seisinlaw05.TreeAny'. -/
def treeAnyCard : Claim7 := { stood := { row := treeAnyRow, standIns := [], harness := (true, "b50b734e53782dddd34aa8b78d2f621e7fe51b8c0f72fda12a27010848bffd64"), looks := false }, kinds := [], alts := [], laidByText := true, laidKinds := [.data, .data], laidTests := true, laidLooks := .later }
def TreeAnyCardSaid : Prop := Claim7.holds Tryd.pinned (.plain (OpenSpec.ofChange treeAnySpec)) treeAnyCard

/-- THE TIED CARD OF 'seisinlaw05.TreeClimbs'. -/
def treeClimbsCard : Claim7 := { stood := { row := treeClimbsRow, standIns := [], harness := (true, "b50b734e53782dddd34aa8b78d2f621e7fe51b8c0f72fda12a27010848bffd64"), looks := false }, kinds := [], alts := [], laidByText := true, laidKinds := [.data, .data], laidTests := true, laidLooks := .later }
def TreeClimbsCardSaid : Prop := Claim7.holds Tryd.pinned (.plain (OpenSpec.ofChange treeClimbsSpec)) treeClimbsCard

/-- THE TIED CARD OF 'seisinlaw05.TreeOther'. -/
def treeOtherCard : Claim7 := { stood := { row := treeOtherRow, standIns := [], harness := (true, "b50b734e53782dddd34aa8b78d2f621e7fe51b8c0f72fda12a27010848bffd64"), looks := false }, kinds := [], alts := [], laidByText := true, laidKinds := [.data, .data], laidTests := true, laidLooks := .later }
def TreeOtherCardSaid : Prop := Claim7.holds Tryd.pinned (.plain (OpenSpec.ofChange treeOtherSpec)) treeOtherCard

/-- THE TIED CARD OF 'seisinlaw05.TreeRoots'. -/
def treeRootsCard : Claim7 := { stood := { row := treeRootsRow, standIns := [], harness := (true, "b50b734e53782dddd34aa8b78d2f621e7fe51b8c0f72fda12a27010848bffd64"), looks := false }, kinds := [], alts := [], laidByText := true, laidKinds := [.data, .data], laidTests := true, laidLooks := .later }
def TreeRootsCardSaid : Prop := Claim7.holds Tryd.pinned (.plain (OpenSpec.ofChange treeRootsSpec)) treeRootsCard

/-- THE SECOND FORM's CARD OF 'seisinlaw05.TreeTells'. -/
def treeTellsUptoCard : Claim7 := { stood := { row := treeTellsUptoRow, standIns := [], harness := (true, "b50b734e53782dddd34aa8b78d2f621e7fe51b8c0f72fda12a27010848bffd64"), looks := false }, kinds := [], alts := [], laidByText := true, laidKinds := [.data, .data], laidTests := true, laidLooks := .later }
def TreeTellsUptoCardSaid : Prop := Claim7.holds Tryd.pinned (.plain (OpenSpec.upto treeTellsSpec)) treeTellsUptoCard

/-- THE SECOND FORM's CARD OF 'seisinlaw05.TreeAny'. -/
def treeAnyUptoCard : Claim7 := { stood := { row := treeAnyUptoRow, standIns := [], harness := (true, "b50b734e53782dddd34aa8b78d2f621e7fe51b8c0f72fda12a27010848bffd64"), looks := false }, kinds := [], alts := [], laidByText := true, laidKinds := [.data, .data], laidTests := true, laidLooks := .later }
def TreeAnyUptoCardSaid : Prop := Claim7.holds Tryd.pinned (.plain (OpenSpec.upto treeAnySpec)) treeAnyUptoCard

/-- THE SECOND FORM's CARD OF 'seisinlaw05.TreeClimbs'. -/
def treeClimbsUptoCard : Claim7 := { stood := { row := treeClimbsUptoRow, standIns := [], harness := (true, "b50b734e53782dddd34aa8b78d2f621e7fe51b8c0f72fda12a27010848bffd64"), looks := false }, kinds := [], alts := [], laidByText := true, laidKinds := [.data, .data], laidTests := true, laidLooks := .later }
def TreeClimbsUptoCardSaid : Prop := Claim7.holds Tryd.pinned (.plain (OpenSpec.upto treeClimbsSpec)) treeClimbsUptoCard

/-- THE SECOND FORM's CARD OF 'seisinlaw05.TreeOther'. -/
def treeOtherUptoCard : Claim7 := { stood := { row := treeOtherUptoRow, standIns := [], harness := (true, "b50b734e53782dddd34aa8b78d2f621e7fe51b8c0f72fda12a27010848bffd64"), looks := false }, kinds := [], alts := [], laidByText := true, laidKinds := [.data, .data], laidTests := true, laidLooks := .later }
def TreeOtherUptoCardSaid : Prop := Claim7.holds Tryd.pinned (.plain (OpenSpec.upto treeOtherSpec)) treeOtherUptoCard

/-- THE SECOND FORM's CARD OF 'seisinlaw05.TreeRoots'. -/
def treeRootsUptoCard : Claim7 := { stood := { row := treeRootsUptoRow, standIns := [], harness := (true, "b50b734e53782dddd34aa8b78d2f621e7fe51b8c0f72fda12a27010848bffd64"), looks := false }, kinds := [], alts := [], laidByText := true, laidKinds := [.data, .data], laidTests := true, laidLooks := .later }
def TreeRootsUptoCardSaid : Prop := Claim7.holds Tryd.pinned (.plain (OpenSpec.upto treeRootsSpec)) treeRootsUptoCard
end Rows
end Go.Proofs.YtppkjlmnnpfcfaaDoor
