/-
  DERIVED. GIVEN WITH THE SEED: THE CARDS: each row of YtoagneibaincpaaDoorRows.lean that lists a variable, with what it lists TIED to the program's text (the seventh form; the later family's looks); each row that meets fmt, with fmt's text TOLD by the authors' own Lean function (tested against real Go, not proved from fmt's source: count such statements apart). THE CARD IS WHAT COUNTS. Prove the row's statement (the work); the ties are given (YtoagneibaincpaaDoorTie.lean); close each card by the builder's one call (the guide's Derived/Test/ToyasCard.lean, 'card_holds'). Laid BY PROGRAM, IN A SANDBOX (cutbox-door.mjs). By AI agents, Wed Nov 11 2026. No macro, syntax, notation, axiom, sorry.
-/
import Derived.Test.YtoagneibaincpaaDoorRows
import GoSem.ClaimSeven
namespace Go.Proofs.YtoagneibaincpaaDoor
namespace Rows

/-- THE TIED CARD OF 'seisinlaw10.HeaderForms'. -/
def headerFormsCard : Claim7 := { stood := { row := headerFormsRow, standIns := [], harness := (true, "d9f950cd243b4efdeb058875bd294c35de047cb845c21dbd6bc134cc09549575"), looks := true }, kinds := [], alts := [], laidByText := true, laidKinds := [.data, .data], laidTests := true, laidLooks := .later }
def HeaderFormsCardSaid : Prop := Claim7.holds Tryd.pinned (.plain (OpenSpec.ofChange headerFormsSpec)) headerFormsCard

/-- THE TIED CARD OF 'seisinlaw10.HeaderReads'. -/
def headerReadsCard : Claim7 := { stood := { row := headerReadsRow, standIns := [], harness := (true, "d9f950cd243b4efdeb058875bd294c35de047cb845c21dbd6bc134cc09549575"), looks := true }, kinds := [], alts := [], laidByText := true, laidKinds := [.data, .data], laidTests := true, laidLooks := .later }
def HeaderReadsCardSaid : Prop := Claim7.holds Tryd.pinned (.plain (OpenSpec.ofChange headerReadsSpec)) headerReadsCard

/-- THE TIED CARD OF 'seisinlaw10.HeaderNext'. -/
def headerNextCard : Claim7 := { stood := { row := headerNextRow, standIns := [], harness := (true, "d9f950cd243b4efdeb058875bd294c35de047cb845c21dbd6bc134cc09549575"), looks := true }, kinds := [], alts := [], laidByText := true, laidKinds := [.data, .data], laidTests := true, laidLooks := .later }
def HeaderNextCardSaid : Prop := Claim7.holds Tryd.pinned (.plain (OpenSpec.ofChange headerNextSpec)) headerNextCard

/-- THE TIED CARD OF 'seisinlaw10.HeaderFollows'. -/
def headerFollowsCard : Claim7 := { stood := { row := headerFollowsRow, standIns := [], harness := (true, "d9f950cd243b4efdeb058875bd294c35de047cb845c21dbd6bc134cc09549575"), looks := true }, kinds := [], alts := [], laidByText := true, laidKinds := [.data, .data], laidTests := true, laidLooks := .later }
def HeaderFollowsCardSaid : Prop := Claim7.holds Tryd.pinned (.plain (OpenSpec.ofChange headerFollowsSpec)) headerFollowsCard

/-- THE TIED CARD OF 'seisinlaw10.HeaderRow'. -/
def headerRowCard : Claim7 := { stood := { row := headerRowRow, standIns := [], harness := (true, "d9f950cd243b4efdeb058875bd294c35de047cb845c21dbd6bc134cc09549575"), looks := true }, kinds := [], alts := [], laidByText := true, laidKinds := [.data, .data], laidTests := true, laidLooks := .later }
def HeaderRowCardSaid : Prop := Claim7.holds Tryd.pinned (.plain (OpenSpec.ofChange headerRowSpec)) headerRowCard

/-- THE SECOND FORM's CARD OF 'seisinlaw10.HeaderForms'. -/
def headerFormsUptoCard : Claim7 := { stood := { row := headerFormsUptoRow, standIns := [], harness := (true, "d9f950cd243b4efdeb058875bd294c35de047cb845c21dbd6bc134cc09549575"), looks := true }, kinds := [], alts := [], laidByText := true, laidKinds := [.data, .data], laidTests := true, laidLooks := .later }
def HeaderFormsUptoCardSaid : Prop := Claim7.holds Tryd.pinned (.plain (OpenSpec.upto headerFormsSpec)) headerFormsUptoCard

/-- THE SECOND FORM's CARD OF 'seisinlaw10.HeaderReads'. -/
def headerReadsUptoCard : Claim7 := { stood := { row := headerReadsUptoRow, standIns := [], harness := (true, "d9f950cd243b4efdeb058875bd294c35de047cb845c21dbd6bc134cc09549575"), looks := true }, kinds := [], alts := [], laidByText := true, laidKinds := [.data, .data], laidTests := true, laidLooks := .later }
def HeaderReadsUptoCardSaid : Prop := Claim7.holds Tryd.pinned (.plain (OpenSpec.upto headerReadsSpec)) headerReadsUptoCard

/-- THE SECOND FORM's CARD OF 'seisinlaw10.HeaderNext'. -/
def headerNextUptoCard : Claim7 := { stood := { row := headerNextUptoRow, standIns := [], harness := (true, "d9f950cd243b4efdeb058875bd294c35de047cb845c21dbd6bc134cc09549575"), looks := true }, kinds := [], alts := [], laidByText := true, laidKinds := [.data, .data], laidTests := true, laidLooks := .later }
def HeaderNextUptoCardSaid : Prop := Claim7.holds Tryd.pinned (.plain (OpenSpec.upto headerNextSpec)) headerNextUptoCard

/-- THE SECOND FORM's CARD OF 'seisinlaw10.HeaderFollows'. -/
def headerFollowsUptoCard : Claim7 := { stood := { row := headerFollowsUptoRow, standIns := [], harness := (true, "d9f950cd243b4efdeb058875bd294c35de047cb845c21dbd6bc134cc09549575"), looks := true }, kinds := [], alts := [], laidByText := true, laidKinds := [.data, .data], laidTests := true, laidLooks := .later }
def HeaderFollowsUptoCardSaid : Prop := Claim7.holds Tryd.pinned (.plain (OpenSpec.upto headerFollowsSpec)) headerFollowsUptoCard

/-- THE SECOND FORM's CARD OF 'seisinlaw10.HeaderRow'. -/
def headerRowUptoCard : Claim7 := { stood := { row := headerRowUptoRow, standIns := [], harness := (true, "d9f950cd243b4efdeb058875bd294c35de047cb845c21dbd6bc134cc09549575"), looks := true }, kinds := [], alts := [], laidByText := true, laidKinds := [.data, .data], laidTests := true, laidLooks := .later }
def HeaderRowUptoCardSaid : Prop := Claim7.holds Tryd.pinned (.plain (OpenSpec.upto headerRowSpec)) headerRowUptoCard
end Rows
end Go.Proofs.YtoagneibaincpaaDoor
