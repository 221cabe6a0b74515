/-
  DERIVED. GIVEN WITH THE SEED: THE CARDS: each row of YthoaaieiiokcmaaDoorRows.lean that lists a variable, with what it lists TIED to the program's text (the seventh form; the later family's looks); each row that meets fmt, with fmt's text TOLD by the authors' own Lean function (tested against real Go, not proved from fmt's source: count such statements apart). THE CARD IS WHAT COUNTS. Prove the row's statement (the work); the ties are given (YthoaaieiiokcmaaDoorTie.lean); close each card by the builder's one call (the guide's Derived/Test/ToyasCard.lean, 'card_holds'). Laid BY PROGRAM, IN A SANDBOX (cutbox-door.mjs). By AI agents, Wed Nov 11 2026. No macro, syntax, notation, axiom, sorry.
-/
import Derived.Test.YthoaaieiiokcmaaDoorRows
import GoSem.ClaimSeven
namespace Go.Proofs.YthoaaieiiokcmaaDoor
namespace Rows

/-- THE TIED CARD OF 'seisinlaw11.CertTells'. -/
def certTellsCard : Claim7 := { stood := { row := certTellsRow, standIns := [], harness := (true, "b7c223a2739427eb7de02ffa9e6adb35be3900798727f804ef54f316ebdf000f"), looks := true }, kinds := [], alts := [], laidByText := true, laidKinds := [.data, .data], laidTests := true, laidLooks := .later }
def CertTellsCardSaid : Prop := Claim7.holds Tryd.pinned (.plain (OpenSpec.ofChange certTellsSpec)) certTellsCard

/-- THE TIED CARD OF 'seisinlaw11.CertMakes'. -/
def certMakesCard : Claim7 := { stood := { row := certMakesRow, standIns := [], harness := (true, "b7c223a2739427eb7de02ffa9e6adb35be3900798727f804ef54f316ebdf000f"), looks := true }, kinds := [], alts := [], laidByText := true, laidKinds := [.data, .data], laidTests := true, laidLooks := .later }
def CertMakesCardSaid : Prop := Claim7.holds Tryd.pinned (.plain (OpenSpec.ofChange certMakesSpec)) certMakesCard

/-- THE TIED CARD OF 'seisinlaw11.CertForms'. -/
def certFormsCard : Claim7 := { stood := { row := certFormsRow, standIns := [], harness := (true, "b7c223a2739427eb7de02ffa9e6adb35be3900798727f804ef54f316ebdf000f"), looks := true }, kinds := [], alts := [], laidByText := true, laidKinds := [.data, .data], laidTests := true, laidLooks := .later }
def CertFormsCardSaid : Prop := Claim7.holds Tryd.pinned (.plain (OpenSpec.ofChange certFormsSpec)) certFormsCard

/-- THE TIED CARD OF 'seisinlaw11.CertSame'. -/
def certSameCard : Claim7 := { stood := { row := certSameRow, standIns := [], harness := (true, "b7c223a2739427eb7de02ffa9e6adb35be3900798727f804ef54f316ebdf000f"), looks := true }, kinds := [], alts := [], laidByText := true, laidKinds := [.data, .data], laidTests := true, laidLooks := .later }
def CertSameCardSaid : Prop := Claim7.holds Tryd.pinned (.plain (OpenSpec.ofChange certSameSpec)) certSameCard

/-- THE SECOND FORM's CARD OF 'seisinlaw11.CertTells'. -/
def certTellsUptoCard : Claim7 := { stood := { row := certTellsUptoRow, standIns := [], harness := (true, "b7c223a2739427eb7de02ffa9e6adb35be3900798727f804ef54f316ebdf000f"), looks := true }, kinds := [], alts := [], laidByText := true, laidKinds := [.data, .data], laidTests := true, laidLooks := .later }
def CertTellsUptoCardSaid : Prop := Claim7.holds Tryd.pinned (.plain (OpenSpec.upto certTellsSpec)) certTellsUptoCard

/-- THE SECOND FORM's CARD OF 'seisinlaw11.CertMakes'. -/
def certMakesUptoCard : Claim7 := { stood := { row := certMakesUptoRow, standIns := [], harness := (true, "b7c223a2739427eb7de02ffa9e6adb35be3900798727f804ef54f316ebdf000f"), looks := true }, kinds := [], alts := [], laidByText := true, laidKinds := [.data, .data], laidTests := true, laidLooks := .later }
def CertMakesUptoCardSaid : Prop := Claim7.holds Tryd.pinned (.plain (OpenSpec.upto certMakesSpec)) certMakesUptoCard

/-- THE SECOND FORM's CARD OF 'seisinlaw11.CertForms'. -/
def certFormsUptoCard : Claim7 := { stood := { row := certFormsUptoRow, standIns := [], harness := (true, "b7c223a2739427eb7de02ffa9e6adb35be3900798727f804ef54f316ebdf000f"), looks := true }, kinds := [], alts := [], laidByText := true, laidKinds := [.data, .data], laidTests := true, laidLooks := .later }
def CertFormsUptoCardSaid : Prop := Claim7.holds Tryd.pinned (.plain (OpenSpec.upto certFormsSpec)) certFormsUptoCard

/-- THE SECOND FORM's CARD OF 'seisinlaw11.CertSame'. -/
def certSameUptoCard : Claim7 := { stood := { row := certSameUptoRow, standIns := [], harness := (true, "b7c223a2739427eb7de02ffa9e6adb35be3900798727f804ef54f316ebdf000f"), looks := true }, kinds := [], alts := [], laidByText := true, laidKinds := [.data, .data], laidTests := true, laidLooks := .later }
def CertSameUptoCardSaid : Prop := Claim7.holds Tryd.pinned (.plain (OpenSpec.upto certSameSpec)) certSameUptoCard
end Rows
end Go.Proofs.YthoaaieiiokcmaaDoor
