/-
  DERIVED. GIVEN WITH THE SEED: THE CARDS: each row of YthbheobjhpmoeaaDoorRows.lean that lists a variable, with what it lists TIED to the program's text (the seventh form; the later family's looks); each row that meets fmt, with fmt's text TOLD by the authors' own Lean function (tested against real Go, not proved from fmt's source: count such statements apart). THE CARD IS WHAT COUNTS. Prove the row's statement (the work); the ties are given (YthbheobjhpmoeaaDoorTie.lean); close each card by the builder's one call (the guide's Derived/Test/ToyasCard.lean, 'card_holds'). Laid BY PROGRAM, IN A SANDBOX (cutbox-door.mjs). By AI agents, Wed Nov 11 2026. No macro, syntax, notation, axiom, sorry.
-/
import Derived.Test.YthbheobjhpmoeaaDoorRows
import GoSem.ClaimSeven
namespace Go.Proofs.YthbheobjhpmoeaaDoor
namespace Rows

/-- THE TIED CARD OF 'seisinlaw13.ScrollForms'. -/
def scrollFormsCard : Claim7 := { stood := { row := scrollFormsRow, standIns := [], harness := (true, "8dc4cda493bb0118f9a228cbfbc6feeadaa5325f48414804079b0d7ad9801da9"), looks := true }, kinds := [], alts := [], laidByText := true, laidKinds := [.data, .data], laidTests := true, laidLooks := .later }
def ScrollFormsCardSaid : Prop := Claim7.holds Tryd.pinned (.plain (OpenSpec.ofChange scrollFormsSpec)) scrollFormsCard

/-- THE TIED CARD OF 'seisinlaw13.ScrollLong'. -/
def scrollLongCard : Claim7 := { stood := { row := scrollLongRow, standIns := [], harness := (true, "8dc4cda493bb0118f9a228cbfbc6feeadaa5325f48414804079b0d7ad9801da9"), looks := true }, kinds := [], alts := [], laidByText := true, laidKinds := [.data, .data], laidTests := true, laidLooks := .later }
def ScrollLongCardSaid : Prop := Claim7.holds Tryd.pinned (.plain (OpenSpec.ofChange scrollLongSpec)) scrollLongCard

/-- THE TIED CARD OF 'seisinlaw13.ScrollScans'. -/
def scrollScansCard : Claim7 := { stood := { row := scrollScansRow, standIns := [], harness := (true, "8dc4cda493bb0118f9a228cbfbc6feeadaa5325f48414804079b0d7ad9801da9"), looks := true }, kinds := [], alts := [], laidByText := true, laidKinds := [.data, .data], laidTests := true, laidLooks := .later }
def ScrollScansCardSaid : Prop := Claim7.holds Tryd.pinned (.plain (OpenSpec.ofChange scrollScansSpec)) scrollScansCard

/-- THE TIED CARD OF 'seisinlaw13.ScrollKeeps'. -/
def scrollKeepsCard : Claim7 := { stood := { row := scrollKeepsRow, standIns := [], harness := (true, "8dc4cda493bb0118f9a228cbfbc6feeadaa5325f48414804079b0d7ad9801da9"), looks := true }, kinds := [], alts := [], laidByText := true, laidKinds := [.data, .data], laidTests := true, laidLooks := .later }
def ScrollKeepsCardSaid : Prop := Claim7.holds Tryd.pinned (.plain (OpenSpec.ofChange scrollKeepsSpec)) scrollKeepsCard

/-- THE TIED CARD OF 'seisinlaw13.ScrollOther'. -/
def scrollOtherCard : Claim7 := { stood := { row := scrollOtherRow, standIns := [], harness := (true, "8dc4cda493bb0118f9a228cbfbc6feeadaa5325f48414804079b0d7ad9801da9"), looks := true }, kinds := [], alts := [], laidByText := true, laidKinds := [.data, .data], laidTests := true, laidLooks := .later }
def ScrollOtherCardSaid : Prop := Claim7.holds Tryd.pinned (.plain (OpenSpec.ofChange scrollOtherSpec)) scrollOtherCard

/-- THE TIED CARD OF 'seisinlaw13.ScrollGone'. -/
def scrollGoneCard : Claim7 := { stood := { row := scrollGoneRow, standIns := [], harness := (true, "8dc4cda493bb0118f9a228cbfbc6feeadaa5325f48414804079b0d7ad9801da9"), looks := true }, kinds := [], alts := [], laidByText := true, laidKinds := [.data, .data], laidTests := true, laidLooks := .later }
def ScrollGoneCardSaid : Prop := Claim7.holds Tryd.pinned (.plain (OpenSpec.ofChange scrollGoneSpec)) scrollGoneCard

/-- THE SECOND FORM's CARD OF 'seisinlaw13.ScrollForms'. -/
def scrollFormsUptoCard : Claim7 := { stood := { row := scrollFormsUptoRow, standIns := [], harness := (true, "8dc4cda493bb0118f9a228cbfbc6feeadaa5325f48414804079b0d7ad9801da9"), looks := true }, kinds := [], alts := [], laidByText := true, laidKinds := [.data, .data], laidTests := true, laidLooks := .later }
def ScrollFormsUptoCardSaid : Prop := Claim7.holds Tryd.pinned (.plain (OpenSpec.upto scrollFormsSpec)) scrollFormsUptoCard

/-- THE SECOND FORM's CARD OF 'seisinlaw13.ScrollLong'. -/
def scrollLongUptoCard : Claim7 := { stood := { row := scrollLongUptoRow, standIns := [], harness := (true, "8dc4cda493bb0118f9a228cbfbc6feeadaa5325f48414804079b0d7ad9801da9"), looks := true }, kinds := [], alts := [], laidByText := true, laidKinds := [.data, .data], laidTests := true, laidLooks := .later }
def ScrollLongUptoCardSaid : Prop := Claim7.holds Tryd.pinned (.plain (OpenSpec.upto scrollLongSpec)) scrollLongUptoCard

/-- THE SECOND FORM's CARD OF 'seisinlaw13.ScrollScans'. -/
def scrollScansUptoCard : Claim7 := { stood := { row := scrollScansUptoRow, standIns := [], harness := (true, "8dc4cda493bb0118f9a228cbfbc6feeadaa5325f48414804079b0d7ad9801da9"), looks := true }, kinds := [], alts := [], laidByText := true, laidKinds := [.data, .data], laidTests := true, laidLooks := .later }
def ScrollScansUptoCardSaid : Prop := Claim7.holds Tryd.pinned (.plain (OpenSpec.upto scrollScansSpec)) scrollScansUptoCard

/-- THE SECOND FORM's CARD OF 'seisinlaw13.ScrollKeeps'. -/
def scrollKeepsUptoCard : Claim7 := { stood := { row := scrollKeepsUptoRow, standIns := [], harness := (true, "8dc4cda493bb0118f9a228cbfbc6feeadaa5325f48414804079b0d7ad9801da9"), looks := true }, kinds := [], alts := [], laidByText := true, laidKinds := [.data, .data], laidTests := true, laidLooks := .later }
def ScrollKeepsUptoCardSaid : Prop := Claim7.holds Tryd.pinned (.plain (OpenSpec.upto scrollKeepsSpec)) scrollKeepsUptoCard

/-- THE SECOND FORM's CARD OF 'seisinlaw13.ScrollOther'. -/
def scrollOtherUptoCard : Claim7 := { stood := { row := scrollOtherUptoRow, standIns := [], harness := (true, "8dc4cda493bb0118f9a228cbfbc6feeadaa5325f48414804079b0d7ad9801da9"), looks := true }, kinds := [], alts := [], laidByText := true, laidKinds := [.data, .data], laidTests := true, laidLooks := .later }
def ScrollOtherUptoCardSaid : Prop := Claim7.holds Tryd.pinned (.plain (OpenSpec.upto scrollOtherSpec)) scrollOtherUptoCard

/-- THE SECOND FORM's CARD OF 'seisinlaw13.ScrollGone'. -/
def scrollGoneUptoCard : Claim7 := { stood := { row := scrollGoneUptoRow, standIns := [], harness := (true, "8dc4cda493bb0118f9a228cbfbc6feeadaa5325f48414804079b0d7ad9801da9"), looks := true }, kinds := [], alts := [], laidByText := true, laidKinds := [.data, .data], laidTests := true, laidLooks := .later }
def ScrollGoneUptoCardSaid : Prop := Claim7.holds Tryd.pinned (.plain (OpenSpec.upto scrollGoneSpec)) scrollGoneUptoCard
end Rows
end Go.Proofs.YthbheobjhpmoeaaDoor
