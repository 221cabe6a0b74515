/-
  DERIVED. GIVEN WITH THE SEED: THE CARDS: each row of YtpoddemokeppmaaDoorRows.lean that lists a variable, with what it lists TIED to the program's text (the seventh form; the later family's looks); each row that meets fmt, with fmt's text TOLD by the authors' own Lean function (tested against real Go, not proved from fmt's source: count such statements apart). THE CARD IS WHAT COUNTS. Prove the row's statement (the work); the ties are given (YtpoddemokeppmaaDoorTie.lean); close each card by the builder's one call (the guide's Derived/Test/ToyasCard.lean, 'card_holds'). Laid BY PROGRAM, IN A SANDBOX (cutbox-door.mjs). By AI agents, Wed Nov 11 2026. No macro, syntax, notation, axiom, sorry.
-/
import Derived.Test.YtpoddemokeppmaaDoorRows
import GoSem.ClaimSeven
namespace Go.Proofs.YtpoddemokeppmaaDoor
namespace Rows

/-- THE TIED CARD OF 'seisinlaw07.TxForms'. -/
def txFormsCard : Claim7 := { stood := { row := txFormsRow, standIns := [], harness := (true, "f2cbcc25220297e46765304882d4ed050ac944559f847d8e2183f95d6f8e92a6"), looks := true }, kinds := [], alts := [], laidByText := true, laidKinds := [.data, .data], laidTests := true, laidLooks := .later }
def TxFormsCardSaid : Prop := Claim7.holds Tryd.pinned (.plain (OpenSpec.ofChange txFormsSpec)) txFormsCard

/-- THE TIED CARD OF 'seisinlaw07.TxSame'. -/
def txSameCard : Claim7 := { stood := { row := txSameRow, standIns := [], harness := (true, "f2cbcc25220297e46765304882d4ed050ac944559f847d8e2183f95d6f8e92a6"), looks := true }, kinds := [], alts := [], laidByText := true, laidKinds := [.data, .data], laidTests := true, laidLooks := .later }
def TxSameCardSaid : Prop := Claim7.holds Tryd.pinned (.plain (OpenSpec.ofChange txSameSpec)) txSameCard

/-- THE TIED CARD OF 'seisinlaw07.TxOwners'. -/
def txOwnersCard : Claim7 := { stood := { row := txOwnersRow, standIns := [], harness := (true, "f2cbcc25220297e46765304882d4ed050ac944559f847d8e2183f95d6f8e92a6"), looks := true }, kinds := [], alts := [], laidByText := true, laidKinds := [.data, .data], laidTests := true, laidLooks := .later }
def TxOwnersCardSaid : Prop := Claim7.holds Tryd.pinned (.plain (OpenSpec.ofChange txOwnersSpec)) txOwnersCard

/-- THE SECOND FORM's CARD OF 'seisinlaw07.TxForms'. -/
def txFormsUptoCard : Claim7 := { stood := { row := txFormsUptoRow, standIns := [], harness := (true, "f2cbcc25220297e46765304882d4ed050ac944559f847d8e2183f95d6f8e92a6"), looks := true }, kinds := [], alts := [], laidByText := true, laidKinds := [.data, .data], laidTests := true, laidLooks := .later }
def TxFormsUptoCardSaid : Prop := Claim7.holds Tryd.pinned (.plain (OpenSpec.upto txFormsSpec)) txFormsUptoCard

/-- THE SECOND FORM's CARD OF 'seisinlaw07.TxSame'. -/
def txSameUptoCard : Claim7 := { stood := { row := txSameUptoRow, standIns := [], harness := (true, "f2cbcc25220297e46765304882d4ed050ac944559f847d8e2183f95d6f8e92a6"), looks := true }, kinds := [], alts := [], laidByText := true, laidKinds := [.data, .data], laidTests := true, laidLooks := .later }
def TxSameUptoCardSaid : Prop := Claim7.holds Tryd.pinned (.plain (OpenSpec.upto txSameSpec)) txSameUptoCard

/-- THE SECOND FORM's CARD OF 'seisinlaw07.TxOwners'. -/
def txOwnersUptoCard : Claim7 := { stood := { row := txOwnersUptoRow, standIns := [], harness := (true, "f2cbcc25220297e46765304882d4ed050ac944559f847d8e2183f95d6f8e92a6"), looks := true }, kinds := [], alts := [], laidByText := true, laidKinds := [.data, .data], laidTests := true, laidLooks := .later }
def TxOwnersUptoCardSaid : Prop := Claim7.holds Tryd.pinned (.plain (OpenSpec.upto txOwnersSpec)) txOwnersUptoCard
end Rows
end Go.Proofs.YtpoddemokeppmaaDoor
