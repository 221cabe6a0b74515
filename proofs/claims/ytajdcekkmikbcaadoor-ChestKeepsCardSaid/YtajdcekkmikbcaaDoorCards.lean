/-
  DERIVED. GIVEN WITH THE SEED: THE CARDS: each row of YtajdcekkmikbcaaDoorRows.lean that lists a variable, with what it lists TIED to the program's text (the seventh form; the later family's looks); each row that meets fmt, with fmt's text TOLD by the authors' own Lean function (tested against real Go, not proved from fmt's source: count such statements apart). THE CARD IS WHAT COUNTS. Prove the row's statement (the work); the ties are given (YtajdcekkmikbcaaDoorTie.lean); close each card by the builder's one call (the guide's Derived/Test/ToyasCard.lean, 'card_holds'). Laid BY PROGRAM, IN A SANDBOX (cutbox-door.mjs). By AI agents, Wed Nov 11 2026. No macro, syntax, notation, axiom, sorry.
-/
import Derived.Test.YtajdcekkmikbcaaDoorRows
import GoSem.ClaimSeven
namespace Go.Proofs.YtajdcekkmikbcaaDoor
namespace Rows

/-- THE TIED CARD OF 'seisinlaw14.ChestPlays'. -/
def chestPlaysCard : Claim7 := { stood := { row := chestPlaysRow, standIns := [], harness := (true, "06ede433ccf9f71833852966c2535defa60e127bc33332fce7e28546126d5775"), looks := true }, kinds := [], alts := [], laidByText := true, laidKinds := [.data, .data], laidTests := true, laidLooks := .later }
def ChestPlaysCardSaid : Prop := Claim7.holds Tryd.pinned (.plain (OpenSpec.ofChange chestPlaysSpec)) chestPlaysCard

/-- THE TIED CARD OF 'seisinlaw14.ChestFits'. -/
def chestFitsCard : Claim7 := { stood := { row := chestFitsRow, standIns := [], harness := (true, "06ede433ccf9f71833852966c2535defa60e127bc33332fce7e28546126d5775"), looks := true }, kinds := [], alts := [], laidByText := true, laidKinds := [.data, .data], laidTests := true, laidLooks := .later }
def ChestFitsCardSaid : Prop := Claim7.holds Tryd.pinned (.plain (OpenSpec.ofChange chestFitsSpec)) chestFitsCard

/-- THE TIED CARD OF 'seisinlaw14.ChestKeeps'. -/
def chestKeepsCard : Claim7 := { stood := { row := chestKeepsRow, standIns := [], harness := (true, "06ede433ccf9f71833852966c2535defa60e127bc33332fce7e28546126d5775"), looks := true }, kinds := [], alts := [], laidByText := true, laidKinds := [.data, .data], laidTests := true, laidLooks := .later }
def ChestKeepsCardSaid : Prop := Claim7.holds Tryd.pinned (.plain (OpenSpec.ofChange chestKeepsSpec)) chestKeepsCard

/-- THE TIED CARD OF 'seisinlaw14.ChestFinds'. -/
def chestFindsCard : Claim7 := { stood := { row := chestFindsRow, standIns := [], harness := (true, "06ede433ccf9f71833852966c2535defa60e127bc33332fce7e28546126d5775"), looks := true }, kinds := [], alts := [], laidByText := true, laidKinds := [.data, .data], laidTests := true, laidLooks := .later }
def ChestFindsCardSaid : Prop := Claim7.holds Tryd.pinned (.plain (OpenSpec.ofChange chestFindsSpec)) chestFindsCard

/-- THE TIED CARD OF 'seisinlaw14.ChestGone'. -/
def chestGoneCard : Claim7 := { stood := { row := chestGoneRow, standIns := [], harness := (true, "06ede433ccf9f71833852966c2535defa60e127bc33332fce7e28546126d5775"), looks := true }, kinds := [], alts := [], laidByText := true, laidKinds := [.data, .data], laidTests := true, laidLooks := .later }
def ChestGoneCardSaid : Prop := Claim7.holds Tryd.pinned (.plain (OpenSpec.ofChange chestGoneSpec)) chestGoneCard

/-- THE SECOND FORM's CARD OF 'seisinlaw14.ChestPlays'. -/
def chestPlaysUptoCard : Claim7 := { stood := { row := chestPlaysUptoRow, standIns := [], harness := (true, "06ede433ccf9f71833852966c2535defa60e127bc33332fce7e28546126d5775"), looks := true }, kinds := [], alts := [], laidByText := true, laidKinds := [.data, .data], laidTests := true, laidLooks := .later }
def ChestPlaysUptoCardSaid : Prop := Claim7.holds Tryd.pinned (.plain (OpenSpec.upto chestPlaysSpec)) chestPlaysUptoCard

/-- THE SECOND FORM's CARD OF 'seisinlaw14.ChestFits'. -/
def chestFitsUptoCard : Claim7 := { stood := { row := chestFitsUptoRow, standIns := [], harness := (true, "06ede433ccf9f71833852966c2535defa60e127bc33332fce7e28546126d5775"), looks := true }, kinds := [], alts := [], laidByText := true, laidKinds := [.data, .data], laidTests := true, laidLooks := .later }
def ChestFitsUptoCardSaid : Prop := Claim7.holds Tryd.pinned (.plain (OpenSpec.upto chestFitsSpec)) chestFitsUptoCard

/-- THE SECOND FORM's CARD OF 'seisinlaw14.ChestKeeps'. -/
def chestKeepsUptoCard : Claim7 := { stood := { row := chestKeepsUptoRow, standIns := [], harness := (true, "06ede433ccf9f71833852966c2535defa60e127bc33332fce7e28546126d5775"), looks := true }, kinds := [], alts := [], laidByText := true, laidKinds := [.data, .data], laidTests := true, laidLooks := .later }
def ChestKeepsUptoCardSaid : Prop := Claim7.holds Tryd.pinned (.plain (OpenSpec.upto chestKeepsSpec)) chestKeepsUptoCard

/-- THE SECOND FORM's CARD OF 'seisinlaw14.ChestFinds'. -/
def chestFindsUptoCard : Claim7 := { stood := { row := chestFindsUptoRow, standIns := [], harness := (true, "06ede433ccf9f71833852966c2535defa60e127bc33332fce7e28546126d5775"), looks := true }, kinds := [], alts := [], laidByText := true, laidKinds := [.data, .data], laidTests := true, laidLooks := .later }
def ChestFindsUptoCardSaid : Prop := Claim7.holds Tryd.pinned (.plain (OpenSpec.upto chestFindsSpec)) chestFindsUptoCard

/-- THE SECOND FORM's CARD OF 'seisinlaw14.ChestGone'. -/
def chestGoneUptoCard : Claim7 := { stood := { row := chestGoneUptoRow, standIns := [], harness := (true, "06ede433ccf9f71833852966c2535defa60e127bc33332fce7e28546126d5775"), looks := true }, kinds := [], alts := [], laidByText := true, laidKinds := [.data, .data], laidTests := true, laidLooks := .later }
def ChestGoneUptoCardSaid : Prop := Claim7.holds Tryd.pinned (.plain (OpenSpec.upto chestGoneSpec)) chestGoneUptoCard
end Rows
end Go.Proofs.YtajdcekkmikbcaaDoor
