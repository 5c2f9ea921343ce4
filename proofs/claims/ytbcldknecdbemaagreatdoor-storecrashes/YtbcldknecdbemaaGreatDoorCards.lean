/-
  DERIVED. GIVEN WITH THE SEED: THE CARDS: each row of YtbcldknecdbemaaGreatDoorRows.lean that lists a variable, with what it lists TIED to the program's text (the seventh form; the later family's looks); each row that meets fmt, with fmt's text TOLD by the authors' own Lean function (tested against real Go, not proved from fmt's source: count such statements apart). THE CARD IS WHAT COUNTS. Prove the row's statement (the work); the ties are given (YtbcldknecdbemaaGreatDoorTie.lean); close each card by the builder's one call (the guide's Derived/Test/ToyasCard.lean, 'card_holds'). Laid BY PROGRAM, IN A SANDBOX (cutbox-door.mjs). By AI agents, Wed Nov 11 2026. No macro, syntax, notation, axiom, sorry.
-/
import Derived.Test.YtbcldknecdbemaaGreatDoorRows
import GoSem.ClaimSeven
namespace Go.Proofs.YtbcldknecdbemaaGreatDoor
namespace Rows

/-- THE TIED CARD OF 'lighteragelaw13.StorePlays'. -/
def storePlaysCard : Claim7 := { stood := { row := storePlaysRow, standIns := [], harness := (true, "b220281f50410a61f50baab2b0d2553cfbc15c7bfdc2fcee37b4d13236c3fa8a"), looks := true }, kinds := [], alts := [], laidByText := true, laidKinds := [.data], laidTests := true, laidLooks := .later }
def StorePlaysCardSaid : Prop := Claim7.holds Tryz.pinned (.plain (OpenSpec.ofChange storePlaysSpec)) storePlaysCard

/-- THE TIED CARD OF 'lighteragelaw13.StoreKeeps'. -/
def storeKeepsCard : Claim7 := { stood := { row := storeKeepsRow, standIns := [], harness := (true, "b220281f50410a61f50baab2b0d2553cfbc15c7bfdc2fcee37b4d13236c3fa8a"), looks := true }, kinds := [], alts := [], laidByText := true, laidKinds := [.data], laidTests := true, laidLooks := .later }
def StoreKeepsCardSaid : Prop := Claim7.holds Tryz.pinned (.plain (OpenSpec.ofChange storeKeepsSpec)) storeKeepsCard

/-- THE TIED CARD OF 'lighteragelaw13.StoreCrashes'. -/
def storeCrashesCard : Claim7 := { stood := { row := storeCrashesRow, standIns := [], harness := (true, "b220281f50410a61f50baab2b0d2553cfbc15c7bfdc2fcee37b4d13236c3fa8a"), looks := true }, kinds := [], alts := [], laidByText := true, laidKinds := [.data], laidTests := true, laidLooks := .later }
def StoreCrashesCardSaid : Prop := Claim7.holds Tryz.pinned (.plain (OpenSpec.ofChange storeCrashesSpec)) storeCrashesCard

/-- THE TIED CARD OF 'lighteragelaw13.StoreGood'. -/
def storeGoodCard : Claim7 := { stood := { row := storeGoodRow, standIns := [], harness := (true, "b220281f50410a61f50baab2b0d2553cfbc15c7bfdc2fcee37b4d13236c3fa8a"), looks := true }, kinds := [], alts := [], laidByText := true, laidKinds := [.data], laidTests := true, laidLooks := .later }
def StoreGoodCardSaid : Prop := Claim7.holds Tryz.pinned (.plain (OpenSpec.ofChange storeGoodSpec)) storeGoodCard

/-- THE TIED CARD OF 'lighteragelaw13.StoreSizes'. -/
def storeSizesCard : Claim7 := { stood := { row := storeSizesRow, standIns := [], harness := (true, "b220281f50410a61f50baab2b0d2553cfbc15c7bfdc2fcee37b4d13236c3fa8a"), looks := true }, kinds := [], alts := [], laidByText := true, laidKinds := [.data], laidTests := true, laidLooks := .later }
def StoreSizesCardSaid : Prop := Claim7.holds Tryz.pinned (.plain (OpenSpec.ofChange storeSizesSpec)) storeSizesCard

/-- THE SECOND FORM's CARD OF 'lighteragelaw13.StorePlays'. -/
def storePlaysUptoCard : Claim7 := { stood := { row := storePlaysUptoRow, standIns := [], harness := (true, "b220281f50410a61f50baab2b0d2553cfbc15c7bfdc2fcee37b4d13236c3fa8a"), looks := true }, kinds := [], alts := [], laidByText := true, laidKinds := [.data], laidTests := true, laidLooks := .later }
def StorePlaysUptoCardSaid : Prop := Claim7.holds Tryz.pinned (.plain (OpenSpec.upto storePlaysSpec)) storePlaysUptoCard

/-- THE SECOND FORM's CARD OF 'lighteragelaw13.StoreKeeps'. -/
def storeKeepsUptoCard : Claim7 := { stood := { row := storeKeepsUptoRow, standIns := [], harness := (true, "b220281f50410a61f50baab2b0d2553cfbc15c7bfdc2fcee37b4d13236c3fa8a"), looks := true }, kinds := [], alts := [], laidByText := true, laidKinds := [.data], laidTests := true, laidLooks := .later }
def StoreKeepsUptoCardSaid : Prop := Claim7.holds Tryz.pinned (.plain (OpenSpec.upto storeKeepsSpec)) storeKeepsUptoCard

/-- THE SECOND FORM's CARD OF 'lighteragelaw13.StoreCrashes'. -/
def storeCrashesUptoCard : Claim7 := { stood := { row := storeCrashesUptoRow, standIns := [], harness := (true, "b220281f50410a61f50baab2b0d2553cfbc15c7bfdc2fcee37b4d13236c3fa8a"), looks := true }, kinds := [], alts := [], laidByText := true, laidKinds := [.data], laidTests := true, laidLooks := .later }
def StoreCrashesUptoCardSaid : Prop := Claim7.holds Tryz.pinned (.plain (OpenSpec.upto storeCrashesSpec)) storeCrashesUptoCard

/-- THE SECOND FORM's CARD OF 'lighteragelaw13.StoreGood'. -/
def storeGoodUptoCard : Claim7 := { stood := { row := storeGoodUptoRow, standIns := [], harness := (true, "b220281f50410a61f50baab2b0d2553cfbc15c7bfdc2fcee37b4d13236c3fa8a"), looks := true }, kinds := [], alts := [], laidByText := true, laidKinds := [.data], laidTests := true, laidLooks := .later }
def StoreGoodUptoCardSaid : Prop := Claim7.holds Tryz.pinned (.plain (OpenSpec.upto storeGoodSpec)) storeGoodUptoCard

/-- THE SECOND FORM's CARD OF 'lighteragelaw13.StoreSizes'. -/
def storeSizesUptoCard : Claim7 := { stood := { row := storeSizesUptoRow, standIns := [], harness := (true, "b220281f50410a61f50baab2b0d2553cfbc15c7bfdc2fcee37b4d13236c3fa8a"), looks := true }, kinds := [], alts := [], laidByText := true, laidKinds := [.data], laidTests := true, laidLooks := .later }
def StoreSizesUptoCardSaid : Prop := Claim7.holds Tryz.pinned (.plain (OpenSpec.upto storeSizesSpec)) storeSizesUptoCard
end Rows
end Go.Proofs.YtbcldknecdbemaaGreatDoor
