/-
  DERIVED. GIVEN WITH THE SEED: THE CARDS: each row of YtbcldknecdbemaaDoorRows.lean that lists a variable, with what it lists TIED to the program's text (the seventh form; the later family's looks); each row that meets fmt, with fmt's text TOLD by the authors' own Lean function (tested against real Go, not proved from fmt's source: count such statements apart). THE CARD IS WHAT COUNTS. Prove the row's statement (the work); the ties are given (YtbcldknecdbemaaDoorTie.lean); close each card by the builder's one call (the guide's Derived/Test/ToyasCard.lean, 'card_holds'). Laid BY PROGRAM, IN A SANDBOX (cutbox-door.mjs). By AI agents, Wed Nov 11 2026. No macro, syntax, notation, axiom, sorry.
-/
import Derived.Test.YtbcldknecdbemaaDoorRows
import GoSem.ClaimSeven
namespace Go.Proofs.YtbcldknecdbemaaDoor
namespace Rows

/-- THE TIED CARD OF 'lighteragelaw11.IndexReads'. -/
def indexReadsCard : Claim7 := { stood := { row := indexReadsRow, standIns := [], harness := (true, "4ffeafd4646d17482c7ee02d8f1b843334ddc0a6a32ac93c22aebbdfda68aa10"), looks := true }, kinds := [], alts := [], laidByText := true, laidKinds := [.data, .data], laidTests := true, laidLooks := .later }
def IndexReadsCardSaid : Prop := Claim7.holds Tryd.pinned (.plain (OpenSpec.ofChange indexReadsSpec)) indexReadsCard

/-- THE TIED CARD OF 'lighteragelaw11.IndexNames'. -/
def indexNamesCard : Claim7 := { stood := { row := indexNamesRow, standIns := [], harness := (true, "4ffeafd4646d17482c7ee02d8f1b843334ddc0a6a32ac93c22aebbdfda68aa10"), looks := true }, kinds := [], alts := [], laidByText := true, laidKinds := [.data, .data], laidTests := true, laidLooks := .later }
def IndexNamesCardSaid : Prop := Claim7.holds Tryd.pinned (.plain (OpenSpec.ofChange indexNamesSpec)) indexNamesCard

/-- THE TIED CARD OF 'lighteragelaw13.StorePlaces'. -/
def storePlacesCard : Claim7 := { stood := { row := storePlacesRow, standIns := [], harness := (true, "4ffeafd4646d17482c7ee02d8f1b843334ddc0a6a32ac93c22aebbdfda68aa10"), looks := true }, kinds := [], alts := [], laidByText := true, laidKinds := [.data], laidTests := true, laidLooks := .later }
def StorePlacesCardSaid : Prop := Claim7.holds Tryd.pinned (.plain (OpenSpec.ofChange storePlacesSpec)) storePlacesCard

/-- THE SECOND FORM's CARD OF 'lighteragelaw11.IndexReads'. -/
def indexReadsUptoCard : Claim7 := { stood := { row := indexReadsUptoRow, standIns := [], harness := (true, "4ffeafd4646d17482c7ee02d8f1b843334ddc0a6a32ac93c22aebbdfda68aa10"), looks := true }, kinds := [], alts := [], laidByText := true, laidKinds := [.data, .data], laidTests := true, laidLooks := .later }
def IndexReadsUptoCardSaid : Prop := Claim7.holds Tryd.pinned (.plain (OpenSpec.upto indexReadsSpec)) indexReadsUptoCard

/-- THE SECOND FORM's CARD OF 'lighteragelaw11.IndexNames'. -/
def indexNamesUptoCard : Claim7 := { stood := { row := indexNamesUptoRow, standIns := [], harness := (true, "4ffeafd4646d17482c7ee02d8f1b843334ddc0a6a32ac93c22aebbdfda68aa10"), looks := true }, kinds := [], alts := [], laidByText := true, laidKinds := [.data, .data], laidTests := true, laidLooks := .later }
def IndexNamesUptoCardSaid : Prop := Claim7.holds Tryd.pinned (.plain (OpenSpec.upto indexNamesSpec)) indexNamesUptoCard

/-- THE SECOND FORM's CARD OF 'lighteragelaw13.StorePlaces'. -/
def storePlacesUptoCard : Claim7 := { stood := { row := storePlacesUptoRow, standIns := [], harness := (true, "4ffeafd4646d17482c7ee02d8f1b843334ddc0a6a32ac93c22aebbdfda68aa10"), looks := true }, kinds := [], alts := [], laidByText := true, laidKinds := [.data], laidTests := true, laidLooks := .later }
def StorePlacesUptoCardSaid : Prop := Claim7.holds Tryd.pinned (.plain (OpenSpec.upto storePlacesSpec)) storePlacesUptoCard
end Rows
end Go.Proofs.YtbcldknecdbemaaDoor
