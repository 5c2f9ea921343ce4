/-
  DERIVED. GIVEN WITH THE SEED: THE CARDS: each row of YtkgkkobdpgnicaaDoorRows.lean that lists a variable, with what it lists TIED to the program's text (the seventh form; the later family's looks); each row that meets fmt, with fmt's text TOLD by the authors' own Lean function (tested against real Go, not proved from fmt's source: count such statements apart). THE CARD IS WHAT COUNTS. Prove the row's statement (the work); the ties are given (YtkgkkobdpgnicaaDoorTie.lean); close each card by the builder's one call (the guide's Derived/Test/ToyasCard.lean, 'card_holds'). Laid BY PROGRAM, IN A SANDBOX (cutbox-door.mjs). By AI agents, Wed Nov 11 2026. No macro, syntax, notation, axiom, sorry.
-/
import Derived.Test.YtkgkkobdpgnicaaDoorRows
import GoSem.ClaimSeven
namespace Go.Proofs.YtkgkkobdpgnicaaDoor
namespace Rows

/-- THE TIED CARD OF 'lighteragelaw10.CutMay'. -/
def cutMayCard : Claim7 := { stood := { row := cutMayRow, standIns := [], harness := (true, "393ae583b56e48312c8df760c2e749f3b583589078acaf4c538f9700a3899cab"), looks := false }, kinds := [], alts := [], laidByText := true, laidKinds := [.data, .data], laidTests := true, laidLooks := .later }
def CutMayCardSaid : Prop := Claim7.holds Tryd.pinned (.plain (OpenSpec.ofChange cutMaySpec)) cutMayCard

/-- THE TIED CARD OF 'lighteragelaw10.CutSizes'. -/
def cutSizesCard : Claim7 := { stood := { row := cutSizesRow, standIns := [], harness := (true, "393ae583b56e48312c8df760c2e749f3b583589078acaf4c538f9700a3899cab"), looks := false }, kinds := [], alts := [], laidByText := true, laidKinds := [.data, .data], laidTests := true, laidLooks := .later }
def CutSizesCardSaid : Prop := Claim7.holds Tryd.pinned (.plain (OpenSpec.ofChange cutSizesSpec)) cutSizesCard

/-- THE TIED CARD OF 'lighteragelaw10.CutPieces'. -/
def cutPiecesCard : Claim7 := { stood := { row := cutPiecesRow, standIns := [], harness := (true, "393ae583b56e48312c8df760c2e749f3b583589078acaf4c538f9700a3899cab"), looks := false }, kinds := [], alts := [], laidByText := true, laidKinds := [.data], laidTests := true, laidLooks := .later }
def CutPiecesCardSaid : Prop := Claim7.holds Tryd.pinned (.plain (OpenSpec.ofChange cutPiecesSpec)) cutPiecesCard

/-- THE TIED CARD OF 'lighteragelaw10.CutBounds'. -/
def cutBoundsCard : Claim7 := { stood := { row := cutBoundsRow, standIns := [], harness := (true, "393ae583b56e48312c8df760c2e749f3b583589078acaf4c538f9700a3899cab"), looks := false }, kinds := [], alts := [], laidByText := true, laidKinds := [.data], laidTests := true, laidLooks := .later }
def CutBoundsCardSaid : Prop := Claim7.holds Tryd.pinned (.plain (OpenSpec.ofChange cutBoundsSpec)) cutBoundsCard

/-- THE TIED CARD OF 'lighteragelaw10.CutAgain'. -/
def cutAgainCard : Claim7 := { stood := { row := cutAgainRow, standIns := [], harness := (true, "393ae583b56e48312c8df760c2e749f3b583589078acaf4c538f9700a3899cab"), looks := false }, kinds := [], alts := [], laidByText := true, laidKinds := [.data], laidTests := true, laidLooks := .later }
def CutAgainCardSaid : Prop := Claim7.holds Tryd.pinned (.plain (OpenSpec.ofChange cutAgainSpec)) cutAgainCard

/-- THE TIED CARD OF 'lighteragelaw10.CutStops'. -/
def cutStopsCard : Claim7 := { stood := { row := cutStopsRow, standIns := [], harness := (true, "393ae583b56e48312c8df760c2e749f3b583589078acaf4c538f9700a3899cab"), looks := false }, kinds := [], alts := [], laidByText := true, laidKinds := [.data], laidTests := true, laidLooks := .later }
def CutStopsCardSaid : Prop := Claim7.holds Tryd.pinned (.plain (OpenSpec.ofChange cutStopsSpec)) cutStopsCard

/-- THE SECOND FORM's CARD OF 'lighteragelaw10.CutMay'. -/
def cutMayUptoCard : Claim7 := { stood := { row := cutMayUptoRow, standIns := [], harness := (true, "393ae583b56e48312c8df760c2e749f3b583589078acaf4c538f9700a3899cab"), looks := false }, kinds := [], alts := [], laidByText := true, laidKinds := [.data, .data], laidTests := true, laidLooks := .later }
def CutMayUptoCardSaid : Prop := Claim7.holds Tryd.pinned (.plain (OpenSpec.upto cutMaySpec)) cutMayUptoCard

/-- THE SECOND FORM's CARD OF 'lighteragelaw10.CutSizes'. -/
def cutSizesUptoCard : Claim7 := { stood := { row := cutSizesUptoRow, standIns := [], harness := (true, "393ae583b56e48312c8df760c2e749f3b583589078acaf4c538f9700a3899cab"), looks := false }, kinds := [], alts := [], laidByText := true, laidKinds := [.data, .data], laidTests := true, laidLooks := .later }
def CutSizesUptoCardSaid : Prop := Claim7.holds Tryd.pinned (.plain (OpenSpec.upto cutSizesSpec)) cutSizesUptoCard

/-- THE SECOND FORM's CARD OF 'lighteragelaw10.CutPieces'. -/
def cutPiecesUptoCard : Claim7 := { stood := { row := cutPiecesUptoRow, standIns := [], harness := (true, "393ae583b56e48312c8df760c2e749f3b583589078acaf4c538f9700a3899cab"), looks := false }, kinds := [], alts := [], laidByText := true, laidKinds := [.data], laidTests := true, laidLooks := .later }
def CutPiecesUptoCardSaid : Prop := Claim7.holds Tryd.pinned (.plain (OpenSpec.upto cutPiecesSpec)) cutPiecesUptoCard

/-- THE SECOND FORM's CARD OF 'lighteragelaw10.CutBounds'. -/
def cutBoundsUptoCard : Claim7 := { stood := { row := cutBoundsUptoRow, standIns := [], harness := (true, "393ae583b56e48312c8df760c2e749f3b583589078acaf4c538f9700a3899cab"), looks := false }, kinds := [], alts := [], laidByText := true, laidKinds := [.data], laidTests := true, laidLooks := .later }
def CutBoundsUptoCardSaid : Prop := Claim7.holds Tryd.pinned (.plain (OpenSpec.upto cutBoundsSpec)) cutBoundsUptoCard

/-- THE SECOND FORM's CARD OF 'lighteragelaw10.CutAgain'. -/
def cutAgainUptoCard : Claim7 := { stood := { row := cutAgainUptoRow, standIns := [], harness := (true, "393ae583b56e48312c8df760c2e749f3b583589078acaf4c538f9700a3899cab"), looks := false }, kinds := [], alts := [], laidByText := true, laidKinds := [.data], laidTests := true, laidLooks := .later }
def CutAgainUptoCardSaid : Prop := Claim7.holds Tryd.pinned (.plain (OpenSpec.upto cutAgainSpec)) cutAgainUptoCard

/-- THE SECOND FORM's CARD OF 'lighteragelaw10.CutStops'. -/
def cutStopsUptoCard : Claim7 := { stood := { row := cutStopsUptoRow, standIns := [], harness := (true, "393ae583b56e48312c8df760c2e749f3b583589078acaf4c538f9700a3899cab"), looks := false }, kinds := [], alts := [], laidByText := true, laidKinds := [.data], laidTests := true, laidLooks := .later }
def CutStopsUptoCardSaid : Prop := Claim7.holds Tryd.pinned (.plain (OpenSpec.upto cutStopsSpec)) cutStopsUptoCard
end Rows
end Go.Proofs.YtkgkkobdpgnicaaDoor
