/-
  DERIVED. GIVEN WITH THE SEED: THE CARDS: each row of YteniimbcbjbegaaDoorRows.lean that lists a variable, with what it lists TIED to the program's text (the seventh form; the later family's looks); each row that meets fmt, with fmt's text TOLD by the authors' own Lean function (tested against real Go, not proved from fmt's source: count such statements apart). THE CARD IS WHAT COUNTS. Prove the row's statement (the work); the ties are given (YteniimbcbjbegaaDoorTie.lean); close each card by the builder's one call (the guide's Derived/Test/ToyasCard.lean, 'card_holds'). Laid BY PROGRAM, IN A SANDBOX (cutbox-door.mjs). By AI agents, Wed Nov 11 2026. No macro, syntax, notation, axiom, sorry.
-/
import Derived.Test.YteniimbcbjbegaaDoorRows
import GoSem.ClaimSeven
namespace Go.Proofs.YteniimbcbjbegaaDoor
namespace Rows

/-- THE TIED CARD OF 'overlaylaw11.CollectiveChooses'. -/
def collectiveChoosesCard : Claim7 := { stood := { row := collectiveChoosesRow, standIns := [], harness := (true, "837ac406f3c9b244b9c6a59dffb33d23b45f0ba3e505fd008dac2f66b762705a"), looks := false }, kinds := [], alts := [], laidByText := true, laidKinds := [.data, .data], laidTests := true, laidLooks := .later }
def CollectiveChoosesCardSaid : Prop := Claim7.holds Tryd.pinned (.plain (OpenSpec.ofChange collectiveChoosesSpec)) collectiveChoosesCard

/-- THE TIED CARD OF 'overlaylaw11.CollectiveMoves'. -/
def collectiveMovesCard : Claim7 := { stood := { row := collectiveMovesRow, standIns := [], harness := (true, "837ac406f3c9b244b9c6a59dffb33d23b45f0ba3e505fd008dac2f66b762705a"), looks := false }, kinds := [], alts := [], laidByText := true, laidKinds := [.data, .data], laidTests := true, laidLooks := .later }
def CollectiveMovesCardSaid : Prop := Claim7.holds Tryd.pinned (.plain (OpenSpec.ofChange collectiveMovesSpec)) collectiveMovesCard

/-- THE TIED CARD OF 'overlaylaw11.CollectiveMirrors'. -/
def collectiveMirrorsCard : Claim7 := { stood := { row := collectiveMirrorsRow, standIns := [], harness := (true, "837ac406f3c9b244b9c6a59dffb33d23b45f0ba3e505fd008dac2f66b762705a"), looks := false }, kinds := [], alts := [], laidByText := true, laidKinds := [.data, .data], laidTests := true, laidLooks := .later }
def CollectiveMirrorsCardSaid : Prop := Claim7.holds Tryd.pinned (.plain (OpenSpec.ofChange collectiveMirrorsSpec)) collectiveMirrorsCard

/-- THE TIED CARD OF 'overlaylaw11.CollectiveServes'. -/
def collectiveServesCard : Claim7 := { stood := { row := collectiveServesRow, standIns := [], harness := (true, "837ac406f3c9b244b9c6a59dffb33d23b45f0ba3e505fd008dac2f66b762705a"), looks := false }, kinds := [], alts := [], laidByText := true, laidKinds := [.data, .data], laidTests := true, laidLooks := .later }
def CollectiveServesCardSaid : Prop := Claim7.holds Tryd.pinned (.plain (OpenSpec.ofChange collectiveServesSpec)) collectiveServesCard

/-- THE TIED CARD OF 'overlaylaw11.CollectiveCarries'. -/
def collectiveCarriesCard : Claim7 := { stood := { row := collectiveCarriesRow, standIns := [], harness := (true, "837ac406f3c9b244b9c6a59dffb33d23b45f0ba3e505fd008dac2f66b762705a"), looks := false }, kinds := [], alts := [], laidByText := true, laidKinds := [.data, .data], laidTests := true, laidLooks := .later }
def CollectiveCarriesCardSaid : Prop := Claim7.holds Tryd.pinned (.plain (OpenSpec.ofChange collectiveCarriesSpec)) collectiveCarriesCard

/-- THE SECOND FORM's CARD OF 'overlaylaw11.CollectiveChooses'. -/
def collectiveChoosesUptoCard : Claim7 := { stood := { row := collectiveChoosesUptoRow, standIns := [], harness := (true, "837ac406f3c9b244b9c6a59dffb33d23b45f0ba3e505fd008dac2f66b762705a"), looks := false }, kinds := [], alts := [], laidByText := true, laidKinds := [.data, .data], laidTests := true, laidLooks := .later }
def CollectiveChoosesUptoCardSaid : Prop := Claim7.holds Tryd.pinned (.plain (OpenSpec.upto collectiveChoosesSpec)) collectiveChoosesUptoCard

/-- THE SECOND FORM's CARD OF 'overlaylaw11.CollectiveMoves'. -/
def collectiveMovesUptoCard : Claim7 := { stood := { row := collectiveMovesUptoRow, standIns := [], harness := (true, "837ac406f3c9b244b9c6a59dffb33d23b45f0ba3e505fd008dac2f66b762705a"), looks := false }, kinds := [], alts := [], laidByText := true, laidKinds := [.data, .data], laidTests := true, laidLooks := .later }
def CollectiveMovesUptoCardSaid : Prop := Claim7.holds Tryd.pinned (.plain (OpenSpec.upto collectiveMovesSpec)) collectiveMovesUptoCard

/-- THE SECOND FORM's CARD OF 'overlaylaw11.CollectiveMirrors'. -/
def collectiveMirrorsUptoCard : Claim7 := { stood := { row := collectiveMirrorsUptoRow, standIns := [], harness := (true, "837ac406f3c9b244b9c6a59dffb33d23b45f0ba3e505fd008dac2f66b762705a"), looks := false }, kinds := [], alts := [], laidByText := true, laidKinds := [.data, .data], laidTests := true, laidLooks := .later }
def CollectiveMirrorsUptoCardSaid : Prop := Claim7.holds Tryd.pinned (.plain (OpenSpec.upto collectiveMirrorsSpec)) collectiveMirrorsUptoCard

/-- THE SECOND FORM's CARD OF 'overlaylaw11.CollectiveServes'. -/
def collectiveServesUptoCard : Claim7 := { stood := { row := collectiveServesUptoRow, standIns := [], harness := (true, "837ac406f3c9b244b9c6a59dffb33d23b45f0ba3e505fd008dac2f66b762705a"), looks := false }, kinds := [], alts := [], laidByText := true, laidKinds := [.data, .data], laidTests := true, laidLooks := .later }
def CollectiveServesUptoCardSaid : Prop := Claim7.holds Tryd.pinned (.plain (OpenSpec.upto collectiveServesSpec)) collectiveServesUptoCard

/-- THE SECOND FORM's CARD OF 'overlaylaw11.CollectiveCarries'. -/
def collectiveCarriesUptoCard : Claim7 := { stood := { row := collectiveCarriesUptoRow, standIns := [], harness := (true, "837ac406f3c9b244b9c6a59dffb33d23b45f0ba3e505fd008dac2f66b762705a"), looks := false }, kinds := [], alts := [], laidByText := true, laidKinds := [.data, .data], laidTests := true, laidLooks := .later }
def CollectiveCarriesUptoCardSaid : Prop := Claim7.holds Tryd.pinned (.plain (OpenSpec.upto collectiveCarriesSpec)) collectiveCarriesUptoCard
end Rows
end Go.Proofs.YteniimbcbjbegaaDoor
