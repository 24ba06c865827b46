/-
  DERIVED. GIVEN WITH THE SEED: THE CARDS: each row of YtcbmpcnanknncaaDoorRows.lean that lists a variable, with what it lists TIED to the program's text (the seventh form; the later family's looks); each row that meets fmt, with fmt's text TOLD by the authors' own Lean function (tested against real Go, not proved from fmt's source: count such statements apart). THE CARD IS WHAT COUNTS. Prove the row's statement (the work); the ties are given (YtcbmpcnanknncaaDoorTie.lean); close each card by the builder's one call (the guide's Derived/Test/ToyasCard.lean, 'card_holds'). Laid BY PROGRAM, IN A SANDBOX (cutbox-door.mjs). By AI agents, Wed Nov 11 2026. No macro, syntax, notation, axiom, sorry.
-/
import Derived.Test.YtcbmpcnanknncaaDoorRows
import GoSem.ClaimSeven
namespace Go.Proofs.YtcbmpcnanknncaaDoor
namespace Rows

/-- THE TIED CARD OF 'overlaylaw13.MotionSteps'. -/
def motionStepsCard : Claim7 := { stood := { row := motionStepsRow, standIns := [], harness := (true, "afbd9c4ccefbf556d1499d28f9cc2014d7167275d5d764d1cd21f6843c7ed887"), looks := false }, kinds := [], alts := [], laidByText := true, laidKinds := [.data], laidTests := true, laidLooks := .later }
def MotionStepsCardSaid : Prop := Claim7.holds Tryd.pinned (.plain (OpenSpec.ofChange motionStepsSpec)) motionStepsCard

/-- THE TIED CARD OF 'overlaylaw13.MotionTravels'. -/
def motionTravelsCard : Claim7 := { stood := { row := motionTravelsRow, standIns := [], harness := (true, "afbd9c4ccefbf556d1499d28f9cc2014d7167275d5d764d1cd21f6843c7ed887"), looks := false }, kinds := [], alts := [], laidByText := true, laidKinds := [.data], laidTests := true, laidLooks := .later }
def MotionTravelsCardSaid : Prop := Claim7.holds Tryd.pinned (.plain (OpenSpec.ofChange motionTravelsSpec)) motionTravelsCard

/-- THE TIED CARD OF 'overlaylaw13.MotionWaits'. -/
def motionWaitsCard : Claim7 := { stood := { row := motionWaitsRow, standIns := [], harness := (true, "afbd9c4ccefbf556d1499d28f9cc2014d7167275d5d764d1cd21f6843c7ed887"), looks := false }, kinds := [], alts := [], laidByText := true, laidKinds := [.data], laidTests := true, laidLooks := .later }
def MotionWaitsCardSaid : Prop := Claim7.holds Tryd.pinned (.plain (OpenSpec.ofChange motionWaitsSpec)) motionWaitsCard

/-- THE TIED CARD OF 'overlaylaw13.MotionBlind'. -/
def motionBlindCard : Claim7 := { stood := { row := motionBlindRow, standIns := [], harness := (true, "afbd9c4ccefbf556d1499d28f9cc2014d7167275d5d764d1cd21f6843c7ed887"), looks := false }, kinds := [], alts := [], laidByText := true, laidKinds := [.data], laidTests := true, laidLooks := .later }
def MotionBlindCardSaid : Prop := Claim7.holds Tryd.pinned (.plain (OpenSpec.ofChange motionBlindSpec)) motionBlindCard

/-- THE SECOND FORM's CARD OF 'overlaylaw13.MotionSteps'. -/
def motionStepsUptoCard : Claim7 := { stood := { row := motionStepsUptoRow, standIns := [], harness := (true, "afbd9c4ccefbf556d1499d28f9cc2014d7167275d5d764d1cd21f6843c7ed887"), looks := false }, kinds := [], alts := [], laidByText := true, laidKinds := [.data], laidTests := true, laidLooks := .later }
def MotionStepsUptoCardSaid : Prop := Claim7.holds Tryd.pinned (.plain (OpenSpec.upto motionStepsSpec)) motionStepsUptoCard

/-- THE SECOND FORM's CARD OF 'overlaylaw13.MotionTravels'. -/
def motionTravelsUptoCard : Claim7 := { stood := { row := motionTravelsUptoRow, standIns := [], harness := (true, "afbd9c4ccefbf556d1499d28f9cc2014d7167275d5d764d1cd21f6843c7ed887"), looks := false }, kinds := [], alts := [], laidByText := true, laidKinds := [.data], laidTests := true, laidLooks := .later }
def MotionTravelsUptoCardSaid : Prop := Claim7.holds Tryd.pinned (.plain (OpenSpec.upto motionTravelsSpec)) motionTravelsUptoCard

/-- THE SECOND FORM's CARD OF 'overlaylaw13.MotionWaits'. -/
def motionWaitsUptoCard : Claim7 := { stood := { row := motionWaitsUptoRow, standIns := [], harness := (true, "afbd9c4ccefbf556d1499d28f9cc2014d7167275d5d764d1cd21f6843c7ed887"), looks := false }, kinds := [], alts := [], laidByText := true, laidKinds := [.data], laidTests := true, laidLooks := .later }
def MotionWaitsUptoCardSaid : Prop := Claim7.holds Tryd.pinned (.plain (OpenSpec.upto motionWaitsSpec)) motionWaitsUptoCard

/-- THE SECOND FORM's CARD OF 'overlaylaw13.MotionBlind'. -/
def motionBlindUptoCard : Claim7 := { stood := { row := motionBlindUptoRow, standIns := [], harness := (true, "afbd9c4ccefbf556d1499d28f9cc2014d7167275d5d764d1cd21f6843c7ed887"), looks := false }, kinds := [], alts := [], laidByText := true, laidKinds := [.data], laidTests := true, laidLooks := .later }
def MotionBlindUptoCardSaid : Prop := Claim7.holds Tryd.pinned (.plain (OpenSpec.upto motionBlindSpec)) motionBlindUptoCard
end Rows
end Go.Proofs.YtcbmpcnanknncaaDoor
