/-
  DERIVED. GIVEN WITH THE SEED: THE CARDS: each row of YtimaidiabjkgkaaDoorRows.lean that lists a variable, with what it lists TIED to the program's text (the seventh form; the later family's looks); each row that meets fmt, with fmt's text TOLD by the authors' own Lean function (tested against real Go, not proved from fmt's source: count such statements apart). THE CARD IS WHAT COUNTS. Prove the row's statement (the work); the ties are given (YtimaidiabjkgkaaDoorTie.lean); close each card by the builder's one call (the guide's Derived/Test/ToyasCard.lean, 'card_holds'). Laid BY PROGRAM, IN A SANDBOX (cutbox-door.mjs). By AI agents, Wed Nov 11 2026. No macro, syntax, notation, axiom, sorry.
-/
import Derived.Test.YtimaidiabjkgkaaDoorRows
import GoSem.ClaimSeven
namespace Go.Proofs.YtimaidiabjkgkaaDoor
namespace Rows

/-- THE TIED CARD OF 'overlaylaw05.IndicatorFloors'. -/
def indicatorFloorsCard : Claim7 := { stood := { row := indicatorFloorsRow, standIns := [], harness := (true, "26c8445165af0741adc467d81313ee5ff1ff3522871a640efa179ddcace4a8fb"), looks := false }, kinds := [], alts := [], laidByText := true, laidKinds := [.data, .data, .data], laidTests := true, laidLooks := .later }
def IndicatorFloorsCardSaid : Prop := Claim7.holds Tryd.pinned (.plain (OpenSpec.ofChange indicatorFloorsSpec)) indicatorFloorsCard

/-- THE TIED CARD OF 'overlaylaw05.IndicatorDecodes'. -/
def indicatorDecodesCard : Claim7 := { stood := { row := indicatorDecodesRow, standIns := [], harness := (true, "26c8445165af0741adc467d81313ee5ff1ff3522871a640efa179ddcace4a8fb"), looks := false }, kinds := [], alts := [], laidByText := true, laidKinds := [.data, .data, .data], laidTests := true, laidLooks := .later }
def IndicatorDecodesCardSaid : Prop := Claim7.holds Tryd.pinned (.plain (OpenSpec.ofChange indicatorDecodesSpec)) indicatorDecodesCard

/-- THE TIED CARD OF 'overlaylaw05.IndicatorShows'. -/
def indicatorShowsCard : Claim7 := { stood := { row := indicatorShowsRow, standIns := [], harness := (true, "26c8445165af0741adc467d81313ee5ff1ff3522871a640efa179ddcace4a8fb"), looks := false }, kinds := [], alts := [], laidByText := true, laidKinds := [.data, .data, .data], laidTests := true, laidLooks := .later }
def IndicatorShowsCardSaid : Prop := Claim7.holds Tryd.pinned (.plain (OpenSpec.ofChange indicatorShowsSpec)) indicatorShowsCard

/-- THE TIED CARD OF 'overlaylaw05.IndicatorOne'. -/
def indicatorOneCard : Claim7 := { stood := { row := indicatorOneRow, standIns := [], harness := (true, "26c8445165af0741adc467d81313ee5ff1ff3522871a640efa179ddcace4a8fb"), looks := false }, kinds := [], alts := [], laidByText := true, laidKinds := [.data, .data, .data], laidTests := true, laidLooks := .later }
def IndicatorOneCardSaid : Prop := Claim7.holds Tryd.pinned (.plain (OpenSpec.ofChange indicatorOneSpec)) indicatorOneCard

/-- THE TIED CARD OF 'overlaylaw05.IndicatorFaults'. -/
def indicatorFaultsCard : Claim7 := { stood := { row := indicatorFaultsRow, standIns := [], harness := (true, "26c8445165af0741adc467d81313ee5ff1ff3522871a640efa179ddcace4a8fb"), looks := false }, kinds := [], alts := [], laidByText := true, laidKinds := [.data, .data, .data], laidTests := true, laidLooks := .later }
def IndicatorFaultsCardSaid : Prop := Claim7.holds Tryd.pinned (.plain (OpenSpec.ofChange indicatorFaultsSpec)) indicatorFaultsCard

/-- THE SECOND FORM's CARD OF 'overlaylaw05.IndicatorFloors'. -/
def indicatorFloorsUptoCard : Claim7 := { stood := { row := indicatorFloorsUptoRow, standIns := [], harness := (true, "26c8445165af0741adc467d81313ee5ff1ff3522871a640efa179ddcace4a8fb"), looks := false }, kinds := [], alts := [], laidByText := true, laidKinds := [.data, .data, .data], laidTests := true, laidLooks := .later }
def IndicatorFloorsUptoCardSaid : Prop := Claim7.holds Tryd.pinned (.plain (OpenSpec.upto indicatorFloorsSpec)) indicatorFloorsUptoCard

/-- THE SECOND FORM's CARD OF 'overlaylaw05.IndicatorDecodes'. -/
def indicatorDecodesUptoCard : Claim7 := { stood := { row := indicatorDecodesUptoRow, standIns := [], harness := (true, "26c8445165af0741adc467d81313ee5ff1ff3522871a640efa179ddcace4a8fb"), looks := false }, kinds := [], alts := [], laidByText := true, laidKinds := [.data, .data, .data], laidTests := true, laidLooks := .later }
def IndicatorDecodesUptoCardSaid : Prop := Claim7.holds Tryd.pinned (.plain (OpenSpec.upto indicatorDecodesSpec)) indicatorDecodesUptoCard

/-- THE SECOND FORM's CARD OF 'overlaylaw05.IndicatorShows'. -/
def indicatorShowsUptoCard : Claim7 := { stood := { row := indicatorShowsUptoRow, standIns := [], harness := (true, "26c8445165af0741adc467d81313ee5ff1ff3522871a640efa179ddcace4a8fb"), looks := false }, kinds := [], alts := [], laidByText := true, laidKinds := [.data, .data, .data], laidTests := true, laidLooks := .later }
def IndicatorShowsUptoCardSaid : Prop := Claim7.holds Tryd.pinned (.plain (OpenSpec.upto indicatorShowsSpec)) indicatorShowsUptoCard

/-- THE SECOND FORM's CARD OF 'overlaylaw05.IndicatorOne'. -/
def indicatorOneUptoCard : Claim7 := { stood := { row := indicatorOneUptoRow, standIns := [], harness := (true, "26c8445165af0741adc467d81313ee5ff1ff3522871a640efa179ddcace4a8fb"), looks := false }, kinds := [], alts := [], laidByText := true, laidKinds := [.data, .data, .data], laidTests := true, laidLooks := .later }
def IndicatorOneUptoCardSaid : Prop := Claim7.holds Tryd.pinned (.plain (OpenSpec.upto indicatorOneSpec)) indicatorOneUptoCard

/-- THE SECOND FORM's CARD OF 'overlaylaw05.IndicatorFaults'. -/
def indicatorFaultsUptoCard : Claim7 := { stood := { row := indicatorFaultsUptoRow, standIns := [], harness := (true, "26c8445165af0741adc467d81313ee5ff1ff3522871a640efa179ddcace4a8fb"), looks := false }, kinds := [], alts := [], laidByText := true, laidKinds := [.data, .data, .data], laidTests := true, laidLooks := .later }
def IndicatorFaultsUptoCardSaid : Prop := Claim7.holds Tryd.pinned (.plain (OpenSpec.upto indicatorFaultsSpec)) indicatorFaultsUptoCard
end Rows
end Go.Proofs.YtimaidiabjkgkaaDoor
