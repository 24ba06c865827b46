/-
  DERIVED. GIVEN WITH THE SEED: THE CARDS: each row of YtnjcegkefjdgdaaDoorRows.lean that lists a variable, with what it lists TIED to the program's text (the seventh form; the later family's looks); each row that meets fmt, with fmt's text TOLD by the authors' own Lean function (tested against real Go, not proved from fmt's source: count such statements apart). THE CARD IS WHAT COUNTS. Prove the row's statement (the work); the ties are given (YtnjcegkefjdgdaaDoorTie.lean); close each card by the builder's one call (the guide's Derived/Test/ToyasCard.lean, 'card_holds'). Laid BY PROGRAM, IN A SANDBOX (cutbox-door.mjs). By AI agents, Wed Nov 11 2026. No macro, syntax, notation, axiom, sorry.
-/
import Derived.Test.YtnjcegkefjdgdaaDoorRows
import GoSem.ClaimSeven
namespace Go.Proofs.YtnjcegkefjdgdaaDoor
namespace Rows

/-- THE TIED CARD OF 'overlaylaw15.NewcarSafe'. -/
def newcarSafeCard : Claim7 := { stood := { row := newcarSafeRow, standIns := [], harness := (true, "924ff3d1658f26c1c5e7f2a72eed05ceca99e6e049461a7bf936edcd59d1e0bf"), looks := false }, kinds := [], alts := [], laidByText := true, laidKinds := [.data, .data, .data], laidTests := true, laidLooks := .later }
def NewcarSafeCardSaid : Prop := Claim7.holds Tryd.pinned (.plain (OpenSpec.ofChange newcarSafeSpec)) newcarSafeCard

/-- THE TIED CARD OF 'overlaylaw15.NewcarFaults'. -/
def newcarFaultsCard : Claim7 := { stood := { row := newcarFaultsRow, standIns := [], harness := (true, "924ff3d1658f26c1c5e7f2a72eed05ceca99e6e049461a7bf936edcd59d1e0bf"), looks := false }, kinds := [], alts := [], laidByText := true, laidKinds := [.data, .data, .data], laidTests := true, laidLooks := .later }
def NewcarFaultsCardSaid : Prop := Claim7.holds Tryd.pinned (.plain (OpenSpec.ofChange newcarFaultsSpec)) newcarFaultsCard

/-- THE SECOND FORM's CARD OF 'overlaylaw15.NewcarSafe'. -/
def newcarSafeUptoCard : Claim7 := { stood := { row := newcarSafeUptoRow, standIns := [], harness := (true, "924ff3d1658f26c1c5e7f2a72eed05ceca99e6e049461a7bf936edcd59d1e0bf"), looks := false }, kinds := [], alts := [], laidByText := true, laidKinds := [.data, .data, .data], laidTests := true, laidLooks := .later }
def NewcarSafeUptoCardSaid : Prop := Claim7.holds Tryd.pinned (.plain (OpenSpec.upto newcarSafeSpec)) newcarSafeUptoCard

/-- THE SECOND FORM's CARD OF 'overlaylaw15.NewcarFaults'. -/
def newcarFaultsUptoCard : Claim7 := { stood := { row := newcarFaultsUptoRow, standIns := [], harness := (true, "924ff3d1658f26c1c5e7f2a72eed05ceca99e6e049461a7bf936edcd59d1e0bf"), looks := false }, kinds := [], alts := [], laidByText := true, laidKinds := [.data, .data, .data], laidTests := true, laidLooks := .later }
def NewcarFaultsUptoCardSaid : Prop := Claim7.holds Tryd.pinned (.plain (OpenSpec.upto newcarFaultsSpec)) newcarFaultsUptoCard
end Rows
end Go.Proofs.YtnjcegkefjdgdaaDoor
