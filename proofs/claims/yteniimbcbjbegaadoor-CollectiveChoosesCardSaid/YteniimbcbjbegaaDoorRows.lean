/-
  NARROWER THAN 'FOR EVERY INPUT', by the rows' own cells (each row's printed sentence says how): CollectiveChooses: laid · CollectiveMoves: laid · CollectiveMirrors: laid · CollectiveServes: laid · CollectiveCarries: laid.
  DERIVED. THE GIVEN ROWS OF THIS SEAT. 5 by the template 'for every input the law returns true; each argument reads behind the call as it read before'; 0 by the template 'total and deterministic' (their statements: YteniimbcbjbegaaDoorTotals.lean).
  GIVEN WITH THE SEED: the statements are not yours to turn. If you find one false, say at which input.
  Laid BY PROGRAM, IN A SANDBOX (cutbox-rows.mjs): the forced cells as the released guide's own fill.sh prints them over the translation 848b4dc12657f960… (all of the seat's roots in one cut). By AI agents, Wed Nov 11 2026. No macro, syntax, notation, axiom, sorry.
-/
import Derived.Test.YteniimbcbjbegaaDoorChecked
import GoSem.Claim
import GoSem.ClaimJoined
import GoSem.ClaimMapViews
import Derived.JoinedTies
import Derived.KernelRfl
namespace Go.Proofs.YteniimbcbjbegaaDoor
/- THE CELL 'sum', in the pinned program and in every row, IS THE sha256 OF THE DUMP (.gsa) THAT YteniimbcbjbegaaDoorProg.lean LOADS. Nothing in Lean hashes anything: it is a label: what it is worth is what the hold of that sum in a sandbox is worth. -/
noncomputable def Tryd.pinned : Pinned := { name := "yteniimbcbjbegaadoor", sum := "848b4dc12657f960970b2bf5aaef815667344b2af5b9b9006443bcc251a57895", checked := Tryd.checked }
namespace Rows
def none {H : Type} : Left H := { results := [], args := [] }

/- WHAT THE LISTED PACKAGE-LEVEL VARIABLES READ AS WHEN THE CALL BEGINS. Each datum BY PROGRAM (the guide's laid-datum.mjs) off the statement by which the dump's own 'gosem.cut.vars' lays the variable. In a bare row this is a premise. The card (YteniimbcbjbegaaDoorCards.lean) ties it to the program's text. -/
def laid_math_bits_deBruijn32tab {H : Type} : DataW H := .agg [.lit (.int .u8 0), .lit (.int .u8 1), .lit (.int .u8 28), .lit (.int .u8 2), .lit (.int .u8 29), .lit (.int .u8 14), .lit (.int .u8 24), .lit (.int .u8 3), .lit (.int .u8 30), .lit (.int .u8 22), .lit (.int .u8 20), .lit (.int .u8 15), .lit (.int .u8 25), .lit (.int .u8 17), .lit (.int .u8 4), .lit (.int .u8 8), .lit (.int .u8 31), .lit (.int .u8 27), .lit (.int .u8 13), .lit (.int .u8 23), .lit (.int .u8 21), .lit (.int .u8 19), .lit (.int .u8 16), .lit (.int .u8 7), .lit (.int .u8 26), .lit (.int .u8 12), .lit (.int .u8 18), .lit (.int .u8 6), .lit (.int .u8 11), .lit (.int .u8 5), .lit (.int .u8 10), .lit (.int .u8 9)]
def laid_overlay_collective_steps {H : Type} : DataW H := .agg [.lit (.int .i64 0), .lit (.int .i64 1), .lit (.int .i64 2)]

/-- 'overlaylaw11.CollectiveChooses': WHATEVER THE INPUT: true; the input reads as it did. -/
def collectiveChoosesSpec : ChangeSpec := { name := "collectiveChooses", fn := fun _ => fun
  | [d1, d2, d3] => { results := [.lit (.bool true)], args := [d1, d2, d3] }
  | _ => none }
def collectiveChoosesRow : OpenClaim := { program := "yteniimbcbjbegaadoor", sum := "848b4dc12657f960970b2bf5aaef815667344b2af5b9b9006443bcc251a57895", func := "overlay/overlaylaw11.CollectiveChooses", spec := "collectiveChooses", unfollowed := true, recurses := true, named := ["math/bits.deBruijn32tab", "overlay/collective.steps"], apart := false, laid := [("math/bits.deBruijn32tab", laid_math_bits_deBruijn32tab), ("overlay/collective.steps", laid_overlay_collective_steps)] }
def CollectiveChoosesSaid : Prop := collectiveChoosesRow.holds Tryd.pinned (OpenSpec.ofChange collectiveChoosesSpec)

/-- ITS FALSE NEIGHBOUR: 'it returns false'. Refute it at one input. -/
def collectiveChoosesWrong : ChangeSpec := { name := "collectiveChooses", fn := fun _ => fun
  | [d1, d2, d3] => { results := [.lit (.bool false)], args := [d1, d2, d3] }
  | _ => none }
def CollectiveChoosesWrongFalsely : Prop := collectiveChoosesRow.holds Tryd.pinned (OpenSpec.ofChange collectiveChoosesWrong)

/-- 'overlaylaw11.CollectiveMoves': WHATEVER THE INPUT: true; the input reads as it did. -/
def collectiveMovesSpec : ChangeSpec := { name := "collectiveMoves", fn := fun _ => fun
  | [d1, d2, d3] => { results := [.lit (.bool true)], args := [d1, d2, d3] }
  | _ => none }
def collectiveMovesRow : OpenClaim := { program := "yteniimbcbjbegaadoor", sum := "848b4dc12657f960970b2bf5aaef815667344b2af5b9b9006443bcc251a57895", func := "overlay/overlaylaw11.CollectiveMoves", spec := "collectiveMoves", unfollowed := true, recurses := true, named := ["math/bits.deBruijn32tab", "overlay/collective.steps"], apart := false, laid := [("math/bits.deBruijn32tab", laid_math_bits_deBruijn32tab), ("overlay/collective.steps", laid_overlay_collective_steps)] }
def CollectiveMovesSaid : Prop := collectiveMovesRow.holds Tryd.pinned (OpenSpec.ofChange collectiveMovesSpec)

/-- ITS FALSE NEIGHBOUR: 'it returns false'. Refute it at one input. -/
def collectiveMovesWrong : ChangeSpec := { name := "collectiveMoves", fn := fun _ => fun
  | [d1, d2, d3] => { results := [.lit (.bool false)], args := [d1, d2, d3] }
  | _ => none }
def CollectiveMovesWrongFalsely : Prop := collectiveMovesRow.holds Tryd.pinned (OpenSpec.ofChange collectiveMovesWrong)

/-- 'overlaylaw11.CollectiveMirrors': WHATEVER THE INPUT: true; the input reads as it did. -/
def collectiveMirrorsSpec : ChangeSpec := { name := "collectiveMirrors", fn := fun _ => fun
  | [d1, d2, d3] => { results := [.lit (.bool true)], args := [d1, d2, d3] }
  | _ => none }
def collectiveMirrorsRow : OpenClaim := { program := "yteniimbcbjbegaadoor", sum := "848b4dc12657f960970b2bf5aaef815667344b2af5b9b9006443bcc251a57895", func := "overlay/overlaylaw11.CollectiveMirrors", spec := "collectiveMirrors", unfollowed := true, recurses := true, named := ["math/bits.deBruijn32tab", "overlay/collective.steps"], apart := false, laid := [("math/bits.deBruijn32tab", laid_math_bits_deBruijn32tab), ("overlay/collective.steps", laid_overlay_collective_steps)] }
def CollectiveMirrorsSaid : Prop := collectiveMirrorsRow.holds Tryd.pinned (OpenSpec.ofChange collectiveMirrorsSpec)

/-- ITS FALSE NEIGHBOUR: 'it returns false'. Refute it at one input. -/
def collectiveMirrorsWrong : ChangeSpec := { name := "collectiveMirrors", fn := fun _ => fun
  | [d1, d2, d3] => { results := [.lit (.bool false)], args := [d1, d2, d3] }
  | _ => none }
def CollectiveMirrorsWrongFalsely : Prop := collectiveMirrorsRow.holds Tryd.pinned (OpenSpec.ofChange collectiveMirrorsWrong)

/-- 'overlaylaw11.CollectiveServes': WHATEVER THE INPUT: true; the input reads as it did. -/
def collectiveServesSpec : ChangeSpec := { name := "collectiveServes", fn := fun _ => fun
  | [d1, d2, d3] => { results := [.lit (.bool true)], args := [d1, d2, d3] }
  | _ => none }
def collectiveServesRow : OpenClaim := { program := "yteniimbcbjbegaadoor", sum := "848b4dc12657f960970b2bf5aaef815667344b2af5b9b9006443bcc251a57895", func := "overlay/overlaylaw11.CollectiveServes", spec := "collectiveServes", unfollowed := true, recurses := true, named := ["math/bits.deBruijn32tab", "overlay/collective.steps"], apart := false, laid := [("math/bits.deBruijn32tab", laid_math_bits_deBruijn32tab), ("overlay/collective.steps", laid_overlay_collective_steps)] }
def CollectiveServesSaid : Prop := collectiveServesRow.holds Tryd.pinned (OpenSpec.ofChange collectiveServesSpec)

/-- ITS FALSE NEIGHBOUR: 'it returns false'. Refute it at one input. -/
def collectiveServesWrong : ChangeSpec := { name := "collectiveServes", fn := fun _ => fun
  | [d1, d2, d3] => { results := [.lit (.bool false)], args := [d1, d2, d3] }
  | _ => none }
def CollectiveServesWrongFalsely : Prop := collectiveServesRow.holds Tryd.pinned (OpenSpec.ofChange collectiveServesWrong)

/-- 'overlaylaw11.CollectiveCarries': WHATEVER THE INPUT: true; the input reads as it did. -/
def collectiveCarriesSpec : ChangeSpec := { name := "collectiveCarries", fn := fun _ => fun
  | [d1, d2, d3] => { results := [.lit (.bool true)], args := [d1, d2, d3] }
  | _ => none }
def collectiveCarriesRow : OpenClaim := { program := "yteniimbcbjbegaadoor", sum := "848b4dc12657f960970b2bf5aaef815667344b2af5b9b9006443bcc251a57895", func := "overlay/overlaylaw11.CollectiveCarries", spec := "collectiveCarries", unfollowed := true, recurses := true, named := ["math/bits.deBruijn32tab", "overlay/collective.steps"], apart := false, laid := [("math/bits.deBruijn32tab", laid_math_bits_deBruijn32tab), ("overlay/collective.steps", laid_overlay_collective_steps)] }
def CollectiveCarriesSaid : Prop := collectiveCarriesRow.holds Tryd.pinned (OpenSpec.ofChange collectiveCarriesSpec)

/-- ITS FALSE NEIGHBOUR: 'it returns false'. Refute it at one input. -/
def collectiveCarriesWrong : ChangeSpec := { name := "collectiveCarries", fn := fun _ => fun
  | [d1, d2, d3] => { results := [.lit (.bool false)], args := [d1, d2, d3] }
  | _ => none }
def CollectiveCarriesWrongFalsely : Prop := collectiveCarriesRow.holds Tryd.pinned (OpenSpec.ofChange collectiveCarriesWrong)

/- THE SECOND FORM. 'bulk': how many values and letters a reading holds, each counted each time it is reached (what is shared counts as often as it is met; a slice's spare places count too). A statement '..UptoSaid' is the law's where the arguments, and the package variables that the reading takes, are together of bulk at most 1048576: NARROWER than '..Said'. Prove '..Said' where nothing that the law and all that it calls make is longer than what came in: it says more and counts as full. Else prove '..UptoSaid'. A law counts once. -/
mutual
def uptoBulk {H : Type} : DataW H → Nat
  | .lit (.string bytes) => bytes.length + 1
  | .lit _ => 1
  | .nil => 1
  | .ptr d => uptoBulk d + 1
  | .slice elems spare => uptoBulkAll elems + uptoBulkAll spare + 1
  | .agg parts => uptoBulkAll parts + 1
  | .iface _ d => uptoBulk d + 1
  | .map entries => uptoBulkEntries entries + 1
  | .held _ => 1
def uptoBulkAll {H : Type} : List (DataW H) → Nat
  | [] => 0
  | d :: r => uptoBulk d + uptoBulkAll r
def uptoBulkEntries {H : Type} : List (Lit × DataW H) → Nat
  | [] => 0
  | x :: r => uptoBulkEntry x + uptoBulkEntries r
def uptoBulkEntry {H : Type} : Lit × DataW H → Nat
  | (.string bytes, d) => bytes.length + uptoBulk d + 1
  | (_, d) => uptoBulk d + 1
 end
def uptoSmall : (H : Type) → List (DataW H) → Bool := fun _ ds => decide (uptoBulkAll ds ≤ 1048576)
def OpenSpec.upto (s : _root_.Go.ChangeSpec) : _root_.Go.OpenSpec := { _root_.Go.OpenSpec.ofChange s with cond := some uptoSmall }

/-- 'overlaylaw11.CollectiveChooses', WHERE WHAT IT READS IS OF BULK AT MOST 1048576: true; the input reads as it did. -/
def collectiveChoosesUptoRow : OpenClaim := { program := "yteniimbcbjbegaadoor", sum := "848b4dc12657f960970b2bf5aaef815667344b2af5b9b9006443bcc251a57895", func := "overlay/overlaylaw11.CollectiveChooses", spec := "collectiveChooses", unfollowed := true, recurses := true, named := ["math/bits.deBruijn32tab", "overlay/collective.steps"], apart := false, laid := [("math/bits.deBruijn32tab", laid_math_bits_deBruijn32tab), ("overlay/collective.steps", laid_overlay_collective_steps)], narrowed := true }
def CollectiveChoosesUptoSaid : Prop := collectiveChoosesUptoRow.holds Tryd.pinned (OpenSpec.upto collectiveChoosesSpec)

/-- 'overlaylaw11.CollectiveMoves', WHERE WHAT IT READS IS OF BULK AT MOST 1048576: true; the input reads as it did. -/
def collectiveMovesUptoRow : OpenClaim := { program := "yteniimbcbjbegaadoor", sum := "848b4dc12657f960970b2bf5aaef815667344b2af5b9b9006443bcc251a57895", func := "overlay/overlaylaw11.CollectiveMoves", spec := "collectiveMoves", unfollowed := true, recurses := true, named := ["math/bits.deBruijn32tab", "overlay/collective.steps"], apart := false, laid := [("math/bits.deBruijn32tab", laid_math_bits_deBruijn32tab), ("overlay/collective.steps", laid_overlay_collective_steps)], narrowed := true }
def CollectiveMovesUptoSaid : Prop := collectiveMovesUptoRow.holds Tryd.pinned (OpenSpec.upto collectiveMovesSpec)

/-- 'overlaylaw11.CollectiveMirrors', WHERE WHAT IT READS IS OF BULK AT MOST 1048576: true; the input reads as it did. -/
def collectiveMirrorsUptoRow : OpenClaim := { program := "yteniimbcbjbegaadoor", sum := "848b4dc12657f960970b2bf5aaef815667344b2af5b9b9006443bcc251a57895", func := "overlay/overlaylaw11.CollectiveMirrors", spec := "collectiveMirrors", unfollowed := true, recurses := true, named := ["math/bits.deBruijn32tab", "overlay/collective.steps"], apart := false, laid := [("math/bits.deBruijn32tab", laid_math_bits_deBruijn32tab), ("overlay/collective.steps", laid_overlay_collective_steps)], narrowed := true }
def CollectiveMirrorsUptoSaid : Prop := collectiveMirrorsUptoRow.holds Tryd.pinned (OpenSpec.upto collectiveMirrorsSpec)

/-- 'overlaylaw11.CollectiveServes', WHERE WHAT IT READS IS OF BULK AT MOST 1048576: true; the input reads as it did. -/
def collectiveServesUptoRow : OpenClaim := { program := "yteniimbcbjbegaadoor", sum := "848b4dc12657f960970b2bf5aaef815667344b2af5b9b9006443bcc251a57895", func := "overlay/overlaylaw11.CollectiveServes", spec := "collectiveServes", unfollowed := true, recurses := true, named := ["math/bits.deBruijn32tab", "overlay/collective.steps"], apart := false, laid := [("math/bits.deBruijn32tab", laid_math_bits_deBruijn32tab), ("overlay/collective.steps", laid_overlay_collective_steps)], narrowed := true }
def CollectiveServesUptoSaid : Prop := collectiveServesUptoRow.holds Tryd.pinned (OpenSpec.upto collectiveServesSpec)

/-- 'overlaylaw11.CollectiveCarries', WHERE WHAT IT READS IS OF BULK AT MOST 1048576: true; the input reads as it did. -/
def collectiveCarriesUptoRow : OpenClaim := { program := "yteniimbcbjbegaadoor", sum := "848b4dc12657f960970b2bf5aaef815667344b2af5b9b9006443bcc251a57895", func := "overlay/overlaylaw11.CollectiveCarries", spec := "collectiveCarries", unfollowed := true, recurses := true, named := ["math/bits.deBruijn32tab", "overlay/collective.steps"], apart := false, laid := [("math/bits.deBruijn32tab", laid_math_bits_deBruijn32tab), ("overlay/collective.steps", laid_overlay_collective_steps)], narrowed := true }
def CollectiveCarriesUptoSaid : Prop := collectiveCarriesUptoRow.holds Tryd.pinned (OpenSpec.upto collectiveCarriesSpec)

end Rows
end Go.Proofs.YteniimbcbjbegaaDoor
