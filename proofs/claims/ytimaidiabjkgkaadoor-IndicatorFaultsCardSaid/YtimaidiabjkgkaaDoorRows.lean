/-
  NARROWER THAN 'FOR EVERY INPUT', by the rows' own cells (each row's printed sentence says how): IndicatorFloors: laid · IndicatorDecodes: laid · IndicatorShows: laid · IndicatorOne: laid · IndicatorFaults: laid.
  DERIVED. THE GIVEN ROWS OF THIS SEAT. 5 by the template 'for every input the law returns true; each argument reads behind the call as it read before'; 0 by the template 'total and deterministic' (their statements: YtimaidiabjkgkaaDoorTotals.lean).
  GIVEN WITH THE SEED: the statements are not yours to turn. If you find one false, say at which input.
  Laid BY PROGRAM, IN A SANDBOX (cutbox-rows.mjs): the forced cells as the released guide's own fill.sh prints them over the translation 47428fd9deb35fc8… (all of the seat's roots in one cut). By AI agents, Wed Nov 11 2026. No macro, syntax, notation, axiom, sorry.
-/
import Derived.Test.YtimaidiabjkgkaaDoorChecked
import GoSem.Claim
import GoSem.ClaimJoined
import GoSem.ClaimMapViews
import Derived.JoinedTies
import Derived.KernelRfl
namespace Go.Proofs.YtimaidiabjkgkaaDoor
/- THE CELL 'sum', in the pinned program and in every row, IS THE sha256 OF THE DUMP (.gsa) THAT YtimaidiabjkgkaaDoorProg.lean LOADS. Nothing in Lean hashes anything: it is a label: what it is worth is what the hold of that sum in a sandbox is worth. -/
noncomputable def Tryd.pinned : Pinned := { name := "ytimaidiabjkgkaadoor", sum := "47428fd9deb35fc83b5d2cbfbc489c7b6d150265f4e7bcbe55c4dd2bc4ab1632", checked := Tryd.checked }
namespace Rows
def none {H : Type} : Left H := { results := [], args := [] }

/- WHAT THE LISTED PACKAGE-LEVEL VARIABLES READ AS WHEN THE CALL BEGINS. Each datum BY PROGRAM (the guide's laid-datum.mjs) off the statement by which the dump's own 'gosem.cut.vars' lays the variable. In a bare row this is a premise. The card (YtimaidiabjkgkaaDoorCards.lean) ties it to the program's text. -/
def laid_math_bits_deBruijn32tab {H : Type} : DataW H := .agg [.lit (.int .u8 0), .lit (.int .u8 1), .lit (.int .u8 28), .lit (.int .u8 2), .lit (.int .u8 29), .lit (.int .u8 14), .lit (.int .u8 24), .lit (.int .u8 3), .lit (.int .u8 30), .lit (.int .u8 22), .lit (.int .u8 20), .lit (.int .u8 15), .lit (.int .u8 25), .lit (.int .u8 17), .lit (.int .u8 4), .lit (.int .u8 8), .lit (.int .u8 31), .lit (.int .u8 27), .lit (.int .u8 13), .lit (.int .u8 23), .lit (.int .u8 21), .lit (.int .u8 19), .lit (.int .u8 16), .lit (.int .u8 7), .lit (.int .u8 26), .lit (.int .u8 12), .lit (.int .u8 18), .lit (.int .u8 6), .lit (.int .u8 11), .lit (.int .u8 5), .lit (.int .u8 10), .lit (.int .u8 9)]
def laid_overlay_indicator_dirs {H : Type} : DataW H := .agg [.lit (.int .i64 0), .lit (.int .i64 1), .lit (.int .i64 2), .lit (.int .i64 3)]
def laid_overlay_indicator_doors {H : Type} : DataW H := .agg [.lit (.int .i64 0), .lit (.int .i64 1), .lit (.int .i64 2), .lit (.int .i64 3)]

/-- 'overlaylaw05.IndicatorFloors': WHATEVER THE INPUT: true; the input reads as it did. -/
def indicatorFloorsSpec : ChangeSpec := { name := "indicatorFloors", fn := fun _ => fun
  | [d1, d2, d3] => { results := [.lit (.bool true)], args := [d1, d2, d3] }
  | _ => none }
def indicatorFloorsRow : OpenClaim := { program := "ytimaidiabjkgkaadoor", sum := "47428fd9deb35fc83b5d2cbfbc489c7b6d150265f4e7bcbe55c4dd2bc4ab1632", func := "overlay/overlaylaw05.IndicatorFloors", spec := "indicatorFloors", named := ["math/bits.deBruijn32tab", "overlay/indicator.dirs", "overlay/indicator.doors"], apart := false, laid := [("math/bits.deBruijn32tab", laid_math_bits_deBruijn32tab), ("overlay/indicator.dirs", laid_overlay_indicator_dirs), ("overlay/indicator.doors", laid_overlay_indicator_doors)] }
def IndicatorFloorsSaid : Prop := indicatorFloorsRow.holds Tryd.pinned (OpenSpec.ofChange indicatorFloorsSpec)

/-- ITS FALSE NEIGHBOUR: 'it returns false'. Refute it at one input. -/
def indicatorFloorsWrong : ChangeSpec := { name := "indicatorFloors", fn := fun _ => fun
  | [d1, d2, d3] => { results := [.lit (.bool false)], args := [d1, d2, d3] }
  | _ => none }
def IndicatorFloorsWrongFalsely : Prop := indicatorFloorsRow.holds Tryd.pinned (OpenSpec.ofChange indicatorFloorsWrong)

/-- 'overlaylaw05.IndicatorDecodes': WHATEVER THE INPUT: true; the input reads as it did. -/
def indicatorDecodesSpec : ChangeSpec := { name := "indicatorDecodes", fn := fun _ => fun
  | [d1, d2, d3] => { results := [.lit (.bool true)], args := [d1, d2, d3] }
  | _ => none }
def indicatorDecodesRow : OpenClaim := { program := "ytimaidiabjkgkaadoor", sum := "47428fd9deb35fc83b5d2cbfbc489c7b6d150265f4e7bcbe55c4dd2bc4ab1632", func := "overlay/overlaylaw05.IndicatorDecodes", spec := "indicatorDecodes", named := ["overlay/indicator.dirs", "overlay/indicator.doors", "math/bits.deBruijn32tab"], apart := false, laid := [("math/bits.deBruijn32tab", laid_math_bits_deBruijn32tab), ("overlay/indicator.dirs", laid_overlay_indicator_dirs), ("overlay/indicator.doors", laid_overlay_indicator_doors)] }
def IndicatorDecodesSaid : Prop := indicatorDecodesRow.holds Tryd.pinned (OpenSpec.ofChange indicatorDecodesSpec)

/-- ITS FALSE NEIGHBOUR: 'it returns false'. Refute it at one input. -/
def indicatorDecodesWrong : ChangeSpec := { name := "indicatorDecodes", fn := fun _ => fun
  | [d1, d2, d3] => { results := [.lit (.bool false)], args := [d1, d2, d3] }
  | _ => none }
def IndicatorDecodesWrongFalsely : Prop := indicatorDecodesRow.holds Tryd.pinned (OpenSpec.ofChange indicatorDecodesWrong)

/-- 'overlaylaw05.IndicatorShows': WHATEVER THE INPUT: true; the input reads as it did. -/
def indicatorShowsSpec : ChangeSpec := { name := "indicatorShows", fn := fun _ => fun
  | [d1, d2] => { results := [.lit (.bool true)], args := [d1, d2] }
  | _ => none }
def indicatorShowsRow : OpenClaim := { program := "ytimaidiabjkgkaadoor", sum := "47428fd9deb35fc83b5d2cbfbc489c7b6d150265f4e7bcbe55c4dd2bc4ab1632", func := "overlay/overlaylaw05.IndicatorShows", spec := "indicatorShows", named := ["overlay/indicator.dirs", "overlay/indicator.doors", "math/bits.deBruijn32tab"], apart := false, laid := [("math/bits.deBruijn32tab", laid_math_bits_deBruijn32tab), ("overlay/indicator.dirs", laid_overlay_indicator_dirs), ("overlay/indicator.doors", laid_overlay_indicator_doors)] }
def IndicatorShowsSaid : Prop := indicatorShowsRow.holds Tryd.pinned (OpenSpec.ofChange indicatorShowsSpec)

/-- ITS FALSE NEIGHBOUR: 'it returns false'. Refute it at one input. -/
def indicatorShowsWrong : ChangeSpec := { name := "indicatorShows", fn := fun _ => fun
  | [d1, d2] => { results := [.lit (.bool false)], args := [d1, d2] }
  | _ => none }
def IndicatorShowsWrongFalsely : Prop := indicatorShowsRow.holds Tryd.pinned (OpenSpec.ofChange indicatorShowsWrong)

/-- 'overlaylaw05.IndicatorOne': WHATEVER THE INPUT: true; the input reads as it did. -/
def indicatorOneSpec : ChangeSpec := { name := "indicatorOne", fn := fun _ => fun
  | [d1, d2] => { results := [.lit (.bool true)], args := [d1, d2] }
  | _ => none }
def indicatorOneRow : OpenClaim := { program := "ytimaidiabjkgkaadoor", sum := "47428fd9deb35fc83b5d2cbfbc489c7b6d150265f4e7bcbe55c4dd2bc4ab1632", func := "overlay/overlaylaw05.IndicatorOne", spec := "indicatorOne", named := ["overlay/indicator.dirs", "overlay/indicator.doors", "math/bits.deBruijn32tab"], apart := false, laid := [("math/bits.deBruijn32tab", laid_math_bits_deBruijn32tab), ("overlay/indicator.dirs", laid_overlay_indicator_dirs), ("overlay/indicator.doors", laid_overlay_indicator_doors)] }
def IndicatorOneSaid : Prop := indicatorOneRow.holds Tryd.pinned (OpenSpec.ofChange indicatorOneSpec)

/-- ITS FALSE NEIGHBOUR: 'it returns false'. Refute it at one input. -/
def indicatorOneWrong : ChangeSpec := { name := "indicatorOne", fn := fun _ => fun
  | [d1, d2] => { results := [.lit (.bool false)], args := [d1, d2] }
  | _ => none }
def IndicatorOneWrongFalsely : Prop := indicatorOneRow.holds Tryd.pinned (OpenSpec.ofChange indicatorOneWrong)

/-- 'overlaylaw05.IndicatorFaults': WHATEVER THE INPUT: true; the input reads as it did. -/
def indicatorFaultsSpec : ChangeSpec := { name := "indicatorFaults", fn := fun _ => fun
  | [d1, d2, d3] => { results := [.lit (.bool true)], args := [d1, d2, d3] }
  | _ => none }
def indicatorFaultsRow : OpenClaim := { program := "ytimaidiabjkgkaadoor", sum := "47428fd9deb35fc83b5d2cbfbc489c7b6d150265f4e7bcbe55c4dd2bc4ab1632", func := "overlay/overlaylaw05.IndicatorFaults", spec := "indicatorFaults", named := ["overlay/indicator.dirs", "overlay/indicator.doors", "math/bits.deBruijn32tab"], apart := false, laid := [("math/bits.deBruijn32tab", laid_math_bits_deBruijn32tab), ("overlay/indicator.dirs", laid_overlay_indicator_dirs), ("overlay/indicator.doors", laid_overlay_indicator_doors)] }
def IndicatorFaultsSaid : Prop := indicatorFaultsRow.holds Tryd.pinned (OpenSpec.ofChange indicatorFaultsSpec)

/-- ITS FALSE NEIGHBOUR: 'it returns false'. Refute it at one input. -/
def indicatorFaultsWrong : ChangeSpec := { name := "indicatorFaults", fn := fun _ => fun
  | [d1, d2, d3] => { results := [.lit (.bool false)], args := [d1, d2, d3] }
  | _ => none }
def IndicatorFaultsWrongFalsely : Prop := indicatorFaultsRow.holds Tryd.pinned (OpenSpec.ofChange indicatorFaultsWrong)

/- THE SECOND FORM. 'bulk': how many values and letters a reading holds, each counted each time it is reached (what is shared counts as often as it is met; a slice's spare places count too). A statement '..UptoSaid' is the law's where the arguments, and the package variables that the reading takes, are together of bulk at most 1048576: NARROWER than '..Said'. Prove '..Said' where nothing that the law and all that it calls make is longer than what came in: it says more and counts as full. Else prove '..UptoSaid'. A law counts once. -/
mutual
def uptoBulk {H : Type} : DataW H → Nat
  | .lit (.string bytes) => bytes.length + 1
  | .lit _ => 1
  | .nil => 1
  | .ptr d => uptoBulk d + 1
  | .slice elems spare => uptoBulkAll elems + uptoBulkAll spare + 1
  | .agg parts => uptoBulkAll parts + 1
  | .iface _ d => uptoBulk d + 1
  | .map entries => uptoBulkEntries entries + 1
  | .held _ => 1
def uptoBulkAll {H : Type} : List (DataW H) → Nat
  | [] => 0
  | d :: r => uptoBulk d + uptoBulkAll r
def uptoBulkEntries {H : Type} : List (Lit × DataW H) → Nat
  | [] => 0
  | x :: r => uptoBulkEntry x + uptoBulkEntries r
def uptoBulkEntry {H : Type} : Lit × DataW H → Nat
  | (.string bytes, d) => bytes.length + uptoBulk d + 1
  | (_, d) => uptoBulk d + 1
 end
def uptoSmall : (H : Type) → List (DataW H) → Bool := fun _ ds => decide (uptoBulkAll ds ≤ 1048576)
def OpenSpec.upto (s : _root_.Go.ChangeSpec) : _root_.Go.OpenSpec := { _root_.Go.OpenSpec.ofChange s with cond := some uptoSmall }

/-- 'overlaylaw05.IndicatorFloors', WHERE WHAT IT READS IS OF BULK AT MOST 1048576: true; the input reads as it did. -/
def indicatorFloorsUptoRow : OpenClaim := { program := "ytimaidiabjkgkaadoor", sum := "47428fd9deb35fc83b5d2cbfbc489c7b6d150265f4e7bcbe55c4dd2bc4ab1632", func := "overlay/overlaylaw05.IndicatorFloors", spec := "indicatorFloors", named := ["math/bits.deBruijn32tab", "overlay/indicator.dirs", "overlay/indicator.doors"], apart := false, laid := [("math/bits.deBruijn32tab", laid_math_bits_deBruijn32tab), ("overlay/indicator.dirs", laid_overlay_indicator_dirs), ("overlay/indicator.doors", laid_overlay_indicator_doors)], narrowed := true }
def IndicatorFloorsUptoSaid : Prop := indicatorFloorsUptoRow.holds Tryd.pinned (OpenSpec.upto indicatorFloorsSpec)

/-- 'overlaylaw05.IndicatorDecodes', WHERE WHAT IT READS IS OF BULK AT MOST 1048576: true; the input reads as it did. -/
def indicatorDecodesUptoRow : OpenClaim := { program := "ytimaidiabjkgkaadoor", sum := "47428fd9deb35fc83b5d2cbfbc489c7b6d150265f4e7bcbe55c4dd2bc4ab1632", func := "overlay/overlaylaw05.IndicatorDecodes", spec := "indicatorDecodes", named := ["overlay/indicator.dirs", "overlay/indicator.doors", "math/bits.deBruijn32tab"], apart := false, laid := [("math/bits.deBruijn32tab", laid_math_bits_deBruijn32tab), ("overlay/indicator.dirs", laid_overlay_indicator_dirs), ("overlay/indicator.doors", laid_overlay_indicator_doors)], narrowed := true }
def IndicatorDecodesUptoSaid : Prop := indicatorDecodesUptoRow.holds Tryd.pinned (OpenSpec.upto indicatorDecodesSpec)

/-- 'overlaylaw05.IndicatorShows', WHERE WHAT IT READS IS OF BULK AT MOST 1048576: true; the input reads as it did. -/
def indicatorShowsUptoRow : OpenClaim := { program := "ytimaidiabjkgkaadoor", sum := "47428fd9deb35fc83b5d2cbfbc489c7b6d150265f4e7bcbe55c4dd2bc4ab1632", func := "overlay/overlaylaw05.IndicatorShows", spec := "indicatorShows", named := ["overlay/indicator.dirs", "overlay/indicator.doors", "math/bits.deBruijn32tab"], apart := false, laid := [("math/bits.deBruijn32tab", laid_math_bits_deBruijn32tab), ("overlay/indicator.dirs", laid_overlay_indicator_dirs), ("overlay/indicator.doors", laid_overlay_indicator_doors)], narrowed := true }
def IndicatorShowsUptoSaid : Prop := indicatorShowsUptoRow.holds Tryd.pinned (OpenSpec.upto indicatorShowsSpec)

/-- 'overlaylaw05.IndicatorOne', WHERE WHAT IT READS IS OF BULK AT MOST 1048576: true; the input reads as it did. -/
def indicatorOneUptoRow : OpenClaim := { program := "ytimaidiabjkgkaadoor", sum := "47428fd9deb35fc83b5d2cbfbc489c7b6d150265f4e7bcbe55c4dd2bc4ab1632", func := "overlay/overlaylaw05.IndicatorOne", spec := "indicatorOne", named := ["overlay/indicator.dirs", "overlay/indicator.doors", "math/bits.deBruijn32tab"], apart := false, laid := [("math/bits.deBruijn32tab", laid_math_bits_deBruijn32tab), ("overlay/indicator.dirs", laid_overlay_indicator_dirs), ("overlay/indicator.doors", laid_overlay_indicator_doors)], narrowed := true }
def IndicatorOneUptoSaid : Prop := indicatorOneUptoRow.holds Tryd.pinned (OpenSpec.upto indicatorOneSpec)

/-- 'overlaylaw05.IndicatorFaults', WHERE WHAT IT READS IS OF BULK AT MOST 1048576: true; the input reads as it did. -/
def indicatorFaultsUptoRow : OpenClaim := { program := "ytimaidiabjkgkaadoor", sum := "47428fd9deb35fc83b5d2cbfbc489c7b6d150265f4e7bcbe55c4dd2bc4ab1632", func := "overlay/overlaylaw05.IndicatorFaults", spec := "indicatorFaults", named := ["overlay/indicator.dirs", "overlay/indicator.doors", "math/bits.deBruijn32tab"], apart := false, laid := [("math/bits.deBruijn32tab", laid_math_bits_deBruijn32tab), ("overlay/indicator.dirs", laid_overlay_indicator_dirs), ("overlay/indicator.doors", laid_overlay_indicator_doors)], narrowed := true }
def IndicatorFaultsUptoSaid : Prop := indicatorFaultsUptoRow.holds Tryd.pinned (OpenSpec.upto indicatorFaultsSpec)

end Rows
end Go.Proofs.YtimaidiabjkgkaaDoor
