/-
  NARROWER THAN 'FOR EVERY INPUT', by the rows' own cells (each row's printed sentence says how): NewcarSafe: laid · NewcarFaults: laid.
  DERIVED. THE GIVEN ROWS OF THIS SEAT. 2 by the template 'for every input the law returns true; each argument reads behind the call as it read before'; 0 by the template 'total and deterministic' (their statements: YtnjcegkefjdgdaaDoorTotals.lean).
  GIVEN WITH THE SEED: the statements are not yours to turn. If you find one false, say at which input.
  Laid BY PROGRAM, IN A SANDBOX (cutbox-rows.mjs): the forced cells as the released guide's own fill.sh prints them over the translation a5dfd297908d2168… (all of the seat's roots in one cut). By AI agents, Wed Nov 11 2026. No macro, syntax, notation, axiom, sorry.
-/
import Derived.Test.YtnjcegkefjdgdaaDoorChecked
import GoSem.Claim
import GoSem.ClaimJoined
import GoSem.ClaimMapViews
import Derived.JoinedTies
import Derived.KernelRfl
namespace Go.Proofs.YtnjcegkefjdgdaaDoor
/- THE CELL 'sum', in the pinned program and in every row, IS THE sha256 OF THE DUMP (.gsa) THAT YtnjcegkefjdgdaaDoorProg.lean LOADS. Nothing in Lean hashes anything: it is a label: what it is worth is what the hold of that sum in a sandbox is worth. -/
noncomputable def Tryd.pinned : Pinned := { name := "ytnjcegkefjdgdaadoor", sum := "a5dfd297908d2168c4720b1022964b6b6b2f4c43f22771c2e4098d6b6272813f", checked := Tryd.checked }
namespace Rows
def none {H : Type} : Left H := { results := [], args := [] }

/- WHAT THE LISTED PACKAGE-LEVEL VARIABLES READ AS WHEN THE CALL BEGINS. Each datum BY PROGRAM (the guide's laid-datum.mjs) off the statement by which the dump's own 'gosem.cut.vars' lays the variable. In a bare row this is a premise. The card (YtnjcegkefjdgdaaDoorCards.lean) ties it to the program's text. -/
def laid_math_bits_deBruijn32tab {H : Type} : DataW H := .agg [.lit (.int .u8 0), .lit (.int .u8 1), .lit (.int .u8 28), .lit (.int .u8 2), .lit (.int .u8 29), .lit (.int .u8 14), .lit (.int .u8 24), .lit (.int .u8 3), .lit (.int .u8 30), .lit (.int .u8 22), .lit (.int .u8 20), .lit (.int .u8 15), .lit (.int .u8 25), .lit (.int .u8 17), .lit (.int .u8 4), .lit (.int .u8 8), .lit (.int .u8 31), .lit (.int .u8 27), .lit (.int .u8 13), .lit (.int .u8 23), .lit (.int .u8 21), .lit (.int .u8 19), .lit (.int .u8 16), .lit (.int .u8 7), .lit (.int .u8 26), .lit (.int .u8 12), .lit (.int .u8 18), .lit (.int .u8 6), .lit (.int .u8 11), .lit (.int .u8 5), .lit (.int .u8 10), .lit (.int .u8 9)]
def laid_overlay_motion_ahead {H : Type} : DataW H := .agg [.lit (.int .i64 0), .lit (.int .i64 1), .lit (.int .i64 (-1))]
def laid_overlay_collective_steps {H : Type} : DataW H := .agg [.lit (.int .i64 0), .lit (.int .i64 1), .lit (.int .i64 2)]

/-- 'overlaylaw15.NewcarSafe': WHATEVER THE INPUT: true; the input reads as it did. -/
def newcarSafeSpec : ChangeSpec := { name := "newcarSafe", fn := fun _ => fun
  | [d1, d2] => { results := [.lit (.bool true)], args := [d1, d2] }
  | _ => none }
def newcarSafeRow : OpenClaim := { program := "ytnjcegkefjdgdaadoor", sum := "a5dfd297908d2168c4720b1022964b6b6b2f4c43f22771c2e4098d6b6272813f", func := "overlay/overlaylaw15.NewcarSafe", spec := "newcarSafe", inPlace := ["math.Float64frombits"], unfollowed := true, recurses := true, named := ["overlay/motion.ahead", "math/bits.deBruijn32tab", "overlay/collective.steps"], apart := false, laid := [("math/bits.deBruijn32tab", laid_math_bits_deBruijn32tab), ("overlay/motion.ahead", laid_overlay_motion_ahead), ("overlay/collective.steps", laid_overlay_collective_steps)] }
def NewcarSafeSaid : Prop := newcarSafeRow.holds Tryd.pinned (OpenSpec.ofChange newcarSafeSpec)

/-- ITS FALSE NEIGHBOUR: 'it returns false'. Refute it at one input. -/
def newcarSafeWrong : ChangeSpec := { name := "newcarSafe", fn := fun _ => fun
  | [d1, d2] => { results := [.lit (.bool false)], args := [d1, d2] }
  | _ => none }
def NewcarSafeWrongFalsely : Prop := newcarSafeRow.holds Tryd.pinned (OpenSpec.ofChange newcarSafeWrong)

/-- 'overlaylaw15.NewcarFaults': WHATEVER THE INPUT: true; the input reads as it did. -/
def newcarFaultsSpec : ChangeSpec := { name := "newcarFaults", fn := fun _ => fun
  | [d1, d2, d3] => { results := [.lit (.bool true)], args := [d1, d2, d3] }
  | _ => none }
def newcarFaultsRow : OpenClaim := { program := "ytnjcegkefjdgdaadoor", sum := "a5dfd297908d2168c4720b1022964b6b6b2f4c43f22771c2e4098d6b6272813f", func := "overlay/overlaylaw15.NewcarFaults", spec := "newcarFaults", inPlace := ["math.Float64frombits"], unfollowed := true, recurses := true, named := ["overlay/motion.ahead", "math/bits.deBruijn32tab", "overlay/collective.steps"], apart := false, laid := [("math/bits.deBruijn32tab", laid_math_bits_deBruijn32tab), ("overlay/motion.ahead", laid_overlay_motion_ahead), ("overlay/collective.steps", laid_overlay_collective_steps)] }
def NewcarFaultsSaid : Prop := newcarFaultsRow.holds Tryd.pinned (OpenSpec.ofChange newcarFaultsSpec)

/-- ITS FALSE NEIGHBOUR: 'it returns false'. Refute it at one input. -/
def newcarFaultsWrong : ChangeSpec := { name := "newcarFaults", fn := fun _ => fun
  | [d1, d2, d3] => { results := [.lit (.bool false)], args := [d1, d2, d3] }
  | _ => none }
def NewcarFaultsWrongFalsely : Prop := newcarFaultsRow.holds Tryd.pinned (OpenSpec.ofChange newcarFaultsWrong)

/- THE SECOND FORM. 'bulk': how many values and letters a reading holds, each counted each time it is reached (what is shared counts as often as it is met; a slice's spare places count too). A statement '..UptoSaid' is the law's where the arguments, and the package variables that the reading takes, are together of bulk at most 1048576: NARROWER than '..Said'. Prove '..Said' where nothing that the law and all that it calls make is longer than what came in: it says more and counts as full. Else prove '..UptoSaid'. A law counts once. -/
mutual
def uptoBulk {H : Type} : DataW H → Nat
  | .lit (.string bytes) => bytes.length + 1
  | .lit _ => 1
  | .nil => 1
  | .ptr d => uptoBulk d + 1
  | .slice elems spare => uptoBulkAll elems + uptoBulkAll spare + 1
  | .agg parts => uptoBulkAll parts + 1
  | .iface _ d => uptoBulk d + 1
  | .map entries => uptoBulkEntries entries + 1
  | .held _ => 1
def uptoBulkAll {H : Type} : List (DataW H) → Nat
  | [] => 0
  | d :: r => uptoBulk d + uptoBulkAll r
def uptoBulkEntries {H : Type} : List (Lit × DataW H) → Nat
  | [] => 0
  | x :: r => uptoBulkEntry x + uptoBulkEntries r
def uptoBulkEntry {H : Type} : Lit × DataW H → Nat
  | (.string bytes, d) => bytes.length + uptoBulk d + 1
  | (_, d) => uptoBulk d + 1
 end
def uptoSmall : (H : Type) → List (DataW H) → Bool := fun _ ds => decide (uptoBulkAll ds ≤ 1048576)
def OpenSpec.upto (s : _root_.Go.ChangeSpec) : _root_.Go.OpenSpec := { _root_.Go.OpenSpec.ofChange s with cond := some uptoSmall }

/-- 'overlaylaw15.NewcarSafe', WHERE WHAT IT READS IS OF BULK AT MOST 1048576: true; the input reads as it did. -/
def newcarSafeUptoRow : OpenClaim := { program := "ytnjcegkefjdgdaadoor", sum := "a5dfd297908d2168c4720b1022964b6b6b2f4c43f22771c2e4098d6b6272813f", func := "overlay/overlaylaw15.NewcarSafe", spec := "newcarSafe", inPlace := ["math.Float64frombits"], unfollowed := true, recurses := true, named := ["overlay/motion.ahead", "math/bits.deBruijn32tab", "overlay/collective.steps"], apart := false, laid := [("math/bits.deBruijn32tab", laid_math_bits_deBruijn32tab), ("overlay/motion.ahead", laid_overlay_motion_ahead), ("overlay/collective.steps", laid_overlay_collective_steps)], narrowed := true }
def NewcarSafeUptoSaid : Prop := newcarSafeUptoRow.holds Tryd.pinned (OpenSpec.upto newcarSafeSpec)

/-- 'overlaylaw15.NewcarFaults', WHERE WHAT IT READS IS OF BULK AT MOST 1048576: true; the input reads as it did. -/
def newcarFaultsUptoRow : OpenClaim := { program := "ytnjcegkefjdgdaadoor", sum := "a5dfd297908d2168c4720b1022964b6b6b2f4c43f22771c2e4098d6b6272813f", func := "overlay/overlaylaw15.NewcarFaults", spec := "newcarFaults", inPlace := ["math.Float64frombits"], unfollowed := true, recurses := true, named := ["overlay/motion.ahead", "math/bits.deBruijn32tab", "overlay/collective.steps"], apart := false, laid := [("math/bits.deBruijn32tab", laid_math_bits_deBruijn32tab), ("overlay/motion.ahead", laid_overlay_motion_ahead), ("overlay/collective.steps", laid_overlay_collective_steps)], narrowed := true }
def NewcarFaultsUptoSaid : Prop := newcarFaultsUptoRow.holds Tryd.pinned (OpenSpec.upto newcarFaultsSpec)

end Rows
end Go.Proofs.YtnjcegkefjdgdaaDoor
