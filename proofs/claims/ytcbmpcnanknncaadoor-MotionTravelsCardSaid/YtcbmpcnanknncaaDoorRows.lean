/-
  NARROWER THAN 'FOR EVERY INPUT', by the rows' own cells (each row's printed sentence says how): MotionSteps: laid · MotionTravels: laid · MotionWaits: laid · MotionBlind: laid.
  DERIVED. THE GIVEN ROWS OF THIS SEAT. 4 by the template 'for every input the law returns true; each argument reads behind the call as it read before'; 0 by the template 'total and deterministic' (their statements: YtcbmpcnanknncaaDoorTotals.lean).
  GIVEN WITH THE SEED: the statements are not yours to turn. If you find one false, say at which input.
  Laid BY PROGRAM, IN A SANDBOX (cutbox-rows.mjs): the forced cells as the released guide's own fill.sh prints them over the translation fd5dd8daf4fb5ffd… (all of the seat's roots in one cut). By AI agents, Wed Nov 11 2026. No macro, syntax, notation, axiom, sorry.
-/
import Derived.Test.YtcbmpcnanknncaaDoorChecked
import GoSem.Claim
import GoSem.ClaimJoined
import GoSem.ClaimMapViews
import Derived.JoinedTies
import Derived.KernelRfl
namespace Go.Proofs.YtcbmpcnanknncaaDoor
/- THE CELL 'sum', in the pinned program and in every row, IS THE sha256 OF THE DUMP (.gsa) THAT YtcbmpcnanknncaaDoorProg.lean LOADS. Nothing in Lean hashes anything: it is a label: what it is worth is what the hold of that sum in a sandbox is worth. -/
noncomputable def Tryd.pinned : Pinned := { name := "ytcbmpcnanknncaadoor", sum := "fd5dd8daf4fb5ffd2b88827b803508a148ac3949cf783e847b439f00f70d5ebd", checked := Tryd.checked }
namespace Rows
def none {H : Type} : Left H := { results := [], args := [] }

/- WHAT THE LISTED PACKAGE-LEVEL VARIABLES READ AS WHEN THE CALL BEGINS. Each datum BY PROGRAM (the guide's laid-datum.mjs) off the statement by which the dump's own 'gosem.cut.vars' lays the variable. In a bare row this is a premise. The card (YtcbmpcnanknncaaDoorCards.lean) ties it to the program's text. -/
def laid_overlay_motion_ahead {H : Type} : DataW H := .agg [.lit (.int .i64 0), .lit (.int .i64 1), .lit (.int .i64 (-1))]

/-- 'overlaylaw13.MotionSteps': WHATEVER THE INPUT: true; the input reads as it did. -/
def motionStepsSpec : ChangeSpec := { name := "motionSteps", fn := fun _ => fun
  | [d1, d2, d3] => { results := [.lit (.bool true)], args := [d1, d2, d3] }
  | _ => none }
def motionStepsRow : OpenClaim := { program := "ytcbmpcnanknncaadoor", sum := "fd5dd8daf4fb5ffd2b88827b803508a148ac3949cf783e847b439f00f70d5ebd", func := "overlay/overlaylaw13.MotionSteps", spec := "motionSteps", named := ["overlay/motion.ahead"], apart := false, laid := [("overlay/motion.ahead", laid_overlay_motion_ahead)] }
def MotionStepsSaid : Prop := motionStepsRow.holds Tryd.pinned (OpenSpec.ofChange motionStepsSpec)

/-- ITS FALSE NEIGHBOUR: 'it returns false'. Refute it at one input. -/
def motionStepsWrong : ChangeSpec := { name := "motionSteps", fn := fun _ => fun
  | [d1, d2, d3] => { results := [.lit (.bool false)], args := [d1, d2, d3] }
  | _ => none }
def MotionStepsWrongFalsely : Prop := motionStepsRow.holds Tryd.pinned (OpenSpec.ofChange motionStepsWrong)

/-- 'overlaylaw13.MotionTravels': WHATEVER THE INPUT: true; the input reads as it did. -/
def motionTravelsSpec : ChangeSpec := { name := "motionTravels", fn := fun _ => fun
  | [d1, d2] => { results := [.lit (.bool true)], args := [d1, d2] }
  | _ => none }
def motionTravelsRow : OpenClaim := { program := "ytcbmpcnanknncaadoor", sum := "fd5dd8daf4fb5ffd2b88827b803508a148ac3949cf783e847b439f00f70d5ebd", func := "overlay/overlaylaw13.MotionTravels", spec := "motionTravels", named := ["overlay/motion.ahead"], apart := false, laid := [("overlay/motion.ahead", laid_overlay_motion_ahead)] }
def MotionTravelsSaid : Prop := motionTravelsRow.holds Tryd.pinned (OpenSpec.ofChange motionTravelsSpec)

/-- ITS FALSE NEIGHBOUR: 'it returns false'. Refute it at one input. -/
def motionTravelsWrong : ChangeSpec := { name := "motionTravels", fn := fun _ => fun
  | [d1, d2] => { results := [.lit (.bool false)], args := [d1, d2] }
  | _ => none }
def MotionTravelsWrongFalsely : Prop := motionTravelsRow.holds Tryd.pinned (OpenSpec.ofChange motionTravelsWrong)

/-- 'overlaylaw13.MotionWaits': WHATEVER THE INPUT: true; the input reads as it did. -/
def motionWaitsSpec : ChangeSpec := { name := "motionWaits", fn := fun _ => fun
  | [d1, d2, d3] => { results := [.lit (.bool true)], args := [d1, d2, d3] }
  | _ => none }
def motionWaitsRow : OpenClaim := { program := "ytcbmpcnanknncaadoor", sum := "fd5dd8daf4fb5ffd2b88827b803508a148ac3949cf783e847b439f00f70d5ebd", func := "overlay/overlaylaw13.MotionWaits", spec := "motionWaits", named := ["overlay/motion.ahead"], apart := false, laid := [("overlay/motion.ahead", laid_overlay_motion_ahead)] }
def MotionWaitsSaid : Prop := motionWaitsRow.holds Tryd.pinned (OpenSpec.ofChange motionWaitsSpec)

/-- ITS FALSE NEIGHBOUR: 'it returns false'. Refute it at one input. -/
def motionWaitsWrong : ChangeSpec := { name := "motionWaits", fn := fun _ => fun
  | [d1, d2, d3] => { results := [.lit (.bool false)], args := [d1, d2, d3] }
  | _ => none }
def MotionWaitsWrongFalsely : Prop := motionWaitsRow.holds Tryd.pinned (OpenSpec.ofChange motionWaitsWrong)

/-- 'overlaylaw13.MotionBlind': WHATEVER THE INPUT: true; the input reads as it did. -/
def motionBlindSpec : ChangeSpec := { name := "motionBlind", fn := fun _ => fun
  | [d] => { results := [.lit (.bool true)], args := [d] }
  | _ => none }
def motionBlindRow : OpenClaim := { program := "ytcbmpcnanknncaadoor", sum := "fd5dd8daf4fb5ffd2b88827b803508a148ac3949cf783e847b439f00f70d5ebd", func := "overlay/overlaylaw13.MotionBlind", spec := "motionBlind", named := ["overlay/motion.ahead"], apart := false, laid := [("overlay/motion.ahead", laid_overlay_motion_ahead)] }
def MotionBlindSaid : Prop := motionBlindRow.holds Tryd.pinned (OpenSpec.ofChange motionBlindSpec)

/-- ITS FALSE NEIGHBOUR: 'it returns false'. Refute it at one input. -/
def motionBlindWrong : ChangeSpec := { name := "motionBlind", fn := fun _ => fun
  | [d] => { results := [.lit (.bool false)], args := [d] }
  | _ => none }
def MotionBlindWrongFalsely : Prop := motionBlindRow.holds Tryd.pinned (OpenSpec.ofChange motionBlindWrong)

/- THE SECOND FORM. 'bulk': how many values and letters a reading holds, each counted each time it is reached (what is shared counts as often as it is met; a slice's spare places count too). A statement '..UptoSaid' is the law's where the arguments, and the package variables that the reading takes, are together of bulk at most 1048576: NARROWER than '..Said'. Prove '..Said' where nothing that the law and all that it calls make is longer than what came in: it says more and counts as full. Else prove '..UptoSaid'. A law counts once. -/
mutual
def uptoBulk {H : Type} : DataW H → Nat
  | .lit (.string bytes) => bytes.length + 1
  | .lit _ => 1
  | .nil => 1
  | .ptr d => uptoBulk d + 1
  | .slice elems spare => uptoBulkAll elems + uptoBulkAll spare + 1
  | .agg parts => uptoBulkAll parts + 1
  | .iface _ d => uptoBulk d + 1
  | .map entries => uptoBulkEntries entries + 1
  | .held _ => 1
def uptoBulkAll {H : Type} : List (DataW H) → Nat
  | [] => 0
  | d :: r => uptoBulk d + uptoBulkAll r
def uptoBulkEntries {H : Type} : List (Lit × DataW H) → Nat
  | [] => 0
  | x :: r => uptoBulkEntry x + uptoBulkEntries r
def uptoBulkEntry {H : Type} : Lit × DataW H → Nat
  | (.string bytes, d) => bytes.length + uptoBulk d + 1
  | (_, d) => uptoBulk d + 1
 end
def uptoSmall : (H : Type) → List (DataW H) → Bool := fun _ ds => decide (uptoBulkAll ds ≤ 1048576)
def OpenSpec.upto (s : _root_.Go.ChangeSpec) : _root_.Go.OpenSpec := { _root_.Go.OpenSpec.ofChange s with cond := some uptoSmall }

/-- 'overlaylaw13.MotionSteps', WHERE WHAT IT READS IS OF BULK AT MOST 1048576: true; the input reads as it did. -/
def motionStepsUptoRow : OpenClaim := { program := "ytcbmpcnanknncaadoor", sum := "fd5dd8daf4fb5ffd2b88827b803508a148ac3949cf783e847b439f00f70d5ebd", func := "overlay/overlaylaw13.MotionSteps", spec := "motionSteps", named := ["overlay/motion.ahead"], apart := false, laid := [("overlay/motion.ahead", laid_overlay_motion_ahead)], narrowed := true }
def MotionStepsUptoSaid : Prop := motionStepsUptoRow.holds Tryd.pinned (OpenSpec.upto motionStepsSpec)

/-- 'overlaylaw13.MotionTravels', WHERE WHAT IT READS IS OF BULK AT MOST 1048576: true; the input reads as it did. -/
def motionTravelsUptoRow : OpenClaim := { program := "ytcbmpcnanknncaadoor", sum := "fd5dd8daf4fb5ffd2b88827b803508a148ac3949cf783e847b439f00f70d5ebd", func := "overlay/overlaylaw13.MotionTravels", spec := "motionTravels", named := ["overlay/motion.ahead"], apart := false, laid := [("overlay/motion.ahead", laid_overlay_motion_ahead)], narrowed := true }
def MotionTravelsUptoSaid : Prop := motionTravelsUptoRow.holds Tryd.pinned (OpenSpec.upto motionTravelsSpec)

/-- 'overlaylaw13.MotionWaits', WHERE WHAT IT READS IS OF BULK AT MOST 1048576: true; the input reads as it did. -/
def motionWaitsUptoRow : OpenClaim := { program := "ytcbmpcnanknncaadoor", sum := "fd5dd8daf4fb5ffd2b88827b803508a148ac3949cf783e847b439f00f70d5ebd", func := "overlay/overlaylaw13.MotionWaits", spec := "motionWaits", named := ["overlay/motion.ahead"], apart := false, laid := [("overlay/motion.ahead", laid_overlay_motion_ahead)], narrowed := true }
def MotionWaitsUptoSaid : Prop := motionWaitsUptoRow.holds Tryd.pinned (OpenSpec.upto motionWaitsSpec)

/-- 'overlaylaw13.MotionBlind', WHERE WHAT IT READS IS OF BULK AT MOST 1048576: true; the input reads as it did. -/
def motionBlindUptoRow : OpenClaim := { program := "ytcbmpcnanknncaadoor", sum := "fd5dd8daf4fb5ffd2b88827b803508a148ac3949cf783e847b439f00f70d5ebd", func := "overlay/overlaylaw13.MotionBlind", spec := "motionBlind", named := ["overlay/motion.ahead"], apart := false, laid := [("overlay/motion.ahead", laid_overlay_motion_ahead)], narrowed := true }
def MotionBlindUptoSaid : Prop := motionBlindUptoRow.holds Tryd.pinned (OpenSpec.upto motionBlindSpec)

end Rows
end Go.Proofs.YtcbmpcnanknncaaDoor
