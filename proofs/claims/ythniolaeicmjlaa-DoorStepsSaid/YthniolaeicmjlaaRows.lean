/-
  No cell of these rows narrows 'for every input' (looked for: loops, veiled, ifaces, maps, wideKeys, modest, calm, conditions, laid).
  DERIVED. THE GIVEN ROWS OF THIS SEAT. 4 by the template 'for every input the law returns true; each argument reads behind the call as it read before'; 0 by the template 'total and deterministic' (their statements: YthniolaeicmjlaaTotals.lean).
  GIVEN WITH THE SEED: the statements are not yours to turn. If you find one false, say at which input.
  Laid BY PROGRAM, IN A SANDBOX (cutbox-rows.mjs): the forced cells as the released guide's own fill.sh prints them over the translation c2766fcc7772a449… (all of the seat's roots in one cut). By AI agents, Wed Nov 11 2026. No macro, syntax, notation, axiom, sorry.
-/
import Derived.Test.YthniolaeicmjlaaChecked
import GoSem.Claim
import GoSem.ClaimJoined
import GoSem.ClaimMapViews
import Derived.JoinedTies
import Derived.KernelRfl
namespace Go.Proofs.Ythniolaeicmjlaa
/- THE CELL 'sum', in the pinned program and in every row, IS THE sha256 OF THE DUMP (.gsa) THAT YthniolaeicmjlaaProg.lean LOADS. Nothing in Lean hashes anything: it is a label: what it is worth is what the hold of that sum in a sandbox is worth. -/
noncomputable def Try.pinned : Pinned := { name := "ythniolaeicmjlaa", sum := "c2766fcc7772a4498478579a6d55bb57e6bcac1e82fa7ceabd4b32df333aee75", checked := Try.checked }
namespace Rows
def none {H : Type} : Left H := { results := [], args := [] }

/-- 'overlaylaw12.DoorSteps': WHATEVER THE INPUT: true; the input reads as it did. -/
def doorStepsSpec : ChangeSpec := { name := "doorSteps", fn := fun _ => fun
  | [d1, d2, d3] => { results := [.lit (.bool true)], args := [d1, d2, d3] }
  | _ => none }
def doorStepsRow : OpenClaim := { program := "ythniolaeicmjlaa", sum := "c2766fcc7772a4498478579a6d55bb57e6bcac1e82fa7ceabd4b32df333aee75", func := "overlay/overlaylaw12.DoorSteps", spec := "doorSteps", apart := false }
def DoorStepsSaid : Prop := doorStepsRow.holds Try.pinned (OpenSpec.ofChange doorStepsSpec)

/-- ITS FALSE NEIGHBOUR: 'it returns false'. Refute it at one input. -/
def doorStepsWrong : ChangeSpec := { name := "doorSteps", fn := fun _ => fun
  | [d1, d2, d3] => { results := [.lit (.bool false)], args := [d1, d2, d3] }
  | _ => none }
def DoorStepsWrongFalsely : Prop := doorStepsRow.holds Try.pinned (OpenSpec.ofChange doorStepsWrong)

/-- 'overlaylaw12.DoorRuns': WHATEVER THE INPUT: true; the input reads as it did. -/
def doorRunsSpec : ChangeSpec := { name := "doorRuns", fn := fun _ => fun
  | [d1, d2] => { results := [.lit (.bool true)], args := [d1, d2] }
  | _ => none }
def doorRunsRow : OpenClaim := { program := "ythniolaeicmjlaa", sum := "c2766fcc7772a4498478579a6d55bb57e6bcac1e82fa7ceabd4b32df333aee75", func := "overlay/overlaylaw12.DoorRuns", spec := "doorRuns", apart := false }
def DoorRunsSaid : Prop := doorRunsRow.holds Try.pinned (OpenSpec.ofChange doorRunsSpec)

/-- ITS FALSE NEIGHBOUR: 'it returns false'. Refute it at one input. -/
def doorRunsWrong : ChangeSpec := { name := "doorRuns", fn := fun _ => fun
  | [d1, d2] => { results := [.lit (.bool false)], args := [d1, d2] }
  | _ => none }
def DoorRunsWrongFalsely : Prop := doorRunsRow.holds Try.pinned (OpenSpec.ofChange doorRunsWrong)

/-- 'overlaylaw12.DoorEnds': WHATEVER THE INPUT: true; the input reads as it did. -/
def doorEndsSpec : ChangeSpec := { name := "doorEnds", fn := fun _ => fun
  | [d1, d2] => { results := [.lit (.bool true)], args := [d1, d2] }
  | _ => none }
def doorEndsRow : OpenClaim := { program := "ythniolaeicmjlaa", sum := "c2766fcc7772a4498478579a6d55bb57e6bcac1e82fa7ceabd4b32df333aee75", func := "overlay/overlaylaw12.DoorEnds", spec := "doorEnds", apart := false }
def DoorEndsSaid : Prop := doorEndsRow.holds Try.pinned (OpenSpec.ofChange doorEndsSpec)

/-- ITS FALSE NEIGHBOUR: 'it returns false'. Refute it at one input. -/
def doorEndsWrong : ChangeSpec := { name := "doorEnds", fn := fun _ => fun
  | [d1, d2] => { results := [.lit (.bool false)], args := [d1, d2] }
  | _ => none }
def DoorEndsWrongFalsely : Prop := doorEndsRow.holds Try.pinned (OpenSpec.ofChange doorEndsWrong)

/-- 'overlaylaw12.DoorNudges': WHATEVER THE INPUT: true; the input reads as it did. -/
def doorNudgesSpec : ChangeSpec := { name := "doorNudges", fn := fun _ => fun
  | [d1, d2] => { results := [.lit (.bool true)], args := [d1, d2] }
  | _ => none }
def doorNudgesRow : OpenClaim := { program := "ythniolaeicmjlaa", sum := "c2766fcc7772a4498478579a6d55bb57e6bcac1e82fa7ceabd4b32df333aee75", func := "overlay/overlaylaw12.DoorNudges", spec := "doorNudges", apart := false }
def DoorNudgesSaid : Prop := doorNudgesRow.holds Try.pinned (OpenSpec.ofChange doorNudgesSpec)

/-- ITS FALSE NEIGHBOUR: 'it returns false'. Refute it at one input. -/
def doorNudgesWrong : ChangeSpec := { name := "doorNudges", fn := fun _ => fun
  | [d1, d2] => { results := [.lit (.bool false)], args := [d1, d2] }
  | _ => none }
def DoorNudgesWrongFalsely : Prop := doorNudgesRow.holds Try.pinned (OpenSpec.ofChange doorNudgesWrong)

/- THE SECOND FORM. 'bulk': how many values and letters a reading holds, each counted each time it is reached (what is shared counts as often as it is met; a slice's spare places count too). A statement '..UptoSaid' is the law's where the arguments, and the package variables that the reading takes, are together of bulk at most 1048576: NARROWER than '..Said'. Prove '..Said' where nothing that the law and all that it calls make is longer than what came in: it says more and counts as full. Else prove '..UptoSaid'. A law counts once. -/
mutual
def uptoBulk {H : Type} : DataW H → Nat
  | .lit (.string bytes) => bytes.length + 1
  | .lit _ => 1
  | .nil => 1
  | .ptr d => uptoBulk d + 1
  | .slice elems spare => uptoBulkAll elems + uptoBulkAll spare + 1
  | .agg parts => uptoBulkAll parts + 1
  | .iface _ d => uptoBulk d + 1
  | .map entries => uptoBulkEntries entries + 1
  | .held _ => 1
def uptoBulkAll {H : Type} : List (DataW H) → Nat
  | [] => 0
  | d :: r => uptoBulk d + uptoBulkAll r
def uptoBulkEntries {H : Type} : List (Lit × DataW H) → Nat
  | [] => 0
  | x :: r => uptoBulkEntry x + uptoBulkEntries r
def uptoBulkEntry {H : Type} : Lit × DataW H → Nat
  | (.string bytes, d) => bytes.length + uptoBulk d + 1
  | (_, d) => uptoBulk d + 1
 end
def uptoSmall : (H : Type) → List (DataW H) → Bool := fun _ ds => decide (uptoBulkAll ds ≤ 1048576)
def OpenSpec.upto (s : _root_.Go.ChangeSpec) : _root_.Go.OpenSpec := { _root_.Go.OpenSpec.ofChange s with cond := some uptoSmall }

/-- 'overlaylaw12.DoorSteps', WHERE WHAT IT READS IS OF BULK AT MOST 1048576: true; the input reads as it did. -/
def doorStepsUptoRow : OpenClaim := { program := "ythniolaeicmjlaa", sum := "c2766fcc7772a4498478579a6d55bb57e6bcac1e82fa7ceabd4b32df333aee75", func := "overlay/overlaylaw12.DoorSteps", spec := "doorSteps", apart := false, narrowed := true }
def DoorStepsUptoSaid : Prop := doorStepsUptoRow.holds Try.pinned (OpenSpec.upto doorStepsSpec)

/-- 'overlaylaw12.DoorRuns', WHERE WHAT IT READS IS OF BULK AT MOST 1048576: true; the input reads as it did. -/
def doorRunsUptoRow : OpenClaim := { program := "ythniolaeicmjlaa", sum := "c2766fcc7772a4498478579a6d55bb57e6bcac1e82fa7ceabd4b32df333aee75", func := "overlay/overlaylaw12.DoorRuns", spec := "doorRuns", apart := false, narrowed := true }
def DoorRunsUptoSaid : Prop := doorRunsUptoRow.holds Try.pinned (OpenSpec.upto doorRunsSpec)

/-- 'overlaylaw12.DoorEnds', WHERE WHAT IT READS IS OF BULK AT MOST 1048576: true; the input reads as it did. -/
def doorEndsUptoRow : OpenClaim := { program := "ythniolaeicmjlaa", sum := "c2766fcc7772a4498478579a6d55bb57e6bcac1e82fa7ceabd4b32df333aee75", func := "overlay/overlaylaw12.DoorEnds", spec := "doorEnds", apart := false, narrowed := true }
def DoorEndsUptoSaid : Prop := doorEndsUptoRow.holds Try.pinned (OpenSpec.upto doorEndsSpec)

/-- 'overlaylaw12.DoorNudges', WHERE WHAT IT READS IS OF BULK AT MOST 1048576: true; the input reads as it did. -/
def doorNudgesUptoRow : OpenClaim := { program := "ythniolaeicmjlaa", sum := "c2766fcc7772a4498478579a6d55bb57e6bcac1e82fa7ceabd4b32df333aee75", func := "overlay/overlaylaw12.DoorNudges", spec := "doorNudges", apart := false, narrowed := true }
def DoorNudgesUptoSaid : Prop := doorNudgesUptoRow.holds Try.pinned (OpenSpec.upto doorNudgesSpec)

end Rows
end Go.Proofs.Ythniolaeicmjlaa
