/-
  No cell of these rows narrows 'for every input' (looked for: loops, veiled, ifaces, maps, wideKeys, modest, calm, conditions, laid).
  DERIVED. THE GIVEN ROWS OF THIS SEAT. 4 by the template 'for every input the law returns true; each argument reads behind the call as it read before'; 0 by the template 'total and deterministic' (their statements: YtmfinebkikhceaaTotals.lean).
  GIVEN WITH THE SEED: the statements are not yours to turn. If you find one false, say at which input.
  Laid BY PROGRAM, IN A SANDBOX (cutbox-rows.mjs): the forced cells as the released guide's own fill.sh prints them over the translation 3a3a3007cb950796… (all of the seat's roots in one cut). By AI agents, Wed Nov 11 2026. No macro, syntax, notation, axiom, sorry.
-/
import Derived.Test.YtmfinebkikhceaaChecked
import GoSem.Claim
import GoSem.ClaimJoined
import GoSem.ClaimMapViews
import Derived.JoinedTies
import Derived.KernelRfl
namespace Go.Proofs.Ytmfinebkikhceaa
/- THE CELL 'sum', in the pinned program and in every row, IS THE sha256 OF THE DUMP (.gsa) THAT YtmfinebkikhceaaProg.lean LOADS. Nothing in Lean hashes anything: it is a label: what it is worth is what the hold of that sum in a sandbox is worth. -/
noncomputable def Try.pinned : Pinned := { name := "ytmfinebkikhceaa", sum := "3a3a3007cb950796182ea8e7f3b14ba9d572ad7d3a7a146f5073566c8066b49c", checked := Try.checked }
namespace Rows
def none {H : Type} : Left H := { results := [], args := [] }

/-- 'overlaylaw16.RigSteps': WHATEVER THE INPUT: true; the input reads as it did. -/
def rigStepsSpec : ChangeSpec := { name := "rigSteps", fn := fun _ => fun
  | [d1, d2, d3] => { results := [.lit (.bool true)], args := [d1, d2, d3] }
  | _ => none }
def rigStepsRow : OpenClaim := { program := "ytmfinebkikhceaa", sum := "3a3a3007cb950796182ea8e7f3b14ba9d572ad7d3a7a146f5073566c8066b49c", func := "overlay/overlaylaw16.RigSteps", spec := "rigSteps", apart := false }
def RigStepsSaid : Prop := rigStepsRow.holds Try.pinned (OpenSpec.ofChange rigStepsSpec)

/-- ITS FALSE NEIGHBOUR: 'it returns false'. Refute it at one input. -/
def rigStepsWrong : ChangeSpec := { name := "rigSteps", fn := fun _ => fun
  | [d1, d2, d3] => { results := [.lit (.bool false)], args := [d1, d2, d3] }
  | _ => none }
def RigStepsWrongFalsely : Prop := rigStepsRow.holds Try.pinned (OpenSpec.ofChange rigStepsWrong)

/-- 'overlaylaw16.RigTimes': WHATEVER THE INPUT: true; the input reads as it did. -/
def rigTimesSpec : ChangeSpec := { name := "rigTimes", fn := fun _ => fun
  | [d1, d2, d3] => { results := [.lit (.bool true)], args := [d1, d2, d3] }
  | _ => none }
def rigTimesRow : OpenClaim := { program := "ytmfinebkikhceaa", sum := "3a3a3007cb950796182ea8e7f3b14ba9d572ad7d3a7a146f5073566c8066b49c", func := "overlay/overlaylaw16.RigTimes", spec := "rigTimes", apart := false }
def RigTimesSaid : Prop := rigTimesRow.holds Try.pinned (OpenSpec.ofChange rigTimesSpec)

/-- ITS FALSE NEIGHBOUR: 'it returns false'. Refute it at one input. -/
def rigTimesWrong : ChangeSpec := { name := "rigTimes", fn := fun _ => fun
  | [d1, d2, d3] => { results := [.lit (.bool false)], args := [d1, d2, d3] }
  | _ => none }
def RigTimesWrongFalsely : Prop := rigTimesRow.holds Try.pinned (OpenSpec.ofChange rigTimesWrong)

/-- 'overlaylaw16.RigSafe': WHATEVER THE INPUT: true; the input reads as it did. -/
def rigSafeSpec : ChangeSpec := { name := "rigSafe", fn := fun _ => fun
  | [d1, d2] => { results := [.lit (.bool true)], args := [d1, d2] }
  | _ => none }
def rigSafeRow : OpenClaim := { program := "ytmfinebkikhceaa", sum := "3a3a3007cb950796182ea8e7f3b14ba9d572ad7d3a7a146f5073566c8066b49c", func := "overlay/overlaylaw16.RigSafe", spec := "rigSafe", apart := false }
def RigSafeSaid : Prop := rigSafeRow.holds Try.pinned (OpenSpec.ofChange rigSafeSpec)

/-- ITS FALSE NEIGHBOUR: 'it returns false'. Refute it at one input. -/
def rigSafeWrong : ChangeSpec := { name := "rigSafe", fn := fun _ => fun
  | [d1, d2] => { results := [.lit (.bool false)], args := [d1, d2] }
  | _ => none }
def RigSafeWrongFalsely : Prop := rigSafeRow.holds Try.pinned (OpenSpec.ofChange rigSafeWrong)

/-- 'overlaylaw16.RigReverses': WHATEVER THE INPUT: true; the input reads as it did. -/
def rigReversesSpec : ChangeSpec := { name := "rigReverses", fn := fun _ => fun
  | [d1, d2] => { results := [.lit (.bool true)], args := [d1, d2] }
  | _ => none }
def rigReversesRow : OpenClaim := { program := "ytmfinebkikhceaa", sum := "3a3a3007cb950796182ea8e7f3b14ba9d572ad7d3a7a146f5073566c8066b49c", func := "overlay/overlaylaw16.RigReverses", spec := "rigReverses", apart := false }
def RigReversesSaid : Prop := rigReversesRow.holds Try.pinned (OpenSpec.ofChange rigReversesSpec)

/-- ITS FALSE NEIGHBOUR: 'it returns false'. Refute it at one input. -/
def rigReversesWrong : ChangeSpec := { name := "rigReverses", fn := fun _ => fun
  | [d1, d2] => { results := [.lit (.bool false)], args := [d1, d2] }
  | _ => none }
def RigReversesWrongFalsely : Prop := rigReversesRow.holds Try.pinned (OpenSpec.ofChange rigReversesWrong)

/- THE SECOND FORM. 'bulk': how many values and letters a reading holds, each counted each time it is reached (what is shared counts as often as it is met; a slice's spare places count too). A statement '..UptoSaid' is the law's where the arguments, and the package variables that the reading takes, are together of bulk at most 1048576: NARROWER than '..Said'. Prove '..Said' where nothing that the law and all that it calls make is longer than what came in: it says more and counts as full. Else prove '..UptoSaid'. A law counts once. -/
mutual
def uptoBulk {H : Type} : DataW H → Nat
  | .lit (.string bytes) => bytes.length + 1
  | .lit _ => 1
  | .nil => 1
  | .ptr d => uptoBulk d + 1
  | .slice elems spare => uptoBulkAll elems + uptoBulkAll spare + 1
  | .agg parts => uptoBulkAll parts + 1
  | .iface _ d => uptoBulk d + 1
  | .map entries => uptoBulkEntries entries + 1
  | .held _ => 1
def uptoBulkAll {H : Type} : List (DataW H) → Nat
  | [] => 0
  | d :: r => uptoBulk d + uptoBulkAll r
def uptoBulkEntries {H : Type} : List (Lit × DataW H) → Nat
  | [] => 0
  | x :: r => uptoBulkEntry x + uptoBulkEntries r
def uptoBulkEntry {H : Type} : Lit × DataW H → Nat
  | (.string bytes, d) => bytes.length + uptoBulk d + 1
  | (_, d) => uptoBulk d + 1
 end
def uptoSmall : (H : Type) → List (DataW H) → Bool := fun _ ds => decide (uptoBulkAll ds ≤ 1048576)
def OpenSpec.upto (s : _root_.Go.ChangeSpec) : _root_.Go.OpenSpec := { _root_.Go.OpenSpec.ofChange s with cond := some uptoSmall }

/-- 'overlaylaw16.RigSteps', WHERE WHAT IT READS IS OF BULK AT MOST 1048576: true; the input reads as it did. -/
def rigStepsUptoRow : OpenClaim := { program := "ytmfinebkikhceaa", sum := "3a3a3007cb950796182ea8e7f3b14ba9d572ad7d3a7a146f5073566c8066b49c", func := "overlay/overlaylaw16.RigSteps", spec := "rigSteps", apart := false, narrowed := true }
def RigStepsUptoSaid : Prop := rigStepsUptoRow.holds Try.pinned (OpenSpec.upto rigStepsSpec)

/-- 'overlaylaw16.RigTimes', WHERE WHAT IT READS IS OF BULK AT MOST 1048576: true; the input reads as it did. -/
def rigTimesUptoRow : OpenClaim := { program := "ytmfinebkikhceaa", sum := "3a3a3007cb950796182ea8e7f3b14ba9d572ad7d3a7a146f5073566c8066b49c", func := "overlay/overlaylaw16.RigTimes", spec := "rigTimes", apart := false, narrowed := true }
def RigTimesUptoSaid : Prop := rigTimesUptoRow.holds Try.pinned (OpenSpec.upto rigTimesSpec)

/-- 'overlaylaw16.RigSafe', WHERE WHAT IT READS IS OF BULK AT MOST 1048576: true; the input reads as it did. -/
def rigSafeUptoRow : OpenClaim := { program := "ytmfinebkikhceaa", sum := "3a3a3007cb950796182ea8e7f3b14ba9d572ad7d3a7a146f5073566c8066b49c", func := "overlay/overlaylaw16.RigSafe", spec := "rigSafe", apart := false, narrowed := true }
def RigSafeUptoSaid : Prop := rigSafeUptoRow.holds Try.pinned (OpenSpec.upto rigSafeSpec)

/-- 'overlaylaw16.RigReverses', WHERE WHAT IT READS IS OF BULK AT MOST 1048576: true; the input reads as it did. -/
def rigReversesUptoRow : OpenClaim := { program := "ytmfinebkikhceaa", sum := "3a3a3007cb950796182ea8e7f3b14ba9d572ad7d3a7a146f5073566c8066b49c", func := "overlay/overlaylaw16.RigReverses", spec := "rigReverses", apart := false, narrowed := true }
def RigReversesUptoSaid : Prop := rigReversesUptoRow.holds Try.pinned (OpenSpec.upto rigReversesSpec)

end Rows
end Go.Proofs.Ytmfinebkikhceaa
