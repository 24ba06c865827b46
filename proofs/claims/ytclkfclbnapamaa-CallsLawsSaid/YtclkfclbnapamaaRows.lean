/-
  No cell of these rows narrows 'for every input' (looked for: loops, veiled, ifaces, maps, wideKeys, modest, calm, conditions, laid).
  DERIVED. THE GIVEN ROWS OF THIS SEAT. 4 by the template 'for every input the law returns true; each argument reads behind the call as it read before'; 0 by the template 'total and deterministic' (their statements: YtclkfclbnapamaaTotals.lean).
  GIVEN WITH THE SEED: the statements are not yours to turn. If you find one false, say at which input.
  Laid BY PROGRAM, IN A SANDBOX (cutbox-rows.mjs): the forced cells as the released guide's own fill.sh prints them over the translation f3407efa96f77e71… (all of the seat's roots in one cut). By AI agents, Wed Nov 11 2026. No macro, syntax, notation, axiom, sorry.
-/
import Derived.Test.YtclkfclbnapamaaChecked
import GoSem.Claim
import GoSem.ClaimJoined
import GoSem.ClaimMapViews
import Derived.JoinedTies
import Derived.KernelRfl
namespace Go.Proofs.Ytclkfclbnapamaa
/- THE CELL 'sum', in the pinned program and in every row, IS THE sha256 OF THE DUMP (.gsa) THAT YtclkfclbnapamaaProg.lean LOADS. Nothing in Lean hashes anything: it is a label: what it is worth is what the hold of that sum in a sandbox is worth. -/
noncomputable def Try.pinned : Pinned := { name := "ytclkfclbnapamaa", sum := "f3407efa96f77e718c9bc6fd4579c41032d91051a6eb1889378cc25830274b4f", checked := Try.checked }
namespace Rows
def none {H : Type} : Left H := { results := [], args := [] }

/-- 'overlaylaw07.CallsSets': WHATEVER THE INPUT: true; the input reads as it did. -/
def callsSetsSpec : ChangeSpec := { name := "callsSets", fn := fun _ => fun
  | [d1, d2, d3] => { results := [.lit (.bool true)], args := [d1, d2, d3] }
  | _ => none }
def callsSetsRow : OpenClaim := { program := "ytclkfclbnapamaa", sum := "f3407efa96f77e718c9bc6fd4579c41032d91051a6eb1889378cc25830274b4f", func := "overlay/overlaylaw07.CallsSets", spec := "callsSets", unfollowed := true, recurses := true, apart := false }
def CallsSetsSaid : Prop := callsSetsRow.holds Try.pinned (OpenSpec.ofChange callsSetsSpec)

/-- ITS FALSE NEIGHBOUR: 'it returns false'. Refute it at one input. -/
def callsSetsWrong : ChangeSpec := { name := "callsSets", fn := fun _ => fun
  | [d1, d2, d3] => { results := [.lit (.bool false)], args := [d1, d2, d3] }
  | _ => none }
def CallsSetsWrongFalsely : Prop := callsSetsRow.holds Try.pinned (OpenSpec.ofChange callsSetsWrong)

/-- 'overlaylaw07.CallsHas': WHATEVER THE INPUT: true; the input reads as it did. -/
def callsHasSpec : ChangeSpec := { name := "callsHas", fn := fun _ => fun
  | [d1, d2, d3] => { results := [.lit (.bool true)], args := [d1, d2, d3] }
  | _ => none }
def callsHasRow : OpenClaim := { program := "ytclkfclbnapamaa", sum := "f3407efa96f77e718c9bc6fd4579c41032d91051a6eb1889378cc25830274b4f", func := "overlay/overlaylaw07.CallsHas", spec := "callsHas", unfollowed := true, recurses := true, apart := false }
def CallsHasSaid : Prop := callsHasRow.holds Try.pinned (OpenSpec.ofChange callsHasSpec)

/-- ITS FALSE NEIGHBOUR: 'it returns false'. Refute it at one input. -/
def callsHasWrong : ChangeSpec := { name := "callsHas", fn := fun _ => fun
  | [d1, d2, d3] => { results := [.lit (.bool false)], args := [d1, d2, d3] }
  | _ => none }
def CallsHasWrongFalsely : Prop := callsHasRow.holds Try.pinned (OpenSpec.ofChange callsHasWrong)

/-- 'overlaylaw07.CallsLists': WHATEVER THE INPUT: true; the input reads as it did. -/
def callsListsSpec : ChangeSpec := { name := "callsLists", fn := fun _ => fun
  | [d1, d2] => { results := [.lit (.bool true)], args := [d1, d2] }
  | _ => none }
def callsListsRow : OpenClaim := { program := "ytclkfclbnapamaa", sum := "f3407efa96f77e718c9bc6fd4579c41032d91051a6eb1889378cc25830274b4f", func := "overlay/overlaylaw07.CallsLists", spec := "callsLists", unfollowed := true, recurses := true, apart := false }
def CallsListsSaid : Prop := callsListsRow.holds Try.pinned (OpenSpec.ofChange callsListsSpec)

/-- ITS FALSE NEIGHBOUR: 'it returns false'. Refute it at one input. -/
def callsListsWrong : ChangeSpec := { name := "callsLists", fn := fun _ => fun
  | [d1, d2] => { results := [.lit (.bool false)], args := [d1, d2] }
  | _ => none }
def CallsListsWrongFalsely : Prop := callsListsRow.holds Try.pinned (OpenSpec.ofChange callsListsWrong)

/-- 'overlaylaw07.CallsLaws': WHATEVER THE INPUT: true; the input reads as it did. -/
def callsLawsSpec : ChangeSpec := { name := "callsLaws", fn := fun _ => fun
  | [d1, d2, d3] => { results := [.lit (.bool true)], args := [d1, d2, d3] }
  | _ => none }
def callsLawsRow : OpenClaim := { program := "ytclkfclbnapamaa", sum := "f3407efa96f77e718c9bc6fd4579c41032d91051a6eb1889378cc25830274b4f", func := "overlay/overlaylaw07.CallsLaws", spec := "callsLaws", unfollowed := true, recurses := true, apart := false }
def CallsLawsSaid : Prop := callsLawsRow.holds Try.pinned (OpenSpec.ofChange callsLawsSpec)

/-- ITS FALSE NEIGHBOUR: 'it returns false'. Refute it at one input. -/
def callsLawsWrong : ChangeSpec := { name := "callsLaws", fn := fun _ => fun
  | [d1, d2, d3] => { results := [.lit (.bool false)], args := [d1, d2, d3] }
  | _ => none }
def CallsLawsWrongFalsely : Prop := callsLawsRow.holds Try.pinned (OpenSpec.ofChange callsLawsWrong)

/- THE SECOND FORM. 'bulk': how many values and letters a reading holds, each counted each time it is reached (what is shared counts as often as it is met; a slice's spare places count too). A statement '..UptoSaid' is the law's where the arguments, and the package variables that the reading takes, are together of bulk at most 1048576: NARROWER than '..Said'. Prove '..Said' where nothing that the law and all that it calls make is longer than what came in: it says more and counts as full. Else prove '..UptoSaid'. A law counts once. -/
mutual
def uptoBulk {H : Type} : DataW H → Nat
  | .lit (.string bytes) => bytes.length + 1
  | .lit _ => 1
  | .nil => 1
  | .ptr d => uptoBulk d + 1
  | .slice elems spare => uptoBulkAll elems + uptoBulkAll spare + 1
  | .agg parts => uptoBulkAll parts + 1
  | .iface _ d => uptoBulk d + 1
  | .map entries => uptoBulkEntries entries + 1
  | .held _ => 1
def uptoBulkAll {H : Type} : List (DataW H) → Nat
  | [] => 0
  | d :: r => uptoBulk d + uptoBulkAll r
def uptoBulkEntries {H : Type} : List (Lit × DataW H) → Nat
  | [] => 0
  | x :: r => uptoBulkEntry x + uptoBulkEntries r
def uptoBulkEntry {H : Type} : Lit × DataW H → Nat
  | (.string bytes, d) => bytes.length + uptoBulk d + 1
  | (_, d) => uptoBulk d + 1
 end
def uptoSmall : (H : Type) → List (DataW H) → Bool := fun _ ds => decide (uptoBulkAll ds ≤ 1048576)
def OpenSpec.upto (s : _root_.Go.ChangeSpec) : _root_.Go.OpenSpec := { _root_.Go.OpenSpec.ofChange s with cond := some uptoSmall }

/-- 'overlaylaw07.CallsSets', WHERE WHAT IT READS IS OF BULK AT MOST 1048576: true; the input reads as it did. -/
def callsSetsUptoRow : OpenClaim := { program := "ytclkfclbnapamaa", sum := "f3407efa96f77e718c9bc6fd4579c41032d91051a6eb1889378cc25830274b4f", func := "overlay/overlaylaw07.CallsSets", spec := "callsSets", unfollowed := true, recurses := true, apart := false, narrowed := true }
def CallsSetsUptoSaid : Prop := callsSetsUptoRow.holds Try.pinned (OpenSpec.upto callsSetsSpec)

/-- 'overlaylaw07.CallsHas', WHERE WHAT IT READS IS OF BULK AT MOST 1048576: true; the input reads as it did. -/
def callsHasUptoRow : OpenClaim := { program := "ytclkfclbnapamaa", sum := "f3407efa96f77e718c9bc6fd4579c41032d91051a6eb1889378cc25830274b4f", func := "overlay/overlaylaw07.CallsHas", spec := "callsHas", unfollowed := true, recurses := true, apart := false, narrowed := true }
def CallsHasUptoSaid : Prop := callsHasUptoRow.holds Try.pinned (OpenSpec.upto callsHasSpec)

/-- 'overlaylaw07.CallsLists', WHERE WHAT IT READS IS OF BULK AT MOST 1048576: true; the input reads as it did. -/
def callsListsUptoRow : OpenClaim := { program := "ytclkfclbnapamaa", sum := "f3407efa96f77e718c9bc6fd4579c41032d91051a6eb1889378cc25830274b4f", func := "overlay/overlaylaw07.CallsLists", spec := "callsLists", unfollowed := true, recurses := true, apart := false, narrowed := true }
def CallsListsUptoSaid : Prop := callsListsUptoRow.holds Try.pinned (OpenSpec.upto callsListsSpec)

/-- 'overlaylaw07.CallsLaws', WHERE WHAT IT READS IS OF BULK AT MOST 1048576: true; the input reads as it did. -/
def callsLawsUptoRow : OpenClaim := { program := "ytclkfclbnapamaa", sum := "f3407efa96f77e718c9bc6fd4579c41032d91051a6eb1889378cc25830274b4f", func := "overlay/overlaylaw07.CallsLaws", spec := "callsLaws", unfollowed := true, recurses := true, apart := false, narrowed := true }
def CallsLawsUptoSaid : Prop := callsLawsUptoRow.holds Try.pinned (OpenSpec.upto callsLawsSpec)

end Rows
end Go.Proofs.Ytclkfclbnapamaa
