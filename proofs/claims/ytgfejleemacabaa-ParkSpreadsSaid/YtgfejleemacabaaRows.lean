/-
  No cell of these rows narrows 'for every input' (looked for: loops, veiled, ifaces, maps, wideKeys, modest, calm, conditions, laid).
  DERIVED. THE GIVEN ROWS OF THIS SEAT. 3 by the template 'for every input the law returns true; each argument reads behind the call as it read before'; 0 by the template 'total and deterministic' (their statements: YtgfejleemacabaaTotals.lean).
  GIVEN WITH THE SEED: the statements are not yours to turn. If you find one false, say at which input.
  Laid BY PROGRAM, IN A SANDBOX (cutbox-rows.mjs): the forced cells as the released guide's own fill.sh prints them over the translation 7276b5eb413bf586… (all of the seat's roots in one cut). By AI agents, Wed Nov 11 2026. No macro, syntax, notation, axiom, sorry.
-/
import Derived.Test.YtgfejleemacabaaChecked
import GoSem.Claim
import GoSem.ClaimJoined
import GoSem.ClaimMapViews
import Derived.JoinedTies
import Derived.KernelRfl
namespace Go.Proofs.Ytgfejleemacabaa
/- THE CELL 'sum', in the pinned program and in every row, IS THE sha256 OF THE DUMP (.gsa) THAT YtgfejleemacabaaProg.lean LOADS. Nothing in Lean hashes anything: it is a label: what it is worth is what the hold of that sum in a sandbox is worth. -/
noncomputable def Try.pinned : Pinned := { name := "ytgfejleemacabaa", sum := "7276b5eb413bf5863601d59bfd8a9df624cf1e92fdb4936df990c95af33368b7", checked := Try.checked }
namespace Rows
def none {H : Type} : Left H := { results := [], args := [] }

/-- 'overlaylaw14.ParkMoves': WHATEVER THE INPUT: true; the input reads as it did. -/
def parkMovesSpec : ChangeSpec := { name := "parkMoves", fn := fun _ => fun
  | [d1, d2, d3] => { results := [.lit (.bool true)], args := [d1, d2, d3] }
  | _ => none }
def parkMovesRow : OpenClaim := { program := "ytgfejleemacabaa", sum := "7276b5eb413bf5863601d59bfd8a9df624cf1e92fdb4936df990c95af33368b7", func := "overlay/overlaylaw14.ParkMoves", spec := "parkMoves", inPlace := ["math.Float64frombits"], apart := false }
def ParkMovesSaid : Prop := parkMovesRow.holds Try.pinned (OpenSpec.ofChange parkMovesSpec)

/-- ITS FALSE NEIGHBOUR: 'it returns false'. Refute it at one input. -/
def parkMovesWrong : ChangeSpec := { name := "parkMoves", fn := fun _ => fun
  | [d1, d2, d3] => { results := [.lit (.bool false)], args := [d1, d2, d3] }
  | _ => none }
def ParkMovesWrongFalsely : Prop := parkMovesRow.holds Try.pinned (OpenSpec.ofChange parkMovesWrong)

/-- 'overlaylaw14.ParkEnds': WHATEVER THE INPUT: true; the input reads as it did. -/
def parkEndsSpec : ChangeSpec := { name := "parkEnds", fn := fun _ => fun
  | [d1, d2, d3] => { results := [.lit (.bool true)], args := [d1, d2, d3] }
  | _ => none }
def parkEndsRow : OpenClaim := { program := "ytgfejleemacabaa", sum := "7276b5eb413bf5863601d59bfd8a9df624cf1e92fdb4936df990c95af33368b7", func := "overlay/overlaylaw14.ParkEnds", spec := "parkEnds", inPlace := ["math.Float64frombits"], apart := false }
def ParkEndsSaid : Prop := parkEndsRow.holds Try.pinned (OpenSpec.ofChange parkEndsSpec)

/-- ITS FALSE NEIGHBOUR: 'it returns false'. Refute it at one input. -/
def parkEndsWrong : ChangeSpec := { name := "parkEnds", fn := fun _ => fun
  | [d1, d2, d3] => { results := [.lit (.bool false)], args := [d1, d2, d3] }
  | _ => none }
def ParkEndsWrongFalsely : Prop := parkEndsRow.holds Try.pinned (OpenSpec.ofChange parkEndsWrong)

/-- 'overlaylaw14.ParkSpreads': WHATEVER THE INPUT: true; the input reads as it did. -/
def parkSpreadsSpec : ChangeSpec := { name := "parkSpreads", fn := fun _ => fun
  | [d1, d2] => { results := [.lit (.bool true)], args := [d1, d2] }
  | _ => none }
def parkSpreadsRow : OpenClaim := { program := "ytgfejleemacabaa", sum := "7276b5eb413bf5863601d59bfd8a9df624cf1e92fdb4936df990c95af33368b7", func := "overlay/overlaylaw14.ParkSpreads", spec := "parkSpreads", inPlace := ["math.Float64frombits"], apart := false }
def ParkSpreadsSaid : Prop := parkSpreadsRow.holds Try.pinned (OpenSpec.ofChange parkSpreadsSpec)

/-- ITS FALSE NEIGHBOUR: 'it returns false'. Refute it at one input. -/
def parkSpreadsWrong : ChangeSpec := { name := "parkSpreads", fn := fun _ => fun
  | [d1, d2] => { results := [.lit (.bool false)], args := [d1, d2] }
  | _ => none }
def ParkSpreadsWrongFalsely : Prop := parkSpreadsRow.holds Try.pinned (OpenSpec.ofChange parkSpreadsWrong)

/- THE SECOND FORM. 'bulk': how many values and letters a reading holds, each counted each time it is reached (what is shared counts as often as it is met; a slice's spare places count too). A statement '..UptoSaid' is the law's where the arguments, and the package variables that the reading takes, are together of bulk at most 1048576: NARROWER than '..Said'. Prove '..Said' where nothing that the law and all that it calls make is longer than what came in: it says more and counts as full. Else prove '..UptoSaid'. A law counts once. -/
mutual
def uptoBulk {H : Type} : DataW H → Nat
  | .lit (.string bytes) => bytes.length + 1
  | .lit _ => 1
  | .nil => 1
  | .ptr d => uptoBulk d + 1
  | .slice elems spare => uptoBulkAll elems + uptoBulkAll spare + 1
  | .agg parts => uptoBulkAll parts + 1
  | .iface _ d => uptoBulk d + 1
  | .map entries => uptoBulkEntries entries + 1
  | .held _ => 1
def uptoBulkAll {H : Type} : List (DataW H) → Nat
  | [] => 0
  | d :: r => uptoBulk d + uptoBulkAll r
def uptoBulkEntries {H : Type} : List (Lit × DataW H) → Nat
  | [] => 0
  | x :: r => uptoBulkEntry x + uptoBulkEntries r
def uptoBulkEntry {H : Type} : Lit × DataW H → Nat
  | (.string bytes, d) => bytes.length + uptoBulk d + 1
  | (_, d) => uptoBulk d + 1
 end
def uptoSmall : (H : Type) → List (DataW H) → Bool := fun _ ds => decide (uptoBulkAll ds ≤ 1048576)
def OpenSpec.upto (s : _root_.Go.ChangeSpec) : _root_.Go.OpenSpec := { _root_.Go.OpenSpec.ofChange s with cond := some uptoSmall }

/-- 'overlaylaw14.ParkMoves', WHERE WHAT IT READS IS OF BULK AT MOST 1048576: true; the input reads as it did. -/
def parkMovesUptoRow : OpenClaim := { program := "ytgfejleemacabaa", sum := "7276b5eb413bf5863601d59bfd8a9df624cf1e92fdb4936df990c95af33368b7", func := "overlay/overlaylaw14.ParkMoves", spec := "parkMoves", inPlace := ["math.Float64frombits"], apart := false, narrowed := true }
def ParkMovesUptoSaid : Prop := parkMovesUptoRow.holds Try.pinned (OpenSpec.upto parkMovesSpec)

/-- 'overlaylaw14.ParkEnds', WHERE WHAT IT READS IS OF BULK AT MOST 1048576: true; the input reads as it did. -/
def parkEndsUptoRow : OpenClaim := { program := "ytgfejleemacabaa", sum := "7276b5eb413bf5863601d59bfd8a9df624cf1e92fdb4936df990c95af33368b7", func := "overlay/overlaylaw14.ParkEnds", spec := "parkEnds", inPlace := ["math.Float64frombits"], apart := false, narrowed := true }
def ParkEndsUptoSaid : Prop := parkEndsUptoRow.holds Try.pinned (OpenSpec.upto parkEndsSpec)

/-- 'overlaylaw14.ParkSpreads', WHERE WHAT IT READS IS OF BULK AT MOST 1048576: true; the input reads as it did. -/
def parkSpreadsUptoRow : OpenClaim := { program := "ytgfejleemacabaa", sum := "7276b5eb413bf5863601d59bfd8a9df624cf1e92fdb4936df990c95af33368b7", func := "overlay/overlaylaw14.ParkSpreads", spec := "parkSpreads", inPlace := ["math.Float64frombits"], apart := false, narrowed := true }
def ParkSpreadsUptoSaid : Prop := parkSpreadsUptoRow.holds Try.pinned (OpenSpec.upto parkSpreadsSpec)

end Rows
end Go.Proofs.Ytgfejleemacabaa
