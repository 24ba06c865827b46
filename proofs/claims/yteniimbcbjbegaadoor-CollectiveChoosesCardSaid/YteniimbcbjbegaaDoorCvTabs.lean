/- The tables of the stops' choice in their variables. No statement of the seat is proved here. -/
import Derived.Test.YteniimbcbjbegaaDoorMem
import Derived.Test.YteniimbcbjbegaaDoorCvMath
import Derived.Lib.TrailingZeros
namespace Go.Proofs.YteniimbcbjbegaaDoor
open Go.RowKit

/-- The tables lie in their variables. -/
structure Tabs (w : World) : Prop where
  steps : ∀ j : Nat, j < 3 → w.cell? ⟨0, j, none⟩ = some (.int .i64 j)
  tz : ∀ j : Nat, j < 32 → w.cell? ⟨1, j, none⟩ = some (.int .u8 (Go.Lib.deBruijn32tab.getD j 0))
theorem blk_lt {w : World} {b o : Nat} {v : Value} (h : w.cell? ⟨b, o, none⟩ = some v) : b < w.heap.size := by
  rcases Nat.lt_or_ge b w.heap.size with h1 | h1
  · exact h1
  · exfalso
    unfold World.cell? at h
    simp [Array.getElem?_eq_none h1] at h
theorem cell_below {w w' : World} {b o : Nat} {v : Value} (hb : Below w.heap.size w w') (h : w.cell? ⟨b, o, none⟩ = some v) : w'.cell? ⟨b, o, none⟩ = some v :=
  (hb.cell (p := ⟨b, o, none⟩) (blk_lt h)).trans h
theorem Tabs.below {w w' : World} (h : Tabs w) (hb : Below w.heap.size w w') : Tabs w' :=
  ⟨fun j hj => cell_below hb (h.steps j hj), fun j hj => cell_below hb (h.tz j hj)⟩
end Go.Proofs.YteniimbcbjbegaaDoor
