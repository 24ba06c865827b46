/- The box of a valid building, as the laws keep it. No statement of the seat is proved here. -/
import Derived.Test.YtaiciopfinlpiaaLdSane2
import Derived.Test.YtaiciopfinlpiaaLdEdges
import Derived.Test.YtaiciopfinlpiaaLdOpen
namespace Go.Proofs.Ytaiciopfinlpiaa
open Go.RowKit

/-- A building lies whole in block g, its cars somewhere. -/
structure BX (w : World) (g : Nat) (f d r p : Int) (e1 e2 e3 : Nat) (A : Option Addr) (cs : List CarD) (cap : Nat) : Prop where
  row : w.heap[g]? = some (.cells #[.int .i64 f, .int .i64 d, .int .i64 r, .int .i64 p, .float .f64 e1, .float .f64 e2, .float .f64 e3, .slice A cs.length cap] 25 (0, 0))
  own : CarsAt w g A cs
section
variable {w w' : World} {g : Nat} {f d r p : Int} {e1 e2 e3 : Nat} {A : Option Addr} {cs : List CarD} {cap : Nat}
theorem BX.lt (h : BX w g f d r p e1 e2 e3 A cs cap) : g < w.heap.size := by
  rcases Nat.lt_or_ge g w.heap.size with h1 | h1
  · exact h1
  · have := h.row; rw [Array.getElem?_eq_none h1] at this; cases this
theorem BX.below (h : BX w g f d r p e1 e2 e3 A cs cap) (hb : Below w.heap.size w w') : BX w' g f d r p e1 e2 e3 A cs cap :=
  ⟨(hb.block _ h.lt).trans h.row, h.own.below (hb.mono (Nat.le_of_lt h.lt))⟩
theorem BX.cars (h : BX w g f d r p e1 e2 e3 A cs cap) : CarsAt w w.heap.size A cs := h.own.more (Nat.le_of_lt h.lt)
theorem BX.put (h : BX w g f d r p e1 e2 e3 A cs cap) {k : Nat} (hk : g < k) (i : Nat) (v : Value) : BX (w.setCell ⟨k, i, none⟩ v) g f d r p e1 e2 e3 A cs cap :=
  ⟨(Below.heap_setCell _ _ _ _ (by show g ≠ k; omega)).trans h.row, h.own.below ((Below.refl _ _).setCell (by show g ≤ k; omega) _)⟩
theorem BX.new (h : CarsAt w w.heap.size A cs) : BX (w.alloc (.cells #[.int .i64 f, .int .i64 d, .int .i64 r, .int .i64 p, .float .f64 e1, .float .f64 e2, .float .f64 e3, .slice A cs.length cap] 25)) w.heap.size f d r p e1 e2 e3 A cs cap :=
  ⟨heap_alloc_new _ _, h.below ((Below.refl _ _).alloc (Nat.le_refl _) _)⟩
theorem BX.cells (h : BX w g f d r p e1 e2 e3 A cs cap) :
    w.cell? ⟨g, 0, none⟩ = some (.int .i64 f) ∧ w.cell? ⟨g, 1, none⟩ = some (.int .i64 d) ∧ w.cell? ⟨g, 2, none⟩ = some (.int .i64 r) ∧ w.cell? ⟨g, 3, none⟩ = some (.int .i64 p) ∧ w.cell? ⟨g, 4, none⟩ = some (.float .f64 e1) ∧ w.cell? ⟨g, 5, none⟩ = some (.float .f64 e2) ∧ w.cell? ⟨g, 6, none⟩ = some (.float .f64 e3) ∧ w.cell? ⟨g, 7, none⟩ = some (.slice A cs.length cap) := boxRow h.row
end
end Go.Proofs.Ytaiciopfinlpiaa
