/- The sixth to eighth of blocks that hold rows. No statement of the seat is proved here. -/
import Derived.Test.YteniimbcbjbegaaDoorBx
namespace Go.Proofs.YteniimbcbjbegaaDoor
open Go.RowKit
namespace Bx
variable {w wx : World} {L : List (Nat × Obj)}
theorem r5 {p q r s t u : Nat × Obj} (h : Bx w (p :: q :: r :: s :: t :: u :: L) wx) : wx.heap[u.1]? = some u.2 := h.rows u (by simp)
theorem r6 {p q r s t u v : Nat × Obj} (h : Bx w (p :: q :: r :: s :: t :: u :: v :: L) wx) : wx.heap[v.1]? = some v.2 := h.rows v (by simp)
theorem r7 {p q r s t u v x : Nat × Obj} (h : Bx w (p :: q :: r :: s :: t :: u :: v :: x :: L) wx) : wx.heap[x.1]? = some x.2 := h.rows x (by simp)
end Bx
end Go.Proofs.YteniimbcbjbegaaDoor
