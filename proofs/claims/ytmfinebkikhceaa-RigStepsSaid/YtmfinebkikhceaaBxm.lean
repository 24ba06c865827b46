/- More rows: five and six blocks just made, the sixth to the tenth row. No statement of the seat is proved here. -/
import Derived.Test.YtmfinebkikhceaaBxn
namespace Go.Proofs.Ytmfinebkikhceaa
open Go.RowKit

theorem bxs5 (w : World) (A B C D E : Obj) : Bx w [(w.heap.size, A), (w.heap.size + 1, B), (w.heap.size + 2, C), (w.heap.size + 3, D), (w.heap.size + 4, E)] (((((w.alloc A).alloc B).alloc C).alloc D).alloc E) := (bxs4 w A B C D).more E _ (by simp)
theorem bxs6 (w : World) (A B C D E F : Obj) : Bx w [(w.heap.size, A), (w.heap.size + 1, B), (w.heap.size + 2, C), (w.heap.size + 3, D), (w.heap.size + 4, E), (w.heap.size + 5, F)] ((((((w.alloc A).alloc B).alloc C).alloc D).alloc E).alloc F) := (bxs5 w A B C D E).more F _ (by simp)
theorem Bx.r5 {w wx : World} {L : List (Nat × Obj)} {p0 p1 p2 p3 p4 p5 : Nat × Obj} (h : Bx w (p0 :: p1 :: p2 :: p3 :: p4 :: p5 :: L) wx) : wx.heap[p5.1]? = some p5.2 := h.rows p5 (by simp)
theorem Bx.r6 {w wx : World} {L : List (Nat × Obj)} {p0 p1 p2 p3 p4 p5 p6 : Nat × Obj} (h : Bx w (p0 :: p1 :: p2 :: p3 :: p4 :: p5 :: p6 :: L) wx) : wx.heap[p6.1]? = some p6.2 := h.rows p6 (by simp)
theorem Bx.r7 {w wx : World} {L : List (Nat × Obj)} {p0 p1 p2 p3 p4 p5 p6 p7 : Nat × Obj} (h : Bx w (p0 :: p1 :: p2 :: p3 :: p4 :: p5 :: p6 :: p7 :: L) wx) : wx.heap[p7.1]? = some p7.2 := h.rows p7 (by simp)
theorem Bx.r8 {w wx : World} {L : List (Nat × Obj)} {p0 p1 p2 p3 p4 p5 p6 p7 p8 : Nat × Obj} (h : Bx w (p0 :: p1 :: p2 :: p3 :: p4 :: p5 :: p6 :: p7 :: p8 :: L) wx) : wx.heap[p8.1]? = some p8.2 := h.rows p8 (by simp)
end Go.Proofs.Ytmfinebkikhceaa
