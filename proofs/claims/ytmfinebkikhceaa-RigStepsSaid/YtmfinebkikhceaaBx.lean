/- Blocks that hold rows, through calls and stores. No statement of the seat is proved here. -/
import Derived.Test.YtmfinebkikhceaaPut
namespace Go.Proofs.Ytmfinebkikhceaa
open Go.RowKit

/-- Below B all is as in w; these blocks hold these rows. -/
structure Bx (w : World) (L : List (Nat × Obj)) (wx : World) : Prop where
  below : Below w.heap.size w wx
  rows : ∀ p ∈ L, wx.heap[p.1]? = some p.2
namespace Bx
variable {w wx x1 : World} {L : List (Nat × Obj)}
theorem lt (h : Bx w L wx) {p : Nat × Obj} (hp : p ∈ L) : p.1 < wx.heap.size := (Array.getElem?_eq_some_iff.1 (h.rows p hp)).1
theorem next (h : Bx w L wx) (hb : Below wx.heap.size wx x1) : Bx w L x1 :=
  ⟨h.below.trans (hb.mono h.below.size), fun p hp => (hb.block p.1 (h.lt hp)).trans (h.rows p hp)⟩
theorem put {b : Nat} {R : Obj} {L2 : List (Nat × Obj)} (h : Bx w L wx) (hb : w.heap.size ≤ b) (hg : wx.grownBy x1 (some b)) (hr : x1.heap[b]? = some R) (h2 : ∀ p ∈ L2, p = (b, R) ∨ (p ∈ L ∧ p.1 ≠ b)) : Bx w L2 x1 := by
  refine ⟨h.below.trans ((Below.refl w.heap.size wx).grown hg (by have := h.below.size; omega) (fun k hk => by have := Option.some.inj hk; omega)), fun p hp => ?_⟩
  rcases h2 p hp with rfl | ⟨h3, h4⟩
  · exact hr
  · rw [← h.rows p h3]
    exact hg.block p.1 (h.lt h3) (fun e => h4 (Option.some.inj e))
theorem make {g : Nat} {R : Obj} (h : Bx w L wx) (hr : x1.heap[g]? = some R) (hb : Below wx.heap.size wx x1) : Bx w ((g, R) :: L) x1 := by
  refine ⟨(h.next hb).below, fun p hp => ?_⟩
  rcases List.mem_cons.1 hp with rfl | hp
  · exact hr
  · exact (h.next hb).rows p hp
theorem ofPut {b : Nat} {R : Obj} {L2 : List (Nat × Obj)} (h : Bx w L wx) (hb : w.heap.size ≤ b) (hp : Put wx b R x1) (h2 : ∀ p ∈ L2, p = (b, R) ∨ (p ∈ L ∧ p.1 ≠ b)) : Bx w L2 x1 := by
  refine ⟨h.below.trans (hp.below (by omega) h.below.size), fun p hp2 => ?_⟩
  rcases h2 p hp2 with rfl | ⟨h3, h4⟩
  · exact hp.row
  · rw [← h.rows p h3]
    exact hp.other p.1 (h.lt h3) h4
theorem r0 {p : Nat × Obj} (h : Bx w (p :: L) wx) : wx.heap[p.1]? = some p.2 := h.rows p (by simp)
theorem r1 {p q : Nat × Obj} (h : Bx w (p :: q :: L) wx) : wx.heap[q.1]? = some q.2 := h.rows q (by simp)
theorem r2 {p q r : Nat × Obj} (h : Bx w (p :: q :: r :: L) wx) : wx.heap[r.1]? = some r.2 := h.rows r (by simp)
theorem r3 {p q r s : Nat × Obj} (h : Bx w (p :: q :: r :: s :: L) wx) : wx.heap[s.1]? = some s.2 := h.rows s (by simp)
theorem r4 {p q r s t : Nat × Obj} (h : Bx w (p :: q :: r :: s :: t :: L) wx) : wx.heap[t.1]? = some t.2 := h.rows t (by simp)
theorem less {L2 : List (Nat × Obj)} (h : Bx w L wx) (h2 : ∀ p ∈ L2, p ∈ L) : Bx w L2 wx := ⟨h.below, fun p hp => h.rows p (h2 p hp)⟩
end Bx
end Go.Proofs.Ytmfinebkikhceaa
