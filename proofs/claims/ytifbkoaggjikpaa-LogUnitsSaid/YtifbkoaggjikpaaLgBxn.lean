/- Blocks just made, as rows; results that are a struct in its cell and a plain value. No statement of the seat is proved here. -/
import Derived.Test.YtifbkoaggjikpaaLMAll
namespace Go.Proofs.Ytifbkoaggjikpaa
open Go.RowKit

theorem bxs1 (w : World) (A : Obj) : Bx w [(w.heap.size, A)] (w.alloc A) :=
  ⟨(Below.refl w.heap.size w).alloc (Nat.le_refl _) A, fun p hp => by
    simp only [List.mem_cons, List.not_mem_nil, or_false] at hp
    rw [hp]; exact heap_alloc_new w A⟩
theorem Bx.more {w wx : World} {L : List (Nat × Obj)} (h : Bx w L wx) (A : Obj) (n : Nat) (hn : wx.heap.size = n) : Bx w (L ++ [(n, A)]) (wx.alloc A) := by
  subst hn
  have hb : Below wx.heap.size wx (wx.alloc A) := (Below.refl _ _).alloc (Nat.le_refl _) A
  refine ⟨(h.next hb).below, fun p hp => ?_⟩
  rcases List.mem_append.1 hp with hp | hp
  · exact (h.next hb).rows p hp
  · simp only [List.mem_cons, List.not_mem_nil, or_false] at hp
    rw [hp]; exact heap_alloc_new wx A
theorem bxs2 (w : World) (A B : Obj) : Bx w [(w.heap.size, A), (w.heap.size + 1, B)] ((w.alloc A).alloc B) := (bxs1 w A).more B _ (by simp)
end Go.Proofs.Ytifbkoaggjikpaa
