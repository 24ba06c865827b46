/- Blocks just made, as rows; results that are a struct in its cell and a plain value. No statement of the seat is proved here. -/
import Derived.Test.YtmfinebkikhceaaBx
import Derived.Test.YtmfinebkikhceaaRowPut
namespace Go.Proofs.Ytmfinebkikhceaa
open Go.RowKit

theorem bxs1 (w : World) (A : Obj) : Bx w [(w.heap.size, A)] (w.alloc A) :=
  ⟨(Below.refl w.heap.size w).alloc (Nat.le_refl _) A, fun p hp => by
    simp only [List.mem_cons, List.not_mem_nil, or_false] at hp
    rw [hp]; exact heap_alloc_new w A⟩
theorem Bx.more {w wx : World} {L : List (Nat × Obj)} (h : Bx w L wx) (A : Obj) (n : Nat) (hn : wx.heap.size = n) : Bx w (L ++ [(n, A)]) (wx.alloc A) := by
  subst hn
  have hb : Below wx.heap.size wx (wx.alloc A) := (Below.refl _ _).alloc (Nat.le_refl _) A
  refine ⟨(h.next hb).below, fun p hp => ?_⟩
  rcases List.mem_append.1 hp with hp | hp
  · exact (h.next hb).rows p hp
  · simp only [List.mem_cons, List.not_mem_nil, or_false] at hp
    rw [hp]; exact heap_alloc_new wx A
theorem bxs2 (w : World) (A B : Obj) : Bx w [(w.heap.size, A), (w.heap.size + 1, B)] ((w.alloc A).alloc B) := (bxs1 w A).more B _ (by simp)
theorem bxs3 (w : World) (A B C : Obj) : Bx w [(w.heap.size, A), (w.heap.size + 1, B), (w.heap.size + 2, C)] (((w.alloc A).alloc B).alloc C) := (bxs2 w A B).more C _ (by simp)
theorem bxs4 (w : World) (A B C D : Obj) : Bx w [(w.heap.size, A), (w.heap.size + 1, B), (w.heap.size + 2, C), (w.heap.size + 3, D)] ((((w.alloc A).alloc B).alloc C).alloc D) := (bxs3 w A B C).more D _ (by simp)
theorem results_row_tmp {P : Program} {fn : Func} {p q : Tmp} {ty : TypeId} (h : fn.results = #[.cell p ty, .tmp q]) (tmps : Array Value) (w : World) (g : Nat) (t : TypeId) (cs : Array Value) (fr : Nat × Nat) (d : TypeDesc)
    (hp : tmps.getD p undef = .pointer (some ⟨g, 0, none⟩)) (hg : w.heap[g]? = some (.cells cs t fr))
    (hu : P.underlying ty = some d) (hd : (match d with | .struct _ | .array _ _ => true | _ => false) = true) (hi : (P.info? ty).map (·.size) = some cs.size) :
    (results fn tmps).run P w = .ok (.tuple #[.agg cs, tmps.getD q undef]) w := by
  have hp' : tmps[p]?.getD undef = .pointer (some ⟨g, 0, none⟩) := by simpa using hp
  simp [results, h, hp', asAddr, run_loadVar_row w g t ty cs fr d hg hu hd hi]
end Go.Proofs.Ytmfinebkikhceaa
