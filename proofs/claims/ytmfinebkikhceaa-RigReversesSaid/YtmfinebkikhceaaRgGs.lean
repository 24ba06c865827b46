/- A region whose order is open: s = f(.., s, []T{..}[i], ..): a literal slice is made and read at one index, a call takes the element and the old row, the row is stored. No statement of the seat is proved here. -/
import Derived.Test.YtmfinebkikhceaaRgGhM
import Derived.Test.YtmfinebkikhceaaGhostL
namespace Go.Proofs.Ytmfinebkikhceaa
open Go.RowKit GhostV

/-- Behind p turns: the element is loaded, the call is done, the row is stored. -/
structure Gs (W1 : World) (b : Nat) (Z R : Array Value) (T : TypeId) (rw : Array Value) (et : TypeId) (k : Nat) (c : Value) (p : Nat) (x1 x4 x5 x7 : Value) (l1 l4 : Bool) (wx : World) : Prop where
  put : Put W1 b (.cells (if p ≤ 2 then Z else R) T (0, 0)) wx
  lit : l1 = true → p ≤ 2 → ∃ g, W1.heap.size ≤ g ∧ x1 = .slice (some ⟨g, 0, none⟩) rw.size rw.size ∧ wx.heap[g]? = some (.cells rw et (0, 0)) ∧ (l4 = true → x4 = .pointer (some ⟨g, k, none⟩))
  dep : l4 = true → l1 = true
  v5 : 1 ≤ p → x5 = c
  v7 : 2 ≤ p → x7 = .agg R
namespace Gs
variable {W1 wx w' : World} {b k p : Nat} {Z R rw : Array Value} {T et : TypeId} {c x1 x4 x5 x7 : Value} {l1 l4 : Bool}
theorem start (h : W1.heap[b]? = some (.cells Z T (0, 0))) : Gs W1 b Z R T rw et k c 0 x1 x4 x5 x7 false false { W1 with drawn := W1.drawn + 1 } :=
  ⟨(Put.start h).drew, fun h => absurd h (by decide), fun h => absurd h (by decide), fun h => absurd h (by decide), fun h => absurd h (by decide)⟩
theorem putZ (h : Gs W1 b Z R T rw et k c p x1 x4 x5 x7 l1 l4 wx) (hp : p ≤ 2) : Put W1 b (.cells Z T (0, 0)) wx := by
  have := h.put
  rw [if_pos hp] at this
  exact this
theorem putR (h : Gs W1 b Z R T rw et k c 3 x1 x4 x5 x7 l1 l4 wx) : Put W1 b (.cells R T (0, 0)) wx := h.put
theorem next (h : Gs W1 b Z R T rw et k c p x1 x4 x5 x7 l1 l4 wx) (hb : Below wx.heap.size wx w') : Gs W1 b Z R T rw et k c p x1 x4 x5 x7 l1 l4 w' :=
  ⟨h.put.next hb, fun q1 q2 => by
    obtain ⟨g, g1, g2, g3, g4⟩ := h.lit q1 q2
    exact ⟨g, g1, g2, (hb.block g (Array.getElem?_eq_some_iff.1 g3).1).trans g3, g4⟩, h.dep, h.v5, h.v7⟩
theorem make (h : Gs W1 b Z R T rw et k c p x1 x4 x5 x7 l1 l4 wx) (h1 : l1 = false) : Gs W1 b Z R T rw et k c p (.slice (some ⟨wx.heap.size, 0, none⟩) rw.size rw.size) x4 x5 x7 true l4 (wx.alloc (.cells rw et)) :=
  ⟨h.put.next ((Below.refl _ _).alloc (Nat.le_refl _) _), fun _ _ => ⟨wx.heap.size, h.put.size, rfl, heap_alloc_new wx _, fun q => by have := h.dep q; rw [h1] at this; cases this⟩, fun _ => rfl, h.v5, h.v7⟩
theorem index {g : Nat} (h : Gs W1 b Z R T rw et k c p x1 x4 x5 x7 l1 l4 wx) (hl : l1 = true) (hg : x1 = .slice (some ⟨g, 0, none⟩) rw.size rw.size) : Gs W1 b Z R T rw et k c p x1 (.pointer (some ⟨g, k, none⟩)) x5 x7 l1 true wx :=
  ⟨h.put, fun q1 q2 => by
    obtain ⟨g', g1, g2, g3, -⟩ := h.lit q1 q2
    rw [hg] at g2
    obtain rfl : g = g' := by
      injection g2 with g2
      exact congrArg Addr.block (Option.some.inj g2)
    exact ⟨g, g1, hg, g3, fun _ => rfl⟩, fun _ => hl, h.v5, h.v7⟩
theorem loaded (h : Gs W1 b Z R T rw et k c 0 x1 x4 x5 x7 l1 l4 wx) : Gs W1 b Z R T rw et k c 1 x1 x4 c x7 l1 l4 wx :=
  ⟨h.putZ (by decide), fun q1 _ => h.lit q1 (by decide), h.dep, fun _ => rfl, fun q => absurd q (by decide)⟩
theorem called (h : Gs W1 b Z R T rw et k c 1 x1 x4 x5 x7 l1 l4 wx) (hb : Below wx.heap.size wx w') : Gs W1 b Z R T rw et k c 2 x1 x4 x5 (.agg R) l1 l4 w' :=
  ⟨(h.putZ (by decide)).next hb, fun q1 _ => by
    obtain ⟨g, g1, g2, g3, g4⟩ := h.lit q1 (by decide)
    exact ⟨g, g1, g2, (hb.block g (Array.getElem?_eq_some_iff.1 g3).1).trans g3, g4⟩, h.dep, fun _ => h.v5 (by decide), fun _ => rfl⟩
theorem stored (h : Gs W1 b Z R T rw et k c 2 x1 x4 x5 x7 l1 l4 wx) (hr : w'.heap[b]? = some (.cells R T (0, 0))) (hg : wx.grownBy w' (some b)) : Gs W1 b Z R T rw et k c 3 x1 x4 x5 x7 l1 l4 w' := by
  have hp := h.putZ (by decide)
  refine ⟨⟨hg.os.trans hp.os, hg.tape.trans hp.tape, hg.output.trans hp.output, Nat.le_trans hp.size hg.size, fun j hj hne => (hg.block j (Nat.lt_of_lt_of_le hj hp.size) (fun e => hne (Option.some.inj e))).trans (hp.other j hj hne), hr⟩, fun _ q => absurd q (by decide), h.dep, fun _ => h.v5 (by decide), fun _ => h.v7 (by decide)⟩
end Gs
end Go.Proofs.Ytmfinebkikhceaa
