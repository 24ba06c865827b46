/- A region whose order is open, with two stores of known structs into two elder blocks, the one ahead of the other ('x, y = a, f(..)'). No statement of the seat is proved here. -/
import Derived.Test.YtmfinebkikhceaaChain
import Derived.Test.YtmfinebkikhceaaRowPut
import Derived.Test.YtmfinebkikhceaaBx
namespace Go.Proofs.Ytmfinebkikhceaa
open Go.RowKit

/-- All that was there at w lies as it lay (the size of w stands in no text: a name that is given to a block does not reach it). -/
def Kw (w wx : World) : Prop := Below w.heap.size w wx
theorem Kw.of {w wx : World} (h : Below w.heap.size w wx) : Kw w wx := h
/-- p of the two stores are done. -/
structure Tw (W1 : World) (b1 : Nat) (Z1 R1 : Array Value) (T1 : TypeId) (b2 : Nat) (Z2 R2 : Array Value) (T2 : TypeId) (p : Nat) (wx : World) : Prop where
  os : wx.os = W1.os
  tape : wx.tape = W1.tape
  output : wx.output = W1.output
  size : W1.heap.size ≤ wx.heap.size
  other : ∀ j, j < W1.heap.size → j ≠ b1 → j ≠ b2 → wx.heap[j]? = W1.heap[j]?
  row1 : wx.heap[b1]? = some (.cells (if p = 0 then Z1 else R1) T1 (0, 0))
  row2 : wx.heap[b2]? = some (.cells (if p ≤ 1 then Z2 else R2) T2 (0, 0))
namespace Tw
variable {W1 : World} {b1 : Nat} {Z1 R1 : Array Value} {T1 : TypeId} {b2 : Nat} {Z2 R2 : Array Value} {T2 : TypeId}
theorem start (h1 : W1.heap[b1]? = some (.cells Z1 T1 (0, 0))) (h2 : W1.heap[b2]? = some (.cells Z2 T2 (0, 0))) : Tw W1 b1 Z1 R1 T1 b2 Z2 R2 T2 0 { W1 with drawn := W1.drawn + 1 } :=
  ⟨rfl, rfl, rfl, Nat.le_refl _, fun _ _ _ _ => rfl, h1, h2⟩
theorem next {p : Nat} {wx w' : World} (h : Tw W1 b1 Z1 R1 T1 b2 Z2 R2 T2 p wx) (hb : Below wx.heap.size wx w') : Tw W1 b1 Z1 R1 T1 b2 Z2 R2 T2 p w' :=
  ⟨hb.os.trans h.os, hb.tape.trans h.tape, hb.output.trans h.output, Nat.le_trans h.size hb.size, fun j hj h3 h4 => (hb.block j (Nat.lt_of_lt_of_le hj h.size)).trans (h.other j hj h3 h4),
    (hb.block b1 (Array.getElem?_eq_some_iff.1 h.row1).1).trans h.row1, (hb.block b2 (Array.getElem?_eq_some_iff.1 h.row2).1).trans h.row2⟩
theorem below {p : Nat} {wx : World} {B : Nat} (h : Tw W1 b1 Z1 R1 T1 b2 Z2 R2 T2 p wx) (hB : B ≤ W1.heap.size) (hb1 : B ≤ b1) (hb2 : B ≤ b2) : Below B W1 wx :=
  ⟨h.os, h.tape, h.output, h.size, fun j hj => h.other j (by omega) (by omega) (by omega)⟩
theorem first {wx : World} (h : Tw W1 b1 Z1 R1 T1 b2 Z2 R2 T2 0 wx) : wx.heap[b1]? = some (.cells Z1 T1 (0, 0)) := h.row1
theorem second {p : Nat} (hp : p ≤ 1) {wx : World} (h : Tw W1 b1 Z1 R1 T1 b2 Z2 R2 T2 p wx) : wx.heap[b2]? = some (.cells Z2 T2 (0, 0)) := by have := h.row2; rw [if_pos hp] at this; exact this
theorem store1 {P : Program} {op : Oper} {A : Act} {K : Act → World → Prop} {Q : Exit → Act → World → Prop} {wx : World} (h : Tw W1 b1 Z1 R1 T1 b2 Z2 R2 T2 0 wx) (hbb : b2 ≠ b1)
    (ty : TypeId) (x y : Operand) (ho : op.op = .store ty x y) (hx : A.eval x = .pointer (some ⟨b1, 0, none⟩)) (hy : A.eval y = .agg R1)
    (hi : (P.info? ty).map (·.size) = some R1.size) (hsz : Z1.size = R1.size) (h1c : R1.all (·.oneCell') = true)
    (hk : ∀ w', Tw W1 b1 Z1 R1 T1 b2 Z2 R2 T2 1 w' → K (A.put op.dst undef) w') : op.wp P A wx K Q :=
  wp_put ty x y ho b1 R1 Z1 T1 hx hy h.row1 hi hsz h1c (fun w2 hr2 hg => hk w2
    ⟨hg.out.os.trans h.os, hg.out.tape.trans h.tape, hg.out.output.trans h.output, Nat.le_trans h.size hg.out.size, fun j hj h3 h4 => (hg.out.block j (Nat.lt_of_lt_of_le hj h.size) (fun e => h3 (Option.some.inj e))).trans (h.other j hj h3 h4),
      hr2.out, (hg.out.block b2 (Array.getElem?_eq_some_iff.1 h.row2).1 (fun e => hbb (Option.some.inj e))).trans h.row2⟩)
theorem store2 {P : Program} {op : Oper} {A : Act} {K : Act → World → Prop} {Q : Exit → Act → World → Prop} {wx : World} (h : Tw W1 b1 Z1 R1 T1 b2 Z2 R2 T2 1 wx) (hbb : b1 ≠ b2)
    (ty : TypeId) (x y : Operand) (ho : op.op = .store ty x y) (hx : A.eval x = .pointer (some ⟨b2, 0, none⟩)) (hy : A.eval y = .agg R2)
    (hi : (P.info? ty).map (·.size) = some R2.size) (hsz : Z2.size = R2.size) (h1c : R2.all (·.oneCell') = true)
    (hk : ∀ w', Tw W1 b1 Z1 R1 T1 b2 Z2 R2 T2 2 w' → K (A.put op.dst undef) w') : op.wp P A wx K Q :=
  wp_put ty x y ho b2 R2 Z2 T2 hx hy h.row2 hi hsz h1c (fun w2 hr2 hg => hk w2
    ⟨hg.out.os.trans h.os, hg.out.tape.trans h.tape, hg.out.output.trans h.output, Nat.le_trans h.size hg.out.size, fun j hj h3 h4 => (hg.out.block j (Nat.lt_of_lt_of_le hj h.size) (fun e => h4 (Option.some.inj e))).trans (h.other j hj h3 h4),
      (hg.out.block b1 (Array.getElem?_eq_some_iff.1 h.row1).1 (fun e => hbb (Option.some.inj e))).trans h.row1, hr2.out⟩)
theorem done {wx w : World} {X X2 : List (Nat × Obj)} (h : Tw W1 b1 Z1 R1 T1 b2 Z2 R2 T2 2 wx) (hB : Bx w X W1) (hb1 : w.heap.size ≤ b1) (hb2 : w.heap.size ≤ b2)
    (hX : ∀ p ∈ X2, p = (b1, .cells R1 T1 (0, 0)) ∨ p = (b2, .cells R2 T2 (0, 0)) ∨ (p ∈ X ∧ p.1 ≠ b1 ∧ p.1 ≠ b2)) : Bx w X2 wx := by
  refine ⟨hB.below.trans (h.below hB.below.size hb1 hb2), fun p hp => ?_⟩
  rcases hX p hp with rfl | rfl | ⟨h3, h4, h5⟩
  · exact h.row1
  · exact h.row2
  · exact (h.other p.1 (hB.lt h3) h4 h5).trans (hB.rows p h3)
end Tw
end Go.Proofs.Ytmfinebkikhceaa
