/- A region whose order is open, with two stores of known structs into two elder blocks, in any order. No statement of the seat is proved here. -/
import Derived.Test.YthniolaeicmjlaaGhostL
import Derived.Test.YthniolaeicmjlaaBx
namespace Go.Proofs.Ythniolaeicmjlaa
open Go.RowKit GhostV

structure P2 (W1 : World) (b1 : Nat) (Z1 R1 : Array Value) (T1 : TypeId) (s1 b2 : Nat) (Z2 R2 : Array Value) (T2 : TypeId) (s2 : Nat) (_γ : Gh) (L : Run) (wx : World) : Prop where
  os : wx.os = W1.os
  tape : wx.tape = W1.tape
  output : wx.output = W1.output
  size : W1.heap.size ≤ wx.heap.size
  other : ∀ j, j < W1.heap.size → j ≠ b1 → j ≠ b2 → wx.heap[j]? = W1.heap[j]?
  row1 : wx.heap[b1]? = some (.cells (if L s1 = true then R1 else Z1) T1 (0, 0))
  row2 : wx.heap[b2]? = some (.cells (if L s2 = true then R2 else Z2) T2 (0, 0))
namespace P2
variable {W1 : World} {b1 : Nat} {Z1 R1 : Array Value} {T1 : TypeId} {s1 b2 : Nat} {Z2 R2 : Array Value} {T2 : TypeId} {s2 : Nat}
theorem start (γ : Gh) (h1 : W1.heap[b1]? = some (.cells Z1 T1 (0, 0))) (h2 : W1.heap[b2]? = some (.cells Z2 T2 (0, 0))) : P2 W1 b1 Z1 R1 T1 s1 b2 Z2 R2 T2 s2 γ (fun _ => false) { W1 with drawn := W1.drawn + 1 } :=
  ⟨rfl, rfl, rfl, Nat.le_refl _, fun _ _ _ _ => rfl, by rw [if_neg Bool.false_ne_true]; exact h1, by rw [if_neg Bool.false_ne_true]; exact h2⟩
theorem next {γ : Gh} {L : Run} {wx w' : World} {i : Nat} (h : P2 W1 b1 Z1 R1 T1 s1 b2 Z2 R2 T2 s2 γ L wx) (v : Value) (h1 : s1 ≠ i) (h2 : s2 ≠ i) (hb : Below wx.heap.size wx w') : P2 W1 b1 Z1 R1 T1 s1 b2 Z2 R2 T2 s2 (upd γ i v) (GhostV.mark L i) w' := by
  have e1 : GhostV.mark L i s1 = L s1 := GL.mk_ne h1
  have e2 : GhostV.mark L i s2 = L s2 := GL.mk_ne h2
  exact ⟨hb.os.trans h.os, hb.tape.trans h.tape, hb.output.trans h.output, Nat.le_trans h.size hb.size, fun j hj h3 h4 => (hb.block j (Nat.lt_of_lt_of_le hj h.size)).trans (h.other j hj h3 h4),
    by rw [e1]; exact (hb.block b1 (Array.getElem?_eq_some_iff.1 h.row1).1).trans h.row1, by rw [e2]; exact (hb.block b2 (Array.getElem?_eq_some_iff.1 h.row2).1).trans h.row2⟩
theorem stored1 {γ : Gh} {L : Run} {wx w' : World} (h : P2 W1 b1 Z1 R1 T1 s1 b2 Z2 R2 T2 s2 γ L wx) (v : Value) (hs : s2 ≠ s1) (hbb : b2 ≠ b1) (hr : w'.heap[b1]? = some (.cells R1 T1 (0, 0))) (hg : wx.grownBy w' (some b1)) : P2 W1 b1 Z1 R1 T1 s1 b2 Z2 R2 T2 s2 (upd γ s1 v) (GhostV.mark L s1) w' := by
  have e1 : GhostV.mark L s1 s1 = true := GL.mk_eq L s1
  have e2 : GhostV.mark L s1 s2 = L s2 := GL.mk_ne hs
  have hne : ∀ {j : Nat}, j ≠ b1 → some j ≠ some b1 := fun hj e => hj (Option.some.inj e)
  exact ⟨hg.os.trans h.os, hg.tape.trans h.tape, hg.output.trans h.output, Nat.le_trans h.size hg.size, fun j hj h3 h4 => (hg.block j (Nat.lt_of_lt_of_le hj h.size) (hne h3)).trans (h.other j hj h3 h4),
    by rw [e1, if_pos rfl]; exact hr, by rw [e2]; exact (hg.block b2 (Array.getElem?_eq_some_iff.1 h.row2).1 (hne hbb)).trans h.row2⟩
theorem stored2 {γ : Gh} {L : Run} {wx w' : World} (h : P2 W1 b1 Z1 R1 T1 s1 b2 Z2 R2 T2 s2 γ L wx) (v : Value) (hs : s1 ≠ s2) (hbb : b1 ≠ b2) (hr : w'.heap[b2]? = some (.cells R2 T2 (0, 0))) (hg : wx.grownBy w' (some b2)) : P2 W1 b1 Z1 R1 T1 s1 b2 Z2 R2 T2 s2 (upd γ s2 v) (GhostV.mark L s2) w' := by
  have e1 : GhostV.mark L s2 s2 = true := GL.mk_eq L s2
  have e2 : GhostV.mark L s2 s1 = L s1 := GL.mk_ne hs
  have hne : ∀ {j : Nat}, j ≠ b2 → some j ≠ some b2 := fun hj e => hj (Option.some.inj e)
  exact ⟨hg.os.trans h.os, hg.tape.trans h.tape, hg.output.trans h.output, Nat.le_trans h.size hg.size, fun j hj h3 h4 => (hg.block j (Nat.lt_of_lt_of_le hj h.size) (hne h4)).trans (h.other j hj h3 h4),
    by rw [e2]; exact (hg.block b1 (Array.getElem?_eq_some_iff.1 h.row1).1 (hne hbb)).trans h.row1, by rw [e1, if_pos rfl]; exact hr⟩
theorem store1 {P : Program} {op : Oper} {A : Act} {K : Act → World → Prop} {Q : Exit → Act → World → Prop} {γ : Gh} {L : Run} {wx : World} (h : P2 W1 b1 Z1 R1 T1 s1 b2 Z2 R2 T2 s2 γ L wx) (h0 : L s1 = false) (hs : s2 ≠ s1) (hbb : b2 ≠ b1)
    (ty : TypeId) (x y : Operand) (ho : op.op = .store ty x y) (hx : A.eval x = .pointer (some ⟨b1, 0, none⟩)) (hy : A.eval y = .agg R1)
    (hi : (P.info? ty).map (·.size) = some R1.size) (hsz : Z1.size = R1.size) (h1c : R1.all (·.oneCell') = true)
    (hk : ∀ w', (∀ v, P2 W1 b1 Z1 R1 T1 s1 b2 Z2 R2 T2 s2 (upd γ s1 v) (GhostV.mark L s1) w') → K (A.put op.dst undef) w') : op.wp P A wx K Q := by
  have hr := h.row1
  rw [h0, if_neg Bool.false_ne_true] at hr
  exact wp_put ty x y ho b1 R1 Z1 T1 hx hy hr hi hsz h1c (fun w2 hr2 hg => hk w2 (fun v => h.stored1 v hs hbb hr2.out hg.out))
theorem store2 {P : Program} {op : Oper} {A : Act} {K : Act → World → Prop} {Q : Exit → Act → World → Prop} {γ : Gh} {L : Run} {wx : World} (h : P2 W1 b1 Z1 R1 T1 s1 b2 Z2 R2 T2 s2 γ L wx) (h0 : L s2 = false) (hs : s1 ≠ s2) (hbb : b1 ≠ b2)
    (ty : TypeId) (x y : Operand) (ho : op.op = .store ty x y) (hx : A.eval x = .pointer (some ⟨b2, 0, none⟩)) (hy : A.eval y = .agg R2)
    (hi : (P.info? ty).map (·.size) = some R2.size) (hsz : Z2.size = R2.size) (h1c : R2.all (·.oneCell') = true)
    (hk : ∀ w', (∀ v, P2 W1 b1 Z1 R1 T1 s1 b2 Z2 R2 T2 s2 (upd γ s2 v) (GhostV.mark L s2) w') → K (A.put op.dst undef) w') : op.wp P A wx K Q := by
  have hr := h.row2
  rw [h0, if_neg Bool.false_ne_true] at hr
  exact wp_put ty x y ho b2 R2 Z2 T2 hx hy hr hi hsz h1c (fun w2 hr2 hg => hk w2 (fun v => h.stored2 v hs hbb hr2.out hg.out))
theorem done {γ : Gh} {L : Run} {wx w : World} {X X2 : List (Nat × Obj)} (h : P2 W1 b1 Z1 R1 T1 s1 b2 Z2 R2 T2 s2 γ L wx) (h1 : L s1 = true) (h2 : L s2 = true) (hB : Bx w X W1) (hb1 : w.heap.size ≤ b1) (hb2 : w.heap.size ≤ b2)
    (hX : ∀ p ∈ X2, p = (b1, .cells R1 T1 (0, 0)) ∨ p = (b2, .cells R2 T2 (0, 0)) ∨ (p ∈ X ∧ p.1 ≠ b1 ∧ p.1 ≠ b2)) : Bx w X2 wx := by
  have r1 := h.row1
  have r2 := h.row2
  rw [h1, if_pos rfl] at r1
  rw [h2, if_pos rfl] at r2
  have hbel : Below w.heap.size W1 wx := ⟨h.os, h.tape, h.output, h.size, fun j hj => h.other j (Nat.lt_of_lt_of_le hj hB.below.size) (by omega) (by omega)⟩
  refine ⟨hB.below.trans hbel, fun p hp => ?_⟩
  rcases hX p hp with rfl | rfl | ⟨h3, h4, h5⟩
  · exact r1
  · exact r2
  · rw [← hB.rows p h3]
    exact h.other p.1 (hB.lt h3) h4 h5
end P2
end Go.Proofs.Ythniolaeicmjlaa
