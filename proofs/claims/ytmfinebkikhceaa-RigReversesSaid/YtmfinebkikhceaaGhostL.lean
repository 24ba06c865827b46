/- A region whose order is open: a literal slice is made and read at one index, and a known struct is stored into an elder block. No statement of the seat is proved here. -/
import Derived.Test.YtmfinebkikhceaaGhostV
import Derived.Test.YtmfinebkikhceaaRowPut
namespace Go.Proofs.Ytmfinebkikhceaa
open Go.RowKit GhostV

namespace GL
theorem mk_ne {L : Run} {i j : Nat} (h : j ≠ i) : GhostV.mark L i j = L j := by unfold GhostV.mark; rw [if_neg h]
theorem mk_eq (L : Run) (i : Nat) : GhostV.mark L i i = true := by unfold GhostV.mark; rw [if_pos rfl]
theorem up_ne {γ : Gh} {i j : Nat} {v : Value} (h : j ≠ i) : upd γ i v j = γ j := by unfold upd; rw [if_neg h]
theorem up_eq (γ : Gh) (i : Nat) (v : Value) : upd γ i v i = v := by unfold upd; rw [if_pos rfl]
end GL

/-- a: the operation that makes the literal (its cells rw, of type et); i: the one that takes the address of its element k; s: the store. -/
structure GL (W1 : World) (b : Nat) (Z R : Array Value) (T : TypeId) (rw : Array Value) (et : TypeId) (k a i s : Nat) (γ : Gh) (L : Run) (wx : World) : Prop where
  put : Put W1 b (.cells (if L s = true then R else Z) T (0, 0)) wx
  lit : L a = true → ∃ g, W1.heap.size ≤ g ∧ γ a = .slice (some ⟨g, 0, none⟩) rw.size rw.size ∧ wx.heap[g]? = some (.cells rw et (0, 0)) ∧ (L i = true → γ i = .pointer (some ⟨g, k, none⟩))
  dep : L i = true → L a = true
namespace GL
variable {W1 : World} {b : Nat} {Z R : Array Value} {T : TypeId} {rw : Array Value} {et : TypeId} {k a i s : Nat}
theorem start (γ : Gh) (h : W1.heap[b]? = some (.cells Z T (0, 0))) : GL W1 b Z R T rw et k a i s γ (fun _ => false) { W1 with drawn := W1.drawn + 1 } :=
  ⟨by rw [if_neg Bool.false_ne_true]; exact (Put.start h).drew, fun h => absurd h Bool.false_ne_true, fun h => absurd h Bool.false_ne_true⟩
theorem next {γ : Gh} {L : Run} {wx w' : World} {j : Nat} (h : GL W1 b Z R T rw et k a i s γ L wx) (v : Value) (h1 : a ≠ j) (h2 : i ≠ j) (h3 : s ≠ j) (hb : Below wx.heap.size wx w') : GL W1 b Z R T rw et k a i s (upd γ j v) (GhostV.mark L j) w' := by
  have e1 : GhostV.mark L j a = L a := GL.mk_ne h1
  have e2 : GhostV.mark L j i = L i := GL.mk_ne h2
  have e3 : GhostV.mark L j s = L s := GL.mk_ne h3
  have f1 : upd γ j v a = γ a := GL.up_ne h1
  have f2 : upd γ j v i = γ i := GL.up_ne h2
  refine ⟨by rw [e3]; exact h.put.next hb, fun hl => ?_, fun hl => by rw [e1]; exact h.dep (e2 ▸ hl)⟩
  rw [f1, f2, e2]
  obtain ⟨g, g1, g2, g3, g4⟩ := h.lit (e1 ▸ hl)
  exact ⟨g, g1, g2, (hb.block g (Array.getElem?_eq_some_iff.1 g3).1).trans g3, g4⟩
theorem make {γ : Gh} {L : Run} {wx : World} (h : GL W1 b Z R T rw et k a i s γ L wx) (h0 : L a = false) (h1 : i ≠ a) (h2 : s ≠ a) :
    GL W1 b Z R T rw et k a i s (upd γ a (.slice (some ⟨wx.heap.size, 0, none⟩) rw.size rw.size)) (GhostV.mark L a) (wx.alloc (.cells rw et)) := by
  have e1 : GhostV.mark L a i = L i := GL.mk_ne h1
  have e3 : GhostV.mark L a s = L s := GL.mk_ne h2
  refine ⟨by rw [e3]; exact h.put.next ((Below.refl _ _).alloc (Nat.le_refl _) _), fun _ => ?_, fun _ => GL.mk_eq L a⟩
  refine ⟨wx.heap.size, h.put.size, GL.up_eq _ _ _, heap_alloc_new wx _, fun hl => ?_⟩
  rw [e1] at hl
  rw [h.dep hl] at h0
  cases h0
theorem index {γ : Gh} {L : Run} {wx : World} {g : Nat} (h : GL W1 b Z R T rw et k a i s γ L wx) (h1 : a ≠ i) (h2 : s ≠ i) (h3 : L a = true) (hg : γ a = .slice (some ⟨g, 0, none⟩) rw.size rw.size) :
    GL W1 b Z R T rw et k a i s (upd γ i (.pointer (some ⟨g, k, none⟩))) (GhostV.mark L i) wx := by
  have e1 : GhostV.mark L i a = L a := GL.mk_ne h1
  have e3 : GhostV.mark L i s = L s := GL.mk_ne h2
  have f1 : upd γ i (.pointer (some ⟨g, k, none⟩)) a = γ a := GL.up_ne h1
  refine ⟨by rw [e3]; exact h.put, fun _ => ?_, fun _ => by rw [e1]; exact h3⟩
  obtain ⟨g', g1, g2, g3, -⟩ := h.lit h3
  rw [f1]
  rw [hg] at g2
  obtain rfl : g = g' := by
    injection g2 with g2
    exact congrArg Addr.block (Option.some.inj g2)
  exact ⟨g, g1, hg, g3, fun _ => GL.up_eq _ _ _⟩
theorem stored {γ : Gh} {L : Run} {wx w' : World} (h : GL W1 b Z R T rw et k a i s γ L wx) (v : Value) (h1 : a ≠ s) (h2 : i ≠ s) (hlt : b < W1.heap.size) (hp : Put W1 b (.cells R T (0, 0)) w') (hg : wx.grownBy w' (some b)) : GL W1 b Z R T rw et k a i s (upd γ s v) (GhostV.mark L s) w' := by
  have e1 : GhostV.mark L s a = L a := GL.mk_ne h1
  have e2 : GhostV.mark L s i = L i := GL.mk_ne h2
  have e3 : GhostV.mark L s s = true := GL.mk_eq L s
  have f1 : upd γ s v a = γ a := GL.up_ne h1
  have f2 : upd γ s v i = γ i := GL.up_ne h2
  refine ⟨by rw [e3, if_pos rfl]; exact hp, fun hl => ?_, fun hl => by rw [e1]; exact h.dep (e2 ▸ hl)⟩
  rw [f1, f2, e2]
  obtain ⟨g, g1, g2, g3, g4⟩ := h.lit (e1 ▸ hl)
  exact ⟨g, g1, g2, (hg.block g (Array.getElem?_eq_some_iff.1 g3).1 (fun e => by have := Option.some.inj e; omega)).trans g3, g4⟩
theorem put0 {γ : Gh} {L : Run} {wx : World} (h : GL W1 b Z R T rw et k a i s γ L wx) (h0 : L s = false) : Put W1 b (.cells Z T (0, 0)) wx := by
  have := h.put
  rw [h0, if_neg Bool.false_ne_true] at this
  exact this
theorem put1 {γ : Gh} {L : Run} {wx : World} (h : GL W1 b Z R T rw et k a i s γ L wx) (h0 : L s = true) : Put W1 b (.cells R T (0, 0)) wx := by
  have := h.put
  rw [h0, if_pos rfl] at this
  exact this
theorem store {P : Program} {op : Oper} {A : Act} {K : Act → World → Prop} {Q : Exit → Act → World → Prop} {γ : Gh} {L : Run} {wx : World} (h : GL W1 b Z R T rw et k a i s γ L wx) (h0 : L s = false) (h1 : a ≠ s) (h2 : i ≠ s) (hlt : b < W1.heap.size)
    (ty : TypeId) (x y : Operand) (ho : op.op = .store ty x y) (hx : A.eval x = .pointer (some ⟨b, 0, none⟩)) (hy : A.eval y = .agg R)
    (hi : (P.info? ty).map (·.size) = some R.size) (hsz : Z.size = R.size) (h1c : R.all (·.oneCell') = true)
    (hk : ∀ w', (∀ v, GL W1 b Z R T rw et k a i s (upd γ s v) (GhostV.mark L s) w') → K (A.put op.dst undef) w') : op.wp P A wx K Q := by
  refine wp_put ty x y ho b R Z T hx hy (h.put0 h0).row hi hsz h1c (fun w2 hr hg => hk w2 (fun v => h.stored v h1 h2 hlt ?_ hg.out))
  have hp := h.put0 h0
  exact ⟨hg.out.os.trans hp.os, hg.out.tape.trans hp.tape, hg.out.output.trans hp.output, Nat.le_trans hp.size hg.out.size, fun j hj hne => (hg.out.block j (Nat.lt_of_lt_of_le hj hp.size) (fun e => hne (Option.some.inj e))).trans (hp.other j hj hne), hr.out⟩
end GL
end Go.Proofs.Ytmfinebkikhceaa
