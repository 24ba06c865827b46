/- A struct that is made in its result's cell: a drawn region whose last operation stores it. No statement of the seat is proved here. -/
import Derived.Test.YtmfinebkikhceaaChain
import Derived.Test.YtmfinebkikhceaaMem
import Derived.Deep.MidRow
import Derived.Deep.Heap
namespace Go.Proofs.Ytmfinebkikhceaa
open Go.RowKit

/-- What lies below block B is as in W1; block b holds this row. -/
structure Lit (B : Nat) (W1 : World) (b : Nat) (row : Obj) (wx : World) : Prop where
  below : Below B W1 wx
  size : B ≤ wx.heap.size
  row : wx.heap[b]? = some row
namespace Lit
variable {B b : Nat} {W1 wx x1 : World} {row : Obj}
theorem lt (h : Lit B W1 b row wx) : b < wx.heap.size := by
  rcases Nat.lt_or_ge b wx.heap.size with h1 | h1
  · exact h1
  · have := h.row; rw [Array.getElem?_eq_none h1] at this; cases this
theorem next (h : Lit B W1 b row wx) (hb : Below wx.heap.size wx x1) : Lit B W1 b row x1 :=
  ⟨h.below.trans (hb.mono h.size), Nat.le_trans h.size hb.size, (hb.block b h.lt).trans h.row⟩
theorem two (w : World) (o1 o2 : Obj) (n : Nat) : Lit (w.heap.size + 1) (w.alloc o1) (w.heap.size + 1) o2 { ((w.alloc o1).alloc o2) with drawn := n } := by
  refine ⟨?_, by simp, ?_⟩
  · have h := (Below.refl (w.heap.size + 1) (w.alloc o1)).alloc (by simp) o2
    exact ⟨h.os, h.tape, h.output, h.size, h.block⟩
  · have := heap_alloc_new (w.alloc o1) o2
    simpa using this
theorem one (w : World) (o : Obj) : Lit w.heap.size w w.heap.size o (w.alloc o) := ⟨(Below.refl _ _).alloc (Nat.le_refl _) o, by simp, heap_alloc_new w o⟩
theorem two' (w : World) (o1 o2 : Obj) : Lit (w.heap.size + 1) (w.alloc o1) (w.heap.size + 1) o2 ((w.alloc o1).alloc o2) := two w o1 o2 ((w.alloc o1).alloc o2).drawn
theorem cell {cs : Array Value} {t : TypeId} (h : Lit B W1 b (.cells cs t (0, 0)) wx) (i : Nat) : wx.cell? ⟨b, i, none⟩ = cs[i]? := cell_of_row _ _ _ _ _ (0, 0) h.row
theorem free {cs : Array Value} {t : TypeId} (h : Lit B W1 b (.cells cs t (0, 0)) wx) (i : Nat) : wx.frozen? ⟨b, i, none⟩ = false := frozen_of_row _ _ _ _ _ h.row
theorem store {P : Program} {op : Oper} {a : Act} {K : Act → World → Prop} {Q : Exit → Act → World → Prop} {cells old : Array Value} {t : TypeId} (ty : TypeId) (x y : Operand) (ho : op.op = .store ty x y)
    (hx : a.eval x = .pointer (some ⟨b, 0, none⟩)) (hy : a.eval y = .agg cells) (h : Lit B W1 b (.cells old t (0, 0)) wx) (hb : B ≤ b)
    (hi : (P.info? ty).map (·.size) = some cells.size) (hsz : old.size = cells.size) (h1 : cells.all (·.oneCell') = true)
    (hk : ∀ w', Lit B W1 b (.cells cells t (0, 0)) w' → K (a.put op.dst undef) w') : op.wp P a wx K Q := by
  unfold Oper.wp execOp
  simp only [ho, hx, hy, Instr.storeAt, Instr.sureAddr, Sem.run_bind, Sem.run_pure, Result.andThen_ok, run_storeVar_row wx b t ty old cells h.row hi hsz h1]
  refine hk _ ⟨⟨h.below.os, h.below.tape, h.below.output, by rw [size_setRow]; exact h.below.size, fun k hk => (setRow_other wx b k cells (by omega)).trans (h.below.block k hk)⟩, by rw [size_setRow]; exact h.size, setRow_heap wx b _ cells _ _ h.row⟩
theorem put {cs : Array Value} {t : TypeId} (h : Lit B W1 b (.cells cs t (0, 0)) wx) (hb : B ≤ b) (i : Nat) (v : Value) : Lit B W1 b (.cells (cs.setIfInBounds i v) t (0, 0)) (wx.setCell ⟨b, i, none⟩ v) := by
  refine ⟨h.below.setCell hb v, by rw [Go.Deep.nblk_setCell]; exact h.size, ?_⟩
  simp [World.setCell, Array.getElem?_modify, h.row]
theorem alloc (h : Lit B W1 b row wx) (o : Obj) : Lit B W1 b row (wx.alloc o) := h.next ((Below.refl _ _).alloc (Nat.le_refl _) o)
/-- Behind a whole store of three cells into b. -/
theorem put3 {cs : Array Value} {t : TypeId} (h : Lit B W1 b (.cells cs t (0, 0)) wx) (hb : B ≤ b) (hs : cs.size = 3) (v0 v1 v2 : Value) :
    Lit B W1 b (.cells #[v0, v1, v2] t (0, 0)) (((wx.setCell ⟨b, 0, none⟩ v0).setCell ⟨b, 1, none⟩ v1).setCell ⟨b, 2, none⟩ v2) := by
  have g := ((h.put hb 0 v0).put hb 1 v1).put hb 2 v2
  obtain ⟨l⟩ := cs
  match l, hs with
  | [a, b, c], _ => exact g
theorem put2 {cs : Array Value} {t : TypeId} (h : Lit B W1 b (.cells cs t (0, 0)) wx) (hb : B ≤ b) (hs : cs.size = 2) (v0 v1 : Value) :
    Lit B W1 b (.cells #[v0, v1] t (0, 0)) ((wx.setCell ⟨b, 0, none⟩ v0).setCell ⟨b, 1, none⟩ v1) := by
  have g := (h.put hb 0 v0).put hb 1 v1
  obtain ⟨l⟩ := cs
  match l, hs with
  | [a, b], _ => exact g
end Lit
end Go.Proofs.Ytmfinebkikhceaa
