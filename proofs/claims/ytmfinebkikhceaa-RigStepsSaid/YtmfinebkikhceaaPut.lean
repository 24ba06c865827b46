/- A region whose order is open and whose last operation stores a whole struct into an elder block. No statement of the seat is proved here. -/
import Derived.Test.YtmfinebkikhceaaLitMore
import Derived.Deep.MidRow
namespace Go.Proofs.Ytmfinebkikhceaa
open Go.RowKit

/-- As W1, but for block b, which holds this row, and for what has been laid since. -/
structure Put (W1 : World) (b : Nat) (row : Obj) (wx : World) : Prop where
  os : wx.os = W1.os
  tape : wx.tape = W1.tape
  output : wx.output = W1.output
  size : W1.heap.size ≤ wx.heap.size
  other : ∀ j, j < W1.heap.size → j ≠ b → wx.heap[j]? = W1.heap[j]?
  row : wx.heap[b]? = some row
namespace Put
variable {b : Nat} {W1 wx x1 : World} {row : Obj}
theorem start (h : W1.heap[b]? = some row) : Put W1 b row W1 := ⟨rfl, rfl, rfl, Nat.le_refl _, fun _ _ _ => rfl, h⟩
theorem drew (h : Put W1 b row wx) {n : Nat} : Put W1 b row { wx with drawn := n } := ⟨h.os, h.tape, h.output, h.size, h.other, h.row⟩
theorem lt (h : Put W1 b row wx) : b < wx.heap.size := (Array.getElem?_eq_some_iff.1 h.row).1
theorem next (h : Put W1 b row wx) (hb : Below wx.heap.size wx x1) : Put W1 b row x1 :=
  ⟨hb.os.trans h.os, hb.tape.trans h.tape, hb.output.trans h.output, Nat.le_trans h.size hb.size, fun j hj hne => (hb.block j (Nat.lt_of_lt_of_le hj h.size)).trans (h.other j hj hne), (hb.block b h.lt).trans h.row⟩
theorem below {B : Nat} (h : Put W1 b row wx) (hB : B ≤ b) (hB2 : B ≤ W1.heap.size) : Below B W1 wx := ⟨h.os, h.tape, h.output, h.size, fun j hj => h.other j (by omega) (by omega)⟩
theorem cell {cs : Array Value} {t : TypeId} (h : Put W1 b (.cells cs t (0, 0)) wx) (i : Nat) : wx.cell? ⟨b, i, none⟩ = cs[i]? := cell_of_row _ _ _ _ _ (0, 0) h.row
theorem free {cs : Array Value} {t : TypeId} (h : Put W1 b (.cells cs t (0, 0)) wx) (i : Nat) : wx.frozen? ⟨b, i, none⟩ = false := frozen_of_row _ _ _ _ _ h.row
theorem cellOf (h : Put W1 b row wx) {k i : Nat} (hk : k < W1.heap.size) (hne : k ≠ b) : wx.cell? ⟨k, i, none⟩ = W1.cell? ⟨k, i, none⟩ := World.cell?_of_block (a := ⟨k, i, none⟩) (h.other k hk hne)
theorem store {P : Program} {op : Oper} {a : Act} {K : Act → World → Prop} {Q : Exit → Act → World → Prop} {cells old : Array Value} {t : TypeId} (ty : TypeId) (x y : Operand) (ho : op.op = .store ty x y)
    (hx : a.eval x = .pointer (some ⟨b, 0, none⟩)) (hy : a.eval y = .agg cells) (h : Put W1 b (.cells old t (0, 0)) wx)
    (hi : (P.info? ty).map (·.size) = some cells.size) (hsz : old.size = cells.size) (h1 : cells.all (·.oneCell') = true)
    (hk : ∀ w', Put W1 b (.cells cells t (0, 0)) w' → K (a.put op.dst undef) w') : op.wp P a wx K Q := by
  unfold Oper.wp execOp
  simp only [ho, hx, hy, Instr.storeAt, Instr.sureAddr, Sem.run_bind, Sem.run_pure, Result.andThen_ok, run_storeVar_row wx b t ty old cells h.row hi hsz h1]
  exact hk _ ⟨h.os, h.tape, h.output, by rw [size_setRow]; exact h.size, fun k hk hne => (setRow_other wx b k cells hne).trans (h.other k hk hne), setRow_heap wx b _ cells _ _ h.row⟩
theorem put2 {cs : Array Value} {t : TypeId} (h : Put W1 b (.cells cs t (0, 0)) wx) (hs : cs.size = 2) (v0 v1 : Value) :
    Put W1 b (.cells #[v0, v1] t (0, 0)) ((wx.setCell ⟨b, 0, none⟩ v0).setCell ⟨b, 1, none⟩ v1) := by
  refine ⟨h.os, h.tape, h.output, by rw [Go.Deep.nblk_setCell, Go.Deep.nblk_setCell]; exact h.size, fun j hj hne => ?_, ?_⟩
  · rw [heap_setCell_other _ _ _ _ hne, heap_setCell_other _ _ _ _ hne]; exact h.other j hj hne
  · have g := heap_setCell_same _ _ 1 _ _ v1 (heap_setCell_same _ _ 0 _ _ v0 h.row)
    obtain ⟨l⟩ := cs
    match l, hs with
    | [a, c], _ => exact g
/-- A row with some cells put over it from o on. -/
def over (a : Array Value) : Nat → List Value → Array Value
  | _, [] => a
  | o, v :: r => over (a.setIfInBounds o v) (o + 1) r
theorem setCells_row (b : Nat) (t : TypeId) : ∀ (l : List Value) (o : Nat) (w : World) (cs : Array Value), w.heap[b]? = some (.cells cs t (0, 0)) → (w.setCells b o l).heap[b]? = some (.cells (over cs o l) t (0, 0))
  | [], _, _, _, h => h
  | v :: r, o, _, _, h => setCells_row b t r (o + 1) _ _ (heap_setCell_same _ _ o _ _ v h)
theorem setCells_else (b : Nat) : ∀ (l : List Value) (o : Nat) (w : World), (w.setCells b o l).heap.size = w.heap.size ∧ (w.setCells b o l).os = w.os ∧ (w.setCells b o l).tape = w.tape ∧ (w.setCells b o l).output = w.output ∧ ∀ j, j ≠ b → (w.setCells b o l).heap[j]? = w.heap[j]?
  | [], _, _ => ⟨rfl, rfl, rfl, rfl, fun _ _ => rfl⟩
  | v :: r, o, w => by
    obtain ⟨h1, h2, h3, h4, h5⟩ := setCells_else b r (o + 1) (w.setCell ⟨b, o, none⟩ v)
    exact ⟨h1.trans (Go.Deep.nblk_setCell _ _ _), h2, h3, h4, fun j hj => (h5 j hj).trans (heap_setCell_other _ _ _ _ hj)⟩
/-- A part of the struct is stored, from cell o on. -/
theorem storeMid {P : Program} {op : Oper} {a : Act} {K : Act → World → Prop} {Q : Exit → Act → World → Prop} {cells old new : Array Value} {t : TypeId} (ty : TypeId) (x y : Operand) (o : Nat) (ho : op.op = .store ty x y)
    (hx : a.eval x = .pointer (some ⟨b, o, none⟩)) (hy : a.eval y = .agg cells) (h : Put W1 b (.cells old t (0, 0)) wx)
    (hi : (P.info? ty).map (·.size) = some cells.size) (hsz : o + cells.size ≤ old.size) (h1 : cells.all (·.oneCell') = true) (hnew : over old o cells.toList = new)
    (hk : ∀ w', Put W1 b (.cells new t (0, 0)) w' → K (a.put op.dst undef) w') : op.wp P a wx K Q := by
  refine wp_store_mid ty x y ho b o cells hx hy (fun j hj => ⟨?_, frozen_of_row _ _ _ _ _ h.row⟩) hi h1 ?_
  · rw [h.cell]
    simp only [Array.getElem?_eq_getElem (show o + j < old.size by omega), Option.isSome_some]
  · obtain ⟨e1, e2, e3, e4, e5⟩ := setCells_else b cells.toList o wx
    refine hk _ ⟨e2.trans h.os, e3.trans h.tape, e4.trans h.output, by rw [e1]; exact h.size, fun j hj hne => (e5 j hne).trans (h.other j hj hne), ?_⟩
    rw [← hnew]
    exact setCells_row b t _ o wx old h.row
theorem put1 {cs : Array Value} {t : TypeId} (h : Put W1 b (.cells cs t (0, 0)) wx) (i : Nat) (v : Value) :
    Put W1 b (.cells (cs.setIfInBounds i v) t (0, 0)) (wx.setCell ⟨b, i, none⟩ v) := by
  refine ⟨h.os, h.tape, h.output, by rw [Go.Deep.nblk_setCell]; exact h.size, fun j hj hne => ?_, heap_setCell_same _ _ i _ _ v h.row⟩
  rw [heap_setCell_other _ _ _ _ hne]; exact h.other j hj hne
end Put
end Go.Proofs.Ytmfinebkikhceaa
