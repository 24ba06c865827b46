/- What the texts behind this one rest on: several texts in one. No statement of the seat is proved here. -/
import Derived.Test.YtnjcegkefjdgdaaDoorG7
import Derived.Great.BuildSlice
import Derived.Test.YtnjcegkefjdgdaaDoorG0
import Derived.Lib.TrailingZeros
namespace Go.Proofs.YtnjcegkefjdgdaaDoor
section
open Go.RowKit

/-- Below B all is as in w; these blocks hold these rows. -/
structure Bx (w : World) (L : List (Nat × Obj)) (wx : World) : Prop where
  below : Below w.heap.size w wx
  rows : ∀ p ∈ L, wx.heap[p.1]? = some p.2
namespace Bx
variable {w wx x1 : World} {L : List (Nat × Obj)}
theorem lt (h : Bx w L wx) {p : Nat × Obj} (hp : p ∈ L) : p.1 < wx.heap.size := (Array.getElem?_eq_some_iff.1 (h.rows p hp)).1
theorem next (h : Bx w L wx) (hb : Below wx.heap.size wx x1) : Bx w L x1 :=
  ⟨h.below.trans (hb.mono h.below.size), fun p hp => (hb.block p.1 (h.lt hp)).trans (h.rows p hp)⟩
theorem put {b : Nat} {R : Obj} {L2 : List (Nat × Obj)} (h : Bx w L wx) (hb : w.heap.size ≤ b) (hg : wx.grownBy x1 (some b)) (hr : x1.heap[b]? = some R) (h2 : ∀ p ∈ L2, p = (b, R) ∨ (p ∈ L ∧ p.1 ≠ b)) : Bx w L2 x1 := by
  refine ⟨h.below.trans ((Below.refl w.heap.size wx).grown hg (by have := h.below.size; omega) (fun k hk => by have := Option.some.inj hk; omega)), fun p hp => ?_⟩
  rcases h2 p hp with rfl | ⟨h3, h4⟩
  · exact hr
  · rw [← h.rows p h3]
    exact hg.block p.1 (h.lt h3) (fun e => h4 (Option.some.inj e))
theorem make {g : Nat} {R : Obj} (h : Bx w L wx) (hr : x1.heap[g]? = some R) (hb : Below wx.heap.size wx x1) : Bx w ((g, R) :: L) x1 := by
  refine ⟨(h.next hb).below, fun p hp => ?_⟩
  rcases List.mem_cons.1 hp with rfl | hp
  · exact hr
  · exact (h.next hb).rows p hp
theorem ofPut {b : Nat} {R : Obj} {L2 : List (Nat × Obj)} (h : Bx w L wx) (hb : w.heap.size ≤ b) (hp : Put wx b R x1) (h2 : ∀ p ∈ L2, p = (b, R) ∨ (p ∈ L ∧ p.1 ≠ b)) : Bx w L2 x1 := by
  refine ⟨h.below.trans (hp.below (by omega) h.below.size), fun p hp2 => ?_⟩
  rcases h2 p hp2 with rfl | ⟨h3, h4⟩
  · exact hp.row
  · rw [← h.rows p h3]
    exact hp.other p.1 (h.lt h3) h4
theorem r0 {p : Nat × Obj} (h : Bx w (p :: L) wx) : wx.heap[p.1]? = some p.2 := h.rows p (by simp)
theorem r1 {p q : Nat × Obj} (h : Bx w (p :: q :: L) wx) : wx.heap[q.1]? = some q.2 := h.rows q (by simp)
theorem r2 {p q r : Nat × Obj} (h : Bx w (p :: q :: r :: L) wx) : wx.heap[r.1]? = some r.2 := h.rows r (by simp)
theorem r3 {p q r s : Nat × Obj} (h : Bx w (p :: q :: r :: s :: L) wx) : wx.heap[s.1]? = some s.2 := h.rows s (by simp)
theorem r4 {p q r s t : Nat × Obj} (h : Bx w (p :: q :: r :: s :: t :: L) wx) : wx.heap[t.1]? = some t.2 := h.rows t (by simp)
theorem less {L2 : List (Nat × Obj)} (h : Bx w L wx) (h2 : ∀ p ∈ L2, p ∈ L) : Bx w L2 wx := ⟨h.below, fun p hp => h.rows p (h2 p hp)⟩
end Bx
theorem row2 {w : World} {b : Nat} {T : TypeId} {v0 v1 : Value} (h : w.heap[b]? = some (.cells #[v0, v1] T (0, 0))) : w.cell? ⟨b, 0, none⟩ = some v0 ∧ w.cell? ⟨b, 1, none⟩ = some v1 :=
  ⟨cell_of_row _ _ _ _ _ (0, 0) h, cell_of_row _ _ _ _ _ (0, 0) h⟩
theorem row3 {w : World} {b : Nat} {T : TypeId} {v0 v1 v2 : Value} (h : w.heap[b]? = some (.cells #[v0, v1, v2] T (0, 0))) : w.cell? ⟨b, 0, none⟩ = some v0 ∧ w.cell? ⟨b, 1, none⟩ = some v1 ∧ w.cell? ⟨b, 2, none⟩ = some v2 :=
  ⟨cell_of_row _ _ _ _ _ (0, 0) h, cell_of_row _ _ _ _ _ (0, 0) h, cell_of_row _ _ _ _ _ (0, 0) h⟩
theorem row4 {w : World} {b : Nat} {T : TypeId} {v0 v1 v2 v3 : Value} (h : w.heap[b]? = some (.cells #[v0, v1, v2, v3] T (0, 0))) : w.cell? ⟨b, 0, none⟩ = some v0 ∧ w.cell? ⟨b, 1, none⟩ = some v1 ∧ w.cell? ⟨b, 2, none⟩ = some v2 ∧ w.cell? ⟨b, 3, none⟩ = some v3 :=
  ⟨cell_of_row _ _ _ _ _ (0, 0) h, cell_of_row _ _ _ _ _ (0, 0) h, cell_of_row _ _ _ _ _ (0, 0) h, cell_of_row _ _ _ _ _ (0, 0) h⟩
theorem row5 {w : World} {b : Nat} {T : TypeId} {v0 v1 v2 v3 v4 : Value} (h : w.heap[b]? = some (.cells #[v0, v1, v2, v3, v4] T (0, 0))) : w.cell? ⟨b, 0, none⟩ = some v0 ∧ w.cell? ⟨b, 1, none⟩ = some v1 ∧ w.cell? ⟨b, 2, none⟩ = some v2 ∧ w.cell? ⟨b, 3, none⟩ = some v3 ∧ w.cell? ⟨b, 4, none⟩ = some v4 :=
  ⟨cell_of_row _ _ _ _ _ (0, 0) h, cell_of_row _ _ _ _ _ (0, 0) h, cell_of_row _ _ _ _ _ (0, 0) h, cell_of_row _ _ _ _ _ (0, 0) h, cell_of_row _ _ _ _ _ (0, 0) h⟩
theorem row6 {w : World} {b : Nat} {T : TypeId} {v0 v1 v2 v3 v4 v5 : Value} (h : w.heap[b]? = some (.cells #[v0, v1, v2, v3, v4, v5] T (0, 0))) : w.cell? ⟨b, 0, none⟩ = some v0 ∧ w.cell? ⟨b, 1, none⟩ = some v1 ∧ w.cell? ⟨b, 2, none⟩ = some v2 ∧ w.cell? ⟨b, 3, none⟩ = some v3 ∧ w.cell? ⟨b, 4, none⟩ = some v4 ∧ w.cell? ⟨b, 5, none⟩ = some v5 :=
  ⟨cell_of_row _ _ _ _ _ (0, 0) h, cell_of_row _ _ _ _ _ (0, 0) h, cell_of_row _ _ _ _ _ (0, 0) h, cell_of_row _ _ _ _ _ (0, 0) h, cell_of_row _ _ _ _ _ (0, 0) h, cell_of_row _ _ _ _ _ (0, 0) h⟩
theorem row7 {w : World} {b : Nat} {T : TypeId} {v0 v1 v2 v3 v4 v5 v6 : Value} (h : w.heap[b]? = some (.cells #[v0, v1, v2, v3, v4, v5, v6] T (0, 0))) : w.cell? ⟨b, 0, none⟩ = some v0 ∧ w.cell? ⟨b, 1, none⟩ = some v1 ∧ w.cell? ⟨b, 2, none⟩ = some v2 ∧ w.cell? ⟨b, 3, none⟩ = some v3 ∧ w.cell? ⟨b, 4, none⟩ = some v4 ∧ w.cell? ⟨b, 5, none⟩ = some v5 ∧ w.cell? ⟨b, 6, none⟩ = some v6 :=
  ⟨cell_of_row _ _ _ _ _ (0, 0) h, cell_of_row _ _ _ _ _ (0, 0) h, cell_of_row _ _ _ _ _ (0, 0) h, cell_of_row _ _ _ _ _ (0, 0) h, cell_of_row _ _ _ _ _ (0, 0) h, cell_of_row _ _ _ _ _ (0, 0) h, cell_of_row _ _ _ _ _ (0, 0) h⟩
theorem row8 {w : World} {b : Nat} {T : TypeId} {v0 v1 v2 v3 v4 v5 v6 v7 : Value} (h : w.heap[b]? = some (.cells #[v0, v1, v2, v3, v4, v5, v6, v7] T (0, 0))) : w.cell? ⟨b, 0, none⟩ = some v0 ∧ w.cell? ⟨b, 1, none⟩ = some v1 ∧ w.cell? ⟨b, 2, none⟩ = some v2 ∧ w.cell? ⟨b, 3, none⟩ = some v3 ∧ w.cell? ⟨b, 4, none⟩ = some v4 ∧ w.cell? ⟨b, 5, none⟩ = some v5 ∧ w.cell? ⟨b, 6, none⟩ = some v6 ∧ w.cell? ⟨b, 7, none⟩ = some v7 :=
  ⟨cell_of_row _ _ _ _ _ (0, 0) h, cell_of_row _ _ _ _ _ (0, 0) h, cell_of_row _ _ _ _ _ (0, 0) h, cell_of_row _ _ _ _ _ (0, 0) h, cell_of_row _ _ _ _ _ (0, 0) h, cell_of_row _ _ _ _ _ (0, 0) h, cell_of_row _ _ _ _ _ (0, 0) h, cell_of_row _ _ _ _ _ (0, 0) h⟩
theorem row9 {w : World} {b : Nat} {T : TypeId} {v0 v1 v2 v3 v4 v5 v6 v7 v8 : Value} (h : w.heap[b]? = some (.cells #[v0, v1, v2, v3, v4, v5, v6, v7, v8] T (0, 0))) : w.cell? ⟨b, 0, none⟩ = some v0 ∧ w.cell? ⟨b, 1, none⟩ = some v1 ∧ w.cell? ⟨b, 2, none⟩ = some v2 ∧ w.cell? ⟨b, 3, none⟩ = some v3 ∧ w.cell? ⟨b, 4, none⟩ = some v4 ∧ w.cell? ⟨b, 5, none⟩ = some v5 ∧ w.cell? ⟨b, 6, none⟩ = some v6 ∧ w.cell? ⟨b, 7, none⟩ = some v7 ∧ w.cell? ⟨b, 8, none⟩ = some v8 :=
  ⟨cell_of_row _ _ _ _ _ (0, 0) h, cell_of_row _ _ _ _ _ (0, 0) h, cell_of_row _ _ _ _ _ (0, 0) h, cell_of_row _ _ _ _ _ (0, 0) h, cell_of_row _ _ _ _ _ (0, 0) h, cell_of_row _ _ _ _ _ (0, 0) h, cell_of_row _ _ _ _ _ (0, 0) h, cell_of_row _ _ _ _ _ (0, 0) h, cell_of_row _ _ _ _ _ (0, 0) h⟩
theorem row14 {w : World} {b : Nat} {T : TypeId} {v0 v1 v2 v3 v4 v5 v6 v7 v8 v9 v10 v11 v12 v13 : Value} (h : w.heap[b]? = some (.cells #[v0, v1, v2, v3, v4, v5, v6, v7, v8, v9, v10, v11, v12, v13] T (0, 0))) : w.cell? ⟨b, 0, none⟩ = some v0 ∧ w.cell? ⟨b, 1, none⟩ = some v1 ∧ w.cell? ⟨b, 2, none⟩ = some v2 ∧ w.cell? ⟨b, 3, none⟩ = some v3 ∧ w.cell? ⟨b, 4, none⟩ = some v4 ∧ w.cell? ⟨b, 5, none⟩ = some v5 ∧ w.cell? ⟨b, 6, none⟩ = some v6 ∧ w.cell? ⟨b, 7, none⟩ = some v7 ∧ w.cell? ⟨b, 8, none⟩ = some v8 ∧ w.cell? ⟨b, 9, none⟩ = some v9 ∧ w.cell? ⟨b, 10, none⟩ = some v10 ∧ w.cell? ⟨b, 11, none⟩ = some v11 ∧ w.cell? ⟨b, 12, none⟩ = some v12 ∧ w.cell? ⟨b, 13, none⟩ = some v13 :=
  ⟨cell_of_row _ _ _ _ _ (0, 0) h, cell_of_row _ _ _ _ _ (0, 0) h, cell_of_row _ _ _ _ _ (0, 0) h, cell_of_row _ _ _ _ _ (0, 0) h, cell_of_row _ _ _ _ _ (0, 0) h, cell_of_row _ _ _ _ _ (0, 0) h, cell_of_row _ _ _ _ _ (0, 0) h, cell_of_row _ _ _ _ _ (0, 0) h, cell_of_row _ _ _ _ _ (0, 0) h, cell_of_row _ _ _ _ _ (0, 0) h, cell_of_row _ _ _ _ _ (0, 0) h, cell_of_row _ _ _ _ _ (0, 0) h, cell_of_row _ _ _ _ _ (0, 0) h, cell_of_row _ _ _ _ _ (0, 0) h⟩
theorem row15 {w : World} {b : Nat} {T : TypeId} {v0 v1 v2 v3 v4 v5 v6 v7 v8 v9 v10 v11 v12 v13 v14 : Value} (h : w.heap[b]? = some (.cells #[v0, v1, v2, v3, v4, v5, v6, v7, v8, v9, v10, v11, v12, v13, v14] T (0, 0))) : w.cell? ⟨b, 0, none⟩ = some v0 ∧ w.cell? ⟨b, 1, none⟩ = some v1 ∧ w.cell? ⟨b, 2, none⟩ = some v2 ∧ w.cell? ⟨b, 3, none⟩ = some v3 ∧ w.cell? ⟨b, 4, none⟩ = some v4 ∧ w.cell? ⟨b, 5, none⟩ = some v5 ∧ w.cell? ⟨b, 6, none⟩ = some v6 ∧ w.cell? ⟨b, 7, none⟩ = some v7 ∧ w.cell? ⟨b, 8, none⟩ = some v8 ∧ w.cell? ⟨b, 9, none⟩ = some v9 ∧ w.cell? ⟨b, 10, none⟩ = some v10 ∧ w.cell? ⟨b, 11, none⟩ = some v11 ∧ w.cell? ⟨b, 12, none⟩ = some v12 ∧ w.cell? ⟨b, 13, none⟩ = some v13 ∧ w.cell? ⟨b, 14, none⟩ = some v14 :=
  ⟨cell_of_row _ _ _ _ _ (0, 0) h, cell_of_row _ _ _ _ _ (0, 0) h, cell_of_row _ _ _ _ _ (0, 0) h, cell_of_row _ _ _ _ _ (0, 0) h, cell_of_row _ _ _ _ _ (0, 0) h, cell_of_row _ _ _ _ _ (0, 0) h, cell_of_row _ _ _ _ _ (0, 0) h, cell_of_row _ _ _ _ _ (0, 0) h, cell_of_row _ _ _ _ _ (0, 0) h, cell_of_row _ _ _ _ _ (0, 0) h, cell_of_row _ _ _ _ _ (0, 0) h, cell_of_row _ _ _ _ _ (0, 0) h, cell_of_row _ _ _ _ _ (0, 0) h, cell_of_row _ _ _ _ _ (0, 0) h, cell_of_row _ _ _ _ _ (0, 0) h⟩
end

section
open Go.RowKit

theorem grownBy_setRow (w : World) (b : Nat) (cs : Array Value) : w.grownBy (w.setRow b cs) (some b) :=
  ⟨rfl, rfl, rfl, by rw [size_setRow]; exact Nat.le_refl _, fun k _ hk => setRow_other w b k cs (fun e => hk (by rw [e]))⟩
theorem wp_put {P : Program} {op : Oper} {a : Act} {K : Act → World → Prop} {Q : Exit → Act → World → Prop} {w : World} (ty : TypeId) (x y : Operand) (ho : op.op = .store ty x y)
    (b : Nat) (cells old : Array Value) (t : TypeId) (hx : a.eval x = .pointer (some ⟨b, 0, none⟩)) (hy : a.eval y = .agg cells) (hg : w.heap[b]? = some (.cells old t (0, 0)))
    (hi : (P.info? ty).map (·.size) = some cells.size) (hsz : old.size = cells.size) (h1 : cells.all (·.oneCell') = true)
    (h : ∀ w2, Hid (w2.heap[b]? = some (.cells cells t (0, 0))) → Hid (w.grownBy w2 (some b)) → K (a.put op.dst undef) w2) : op.wp P a w K Q := by
  unfold Oper.wp execOp
  simp only [ho, hx, hy, Instr.storeAt, Instr.sureAddr, Sem.run_bind, Sem.run_pure, Result.andThen_ok, run_storeVar_row w b t ty old cells hg hi hsz h1]
  exact h _ (setRow_heap w b _ cells t _ hg) (grownBy_setRow w b cells)
theorem wpList_put {P : Program} {ops : Array Oper} {rest : List Oper} {op : Oper} {a : Act} {w : World} {Q : Exit → Act → World → Prop} (hgd : op.guard = none) (ty : TypeId) (x y : Operand) (ho : op.op = .store ty x y)
    (b : Nat) (cells old : Array Value) (t : TypeId) (hx : a.eval x = .pointer (some ⟨b, 0, none⟩)) (hy : a.eval y = .agg cells) (hg : w.heap[b]? = some (.cells old t (0, 0)))
    (hi : (P.info? ty).map (·.size) = some cells.size) (hsz : old.size = cells.size) (h1 : cells.all (·.oneCell') = true)
    (h : ∀ w2, Hid (w2.heap[b]? = some (.cells cells t (0, 0))) → Hid (w.grownBy w2 (some b)) → wpList P ops Q rest (a.put op.dst undef) w2) : wpList P ops Q (op :: rest) a w :=
  wpList_plain hgd fun _ hK => wp_put ty x y ho b cells old t hx hy hg hi hsz h1 (fun w2 h1 h2 => hK _ _ (h w2 h1 h2))
theorem grownBy_setCells (w : World) (b o : Nat) (l : List Value) : w.grownBy (w.setCells b o l) (some b) := by
  obtain ⟨e1, e2, e3, e4, e5⟩ := Put.setCells_else b l o w
  exact ⟨e2, e3, e4, Nat.le_of_eq e1.symm, fun k _ hk => e5 k (fun e => hk (by rw [e]))⟩
/-- A part of a row is stored, from cell o on. -/
theorem wpList_putPart {P : Program} {ops : Array Oper} {rest : List Oper} {op : Oper} {a : Act} {w : World} {Q : Exit → Act → World → Prop} (hgd : op.guard = none) (ty : TypeId) (x y : Operand) (ho : op.op = .store ty x y)
    (b o : Nat) (cells old new : Array Value) (t : TypeId) (hx : a.eval x = .pointer (some ⟨b, o, none⟩)) (hy : a.eval y = .agg cells) (hg : w.heap[b]? = some (.cells old t (0, 0)))
    (hi : (P.info? ty).map (·.size) = some cells.size) (hsz : o + cells.size ≤ old.size) (h1 : cells.all (·.oneCell') = true) (hnew : Put.over old o cells.toList = new)
    (h : ∀ w2, Hid (w2.heap[b]? = some (.cells new t (0, 0))) → Hid (w.grownBy w2 (some b)) → wpList P ops Q rest (a.put op.dst undef) w2) : wpList P ops Q (op :: rest) a w := by
  refine wpList_plain hgd fun _ hK => wp_store_mid ty x y ho b o cells hx hy (fun j hj => ⟨?_, frozen_of_row _ _ _ _ _ hg⟩) hi h1 (hK _ _ (h _ ?_ (grownBy_setCells w b o _)))
  · rw [cell_of_row _ _ _ _ _ (0, 0) hg]
    simp only [Array.getElem?_eq_getElem (show o + j < old.size by omega), Option.isSome_some]
  · rw [← hnew]
    exact Put.setCells_row b t _ o w old hg
theorem run_storeVar_cell {P : Program} (w : World) (b o : Nat) (ty : TypeId) (v : Value) (ht : w.there b o 1) (hi : (P.info? ty).map (·.size) = some 1) (h1 : v.oneCell' = true) (hv : v.cells = #[v]) :
    (storeVar ty ⟨b, o, none⟩ v).run P w = .ok () (w.setCells b o [v]) := by
  have := run_storeCells_cells (P := P) b o [v] 0 w (fun j hj => by simpa using (ht j (by simpa using hj)).1) (fun j hj => by simpa using (ht j (by simpa using hj)).2)
    (fun u hu => by rw [List.mem_singleton.1 hu]; exact h1)
  cases hq : P.info? ty with
  | none => simp [hq] at hi
  | some i =>
    have hs : i.size = 1 := by simpa [hq] using hi
    simp only [Nat.add_zero] at this
    simp [storeVar, sizeOf, typeInfo, hq, hv, hs, this]
/-- One cell of a row is stored. -/
theorem wpList_putCell {P : Program} {ops : Array Oper} {rest : List Oper} {op : Oper} {a : Act} {w : World} {Q : Exit → Act → World → Prop} (hgd : op.guard = none) (ty : TypeId) (x y : Operand) (ho : op.op = .store ty x y)
    (b o : Nat) (v : Value) (old new : Array Value) (t : TypeId) (hx : a.eval x = .pointer (some ⟨b, o, none⟩)) (hy : a.eval y = v) (hg : w.heap[b]? = some (.cells old t (0, 0)))
    (hi : (P.info? ty).map (·.size) = some 1) (hsz : o < old.size) (h1 : v.oneCell' = true) (hv : v.cells = #[v]) (hnew : old.setIfInBounds o v = new)
    (h : ∀ w2, Hid (w2.heap[b]? = some (.cells new t (0, 0))) → Hid (w.grownBy w2 (some b)) → wpList P ops Q rest (a.put op.dst undef) w2) : wpList P ops Q (op :: rest) a w := by
  refine wpList_plain hgd fun K hK => ?_
  have ht : w.there b o 1 := fun j hj => by
    obtain rfl : j = 0 := by omega
    refine ⟨?_, frozen_of_row _ _ _ _ _ hg⟩
    rw [cell_of_row _ _ _ _ _ (0, 0) hg]
    simp only [Nat.add_zero, Array.getElem?_eq_getElem hsz, Option.isSome_some]
  unfold Oper.wp execOp
  simp only [ho, hx, hy, Instr.storeAt, Instr.sureAddr, Sem.run_bind, Sem.run_pure, Result.andThen_ok, run_storeVar_cell w b o ty v ht hi h1 hv]
  refine hK _ _ (h _ ?_ (grownBy_setCells w b o _))
  rw [← hnew]
  exact Put.setCells_row b t [v] o w old hg
end

section
open Go.RowKit

theorem bxs1 (w : World) (A : Obj) : Bx w [(w.heap.size, A)] (w.alloc A) :=
  ⟨(Below.refl w.heap.size w).alloc (Nat.le_refl _) A, fun p hp => by
    simp only [List.mem_cons, List.not_mem_nil, or_false] at hp
    rw [hp]; exact heap_alloc_new w A⟩
theorem Bx.more {w wx : World} {L : List (Nat × Obj)} (h : Bx w L wx) (A : Obj) (n : Nat) (hn : wx.heap.size = n) : Bx w (L ++ [(n, A)]) (wx.alloc A) := by
  subst hn
  have hb : Below wx.heap.size wx (wx.alloc A) := (Below.refl _ _).alloc (Nat.le_refl _) A
  refine ⟨(h.next hb).below, fun p hp => ?_⟩
  rcases List.mem_append.1 hp with hp | hp
  · exact (h.next hb).rows p hp
  · simp only [List.mem_cons, List.not_mem_nil, or_false] at hp
    rw [hp]; exact heap_alloc_new wx A
theorem bxs2 (w : World) (A B : Obj) : Bx w [(w.heap.size, A), (w.heap.size + 1, B)] ((w.alloc A).alloc B) := (bxs1 w A).more B _ (by simp)
theorem bxs3 (w : World) (A B C : Obj) : Bx w [(w.heap.size, A), (w.heap.size + 1, B), (w.heap.size + 2, C)] (((w.alloc A).alloc B).alloc C) := (bxs2 w A B).more C _ (by simp)
theorem bxs4 (w : World) (A B C D : Obj) : Bx w [(w.heap.size, A), (w.heap.size + 1, B), (w.heap.size + 2, C), (w.heap.size + 3, D)] ((((w.alloc A).alloc B).alloc C).alloc D) := (bxs3 w A B C).more D _ (by simp)
theorem results_row_tmp {P : Program} {fn : Func} {p q : Tmp} {ty : TypeId} (h : fn.results = #[.cell p ty, .tmp q]) (tmps : Array Value) (w : World) (g : Nat) (t : TypeId) (cs : Array Value) (fr : Nat × Nat) (d : TypeDesc)
    (hp : tmps.getD p undef = .pointer (some ⟨g, 0, none⟩)) (hg : w.heap[g]? = some (.cells cs t fr))
    (hu : P.underlying ty = some d) (hd : (match d with | .struct _ | .array _ _ => true | _ => false) = true) (hi : (P.info? ty).map (·.size) = some cs.size) :
    (results fn tmps).run P w = .ok (.tuple #[.agg cs, tmps.getD q undef]) w := by
  have hp' : tmps[p]?.getD undef = .pointer (some ⟨g, 0, none⟩) := by simpa using hp
  simp [results, h, hp', asAddr, run_loadVar_row w g t ty cs fr d hg hu hd hi]
end

section
open Go.RowKit

theorem bxs5 (w : World) (A B C D E : Obj) : Bx w [(w.heap.size, A), (w.heap.size + 1, B), (w.heap.size + 2, C), (w.heap.size + 3, D), (w.heap.size + 4, E)] (((((w.alloc A).alloc B).alloc C).alloc D).alloc E) := (bxs4 w A B C D).more E _ (by simp)
theorem Bx.r5 {w wx : World} {L : List (Nat × Obj)} {p0 p1 p2 p3 p4 p5 : Nat × Obj} (h : Bx w (p0 :: p1 :: p2 :: p3 :: p4 :: p5 :: L) wx) : wx.heap[p5.1]? = some p5.2 := h.rows p5 (by simp)
theorem Bx.r6 {w wx : World} {L : List (Nat × Obj)} {p0 p1 p2 p3 p4 p5 p6 : Nat × Obj} (h : Bx w (p0 :: p1 :: p2 :: p3 :: p4 :: p5 :: p6 :: L) wx) : wx.heap[p6.1]? = some p6.2 := h.rows p6 (by simp)
theorem Bx.r7 {w wx : World} {L : List (Nat × Obj)} {p0 p1 p2 p3 p4 p5 p6 p7 : Nat × Obj} (h : Bx w (p0 :: p1 :: p2 :: p3 :: p4 :: p5 :: p6 :: p7 :: L) wx) : wx.heap[p7.1]? = some p7.2 := h.rows p7 (by simp)
end

section
open Go.RowKit

namespace Mo
def ah (j : Nat) : Int := if j = 1 then 1 else if j = 2 then -1 else 0
end Mo
/-- The tables lie in their variables. -/
structure Tabs (w : World) : Prop where
  steps : ∀ j : Nat, j < 3 → w.cell? ⟨2, j, none⟩ = some (.int .i64 j)
  ahead : ∀ j : Nat, j < 3 → w.cell? ⟨1, j, none⟩ = some (.int .i64 (Mo.ah j))
  tz : ∀ j : Nat, j < 32 → w.cell? ⟨3, j, none⟩ = some (.int .u8 (Go.Lib.deBruijn32tab.getD j 0))
theorem blk_lt {w : World} {b o : Nat} {v : Value} (h : w.cell? ⟨b, o, none⟩ = some v) : b < w.heap.size := by
  rcases Nat.lt_or_ge b w.heap.size with h1 | h1
  · exact h1
  · exfalso
    unfold World.cell? at h
    simp [Array.getElem?_eq_none h1] at h
theorem cell_below {w w' : World} {b o : Nat} {v : Value} (hb : Below w.heap.size w w') (h : w.cell? ⟨b, o, none⟩ = some v) : w'.cell? ⟨b, o, none⟩ = some v :=
  (hb.cell (p := ⟨b, o, none⟩) (blk_lt h)).trans h
theorem Tabs.below {w w' : World} (h : Tabs w) (hb : Below w.heap.size w w') : Tabs w' := by
  cases h
  constructor <;> (intro j hj; refine cell_below hb ?_; solve_by_elim)
end

section
open Go.RowKit
end
end Go.Proofs.YtnjcegkefjdgdaaDoor
