/- A struct stored whole into its block. No statement of the seat is proved here. -/
import Derived.Test.YtmfinebkikhceaaPut
import Derived.Great.BuildSlice
namespace Go.Proofs.Ytmfinebkikhceaa
open Go.RowKit

theorem grownBy_setRow (w : World) (b : Nat) (cs : Array Value) : w.grownBy (w.setRow b cs) (some b) :=
  ⟨rfl, rfl, rfl, by rw [size_setRow]; exact Nat.le_refl _, fun k _ hk => setRow_other w b k cs (fun e => hk (by rw [e]))⟩
theorem wp_put {P : Program} {op : Oper} {a : Act} {K : Act → World → Prop} {Q : Exit → Act → World → Prop} {w : World} (ty : TypeId) (x y : Operand) (ho : op.op = .store ty x y)
    (b : Nat) (cells old : Array Value) (t : TypeId) (hx : a.eval x = .pointer (some ⟨b, 0, none⟩)) (hy : a.eval y = .agg cells) (hg : w.heap[b]? = some (.cells old t (0, 0)))
    (hi : (P.info? ty).map (·.size) = some cells.size) (hsz : old.size = cells.size) (h1 : cells.all (·.oneCell') = true)
    (h : ∀ w2, Hid (w2.heap[b]? = some (.cells cells t (0, 0))) → Hid (w.grownBy w2 (some b)) → K (a.put op.dst undef) w2) : op.wp P a w K Q := by
  unfold Oper.wp execOp
  simp only [ho, hx, hy, Instr.storeAt, Instr.sureAddr, Sem.run_bind, Sem.run_pure, Result.andThen_ok, run_storeVar_row w b t ty old cells hg hi hsz h1]
  exact h _ (setRow_heap w b _ cells t _ hg) (grownBy_setRow w b cells)
theorem wpList_put {P : Program} {ops : Array Oper} {rest : List Oper} {op : Oper} {a : Act} {w : World} {Q : Exit → Act → World → Prop} (hgd : op.guard = none) (ty : TypeId) (x y : Operand) (ho : op.op = .store ty x y)
    (b : Nat) (cells old : Array Value) (t : TypeId) (hx : a.eval x = .pointer (some ⟨b, 0, none⟩)) (hy : a.eval y = .agg cells) (hg : w.heap[b]? = some (.cells old t (0, 0)))
    (hi : (P.info? ty).map (·.size) = some cells.size) (hsz : old.size = cells.size) (h1 : cells.all (·.oneCell') = true)
    (h : ∀ w2, Hid (w2.heap[b]? = some (.cells cells t (0, 0))) → Hid (w.grownBy w2 (some b)) → wpList P ops Q rest (a.put op.dst undef) w2) : wpList P ops Q (op :: rest) a w :=
  wpList_plain hgd fun _ hK => wp_put ty x y ho b cells old t hx hy hg hi hsz h1 (fun w2 h1 h2 => hK _ _ (h w2 h1 h2))
theorem grownBy_setCells (w : World) (b o : Nat) (l : List Value) : w.grownBy (w.setCells b o l) (some b) := by
  obtain ⟨e1, e2, e3, e4, e5⟩ := Put.setCells_else b l o w
  exact ⟨e2, e3, e4, Nat.le_of_eq e1.symm, fun k _ hk => e5 k (fun e => hk (by rw [e]))⟩
/-- A part of a row is stored, from cell o on. -/
theorem wpList_putPart {P : Program} {ops : Array Oper} {rest : List Oper} {op : Oper} {a : Act} {w : World} {Q : Exit → Act → World → Prop} (hgd : op.guard = none) (ty : TypeId) (x y : Operand) (ho : op.op = .store ty x y)
    (b o : Nat) (cells old new : Array Value) (t : TypeId) (hx : a.eval x = .pointer (some ⟨b, o, none⟩)) (hy : a.eval y = .agg cells) (hg : w.heap[b]? = some (.cells old t (0, 0)))
    (hi : (P.info? ty).map (·.size) = some cells.size) (hsz : o + cells.size ≤ old.size) (h1 : cells.all (·.oneCell') = true) (hnew : Put.over old o cells.toList = new)
    (h : ∀ w2, Hid (w2.heap[b]? = some (.cells new t (0, 0))) → Hid (w.grownBy w2 (some b)) → wpList P ops Q rest (a.put op.dst undef) w2) : wpList P ops Q (op :: rest) a w := by
  refine wpList_plain hgd fun _ hK => wp_store_mid ty x y ho b o cells hx hy (fun j hj => ⟨?_, frozen_of_row _ _ _ _ _ hg⟩) hi h1 (hK _ _ (h _ ?_ (grownBy_setCells w b o _)))
  · rw [cell_of_row _ _ _ _ _ (0, 0) hg]
    simp only [Array.getElem?_eq_getElem (show o + j < old.size by omega), Option.isSome_some]
  · rw [← hnew]
    exact Put.setCells_row b t _ o w old hg
theorem run_storeVar_cell {P : Program} (w : World) (b o : Nat) (ty : TypeId) (v : Value) (ht : w.there b o 1) (hi : (P.info? ty).map (·.size) = some 1) (h1 : v.oneCell' = true) (hv : v.cells = #[v]) :
    (storeVar ty ⟨b, o, none⟩ v).run P w = .ok () (w.setCells b o [v]) := by
  have := run_storeCells_cells (P := P) b o [v] 0 w (fun j hj => by simpa using (ht j (by simpa using hj)).1) (fun j hj => by simpa using (ht j (by simpa using hj)).2)
    (fun u hu => by rw [List.mem_singleton.1 hu]; exact h1)
  cases hq : P.info? ty with
  | none => simp [hq] at hi
  | some i =>
    have hs : i.size = 1 := by simpa [hq] using hi
    simp only [Nat.add_zero] at this
    simp [storeVar, sizeOf, typeInfo, hq, hv, hs, this]
/-- One cell of a row is stored. -/
theorem wpList_putCell {P : Program} {ops : Array Oper} {rest : List Oper} {op : Oper} {a : Act} {w : World} {Q : Exit → Act → World → Prop} (hgd : op.guard = none) (ty : TypeId) (x y : Operand) (ho : op.op = .store ty x y)
    (b o : Nat) (v : Value) (old new : Array Value) (t : TypeId) (hx : a.eval x = .pointer (some ⟨b, o, none⟩)) (hy : a.eval y = v) (hg : w.heap[b]? = some (.cells old t (0, 0)))
    (hi : (P.info? ty).map (·.size) = some 1) (hsz : o < old.size) (h1 : v.oneCell' = true) (hv : v.cells = #[v]) (hnew : old.setIfInBounds o v = new)
    (h : ∀ w2, Hid (w2.heap[b]? = some (.cells new t (0, 0))) → Hid (w.grownBy w2 (some b)) → wpList P ops Q rest (a.put op.dst undef) w2) : wpList P ops Q (op :: rest) a w := by
  refine wpList_plain hgd fun K hK => ?_
  have ht : w.there b o 1 := fun j hj => by
    obtain rfl : j = 0 := by omega
    refine ⟨?_, frozen_of_row _ _ _ _ _ hg⟩
    rw [cell_of_row _ _ _ _ _ (0, 0) hg]
    simp only [Nat.add_zero, Array.getElem?_eq_getElem hsz, Option.isSome_some]
  unfold Oper.wp execOp
  simp only [ho, hx, hy, Instr.storeAt, Instr.sureAddr, Sem.run_bind, Sem.run_pure, Result.andThen_ok, run_storeVar_cell w b o ty v ht hi h1 hv]
  refine hK _ _ (h _ ?_ (grownBy_setCells w b o _))
  rw [← hnew]
  exact Put.setCells_row b t [v] o w old hg
end Go.Proofs.Ytmfinebkikhceaa
