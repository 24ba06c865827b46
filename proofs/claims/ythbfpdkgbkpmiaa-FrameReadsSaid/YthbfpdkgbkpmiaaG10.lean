/- What the texts behind this one rest on: several texts in one. No statement of the seat is proved here. -/
import Derived.Test.YthbfpdkgbkpmiaaChain
import Derived.Test.YthbfpdkgbkpmiaaG0
import Derived.Deep.MidRow
import Derived.Deep.Heap
import Derived.Great.BuildSlice
namespace Go.Proofs.Ythbfpdkgbkpmiaa
section
open Go.RowKit

/-- What lies below block B is as in W1; block b holds this row. -/
structure Lit (B : Nat) (W1 : World) (b : Nat) (row : Obj) (wx : World) : Prop where
  below : Below B W1 wx
  size : B ≤ wx.heap.size
  row : wx.heap[b]? = some row
namespace Lit
variable {B b : Nat} {W1 wx x1 : World} {row : Obj}
theorem lt (h : Lit B W1 b row wx) : b < wx.heap.size := by
  rcases Nat.lt_or_ge b wx.heap.size with h1 | h1
  · exact h1
  · have := h.row; rw [Array.getElem?_eq_none h1] at this; cases this
theorem next (h : Lit B W1 b row wx) (hb : Below wx.heap.size wx x1) : Lit B W1 b row x1 :=
  ⟨h.below.trans (hb.mono h.size), Nat.le_trans h.size hb.size, (hb.block b h.lt).trans h.row⟩
theorem two (w : World) (o1 o2 : Obj) (n : Nat) : Lit (w.heap.size + 1) (w.alloc o1) (w.heap.size + 1) o2 { ((w.alloc o1).alloc o2) with drawn := n } := by
  refine ⟨?_, by simp, ?_⟩
  · have h := (Below.refl (w.heap.size + 1) (w.alloc o1)).alloc (by simp) o2
    exact ⟨h.os, h.tape, h.output, h.size, h.block⟩
  · have := heap_alloc_new (w.alloc o1) o2
    simpa using this
theorem one (w : World) (o : Obj) : Lit w.heap.size w w.heap.size o (w.alloc o) := ⟨(Below.refl _ _).alloc (Nat.le_refl _) o, by simp, heap_alloc_new w o⟩
theorem two' (w : World) (o1 o2 : Obj) : Lit (w.heap.size + 1) (w.alloc o1) (w.heap.size + 1) o2 ((w.alloc o1).alloc o2) := two w o1 o2 ((w.alloc o1).alloc o2).drawn
theorem cell {cs : Array Value} {t : TypeId} (h : Lit B W1 b (.cells cs t (0, 0)) wx) (i : Nat) : wx.cell? ⟨b, i, none⟩ = cs[i]? := cell_of_row _ _ _ _ _ (0, 0) h.row
theorem free {cs : Array Value} {t : TypeId} (h : Lit B W1 b (.cells cs t (0, 0)) wx) (i : Nat) : wx.frozen? ⟨b, i, none⟩ = false := frozen_of_row _ _ _ _ _ h.row
theorem store {P : Program} {op : Oper} {a : Act} {K : Act → World → Prop} {Q : Exit → Act → World → Prop} {cells old : Array Value} {t : TypeId} (ty : TypeId) (x y : Operand) (ho : op.op = .store ty x y)
    (hx : a.eval x = .pointer (some ⟨b, 0, none⟩)) (hy : a.eval y = .agg cells) (h : Lit B W1 b (.cells old t (0, 0)) wx) (hb : B ≤ b)
    (hi : (P.info? ty).map (·.size) = some cells.size) (hsz : old.size = cells.size) (h1 : cells.all (·.oneCell') = true)
    (hk : ∀ w', Lit B W1 b (.cells cells t (0, 0)) w' → K (a.put op.dst undef) w') : op.wp P a wx K Q := by
  unfold Oper.wp execOp
  simp only [ho, hx, hy, Instr.storeAt, Instr.sureAddr, Sem.run_bind, Sem.run_pure, Result.andThen_ok, run_storeVar_row wx b t ty old cells h.row hi hsz h1]
  refine hk _ ⟨⟨h.below.os, h.below.tape, h.below.output, by rw [size_setRow]; exact h.below.size, fun k hk => (setRow_other wx b k cells (by omega)).trans (h.below.block k hk)⟩, by rw [size_setRow]; exact h.size, setRow_heap wx b _ cells _ _ h.row⟩
theorem put {cs : Array Value} {t : TypeId} (h : Lit B W1 b (.cells cs t (0, 0)) wx) (hb : B ≤ b) (i : Nat) (v : Value) : Lit B W1 b (.cells (cs.setIfInBounds i v) t (0, 0)) (wx.setCell ⟨b, i, none⟩ v) := by
  refine ⟨h.below.setCell hb v, by rw [Go.Deep.nblk_setCell]; exact h.size, ?_⟩
  simp [World.setCell, Array.getElem?_modify, h.row]
theorem alloc (h : Lit B W1 b row wx) (o : Obj) : Lit B W1 b row (wx.alloc o) := h.next ((Below.refl _ _).alloc (Nat.le_refl _) o)
end Lit
end

section
open Go.RowKit
namespace Lit
variable {B b : Nat} {W1 wx : World} {row : Obj}
theorem putOther (h : Lit B W1 b row wx) {b' : Nat} (hb : B ≤ b') (hne : b ≠ b') (i : Nat) (v : Value) : Lit B W1 b row (wx.setCell ⟨b', i, none⟩ v) :=
  ⟨h.below.setCell hb v, by rw [Go.Deep.nblk_setCell]; exact h.size, (Go.Deep.blk_setCell_other _ _ _ _ hne).trans h.row⟩
end Lit
end

section
open Go.RowKit

/-- As W1, but for block b, which holds this row, and for what has been laid since. -/
structure Put (W1 : World) (b : Nat) (row : Obj) (wx : World) : Prop where
  os : wx.os = W1.os
  tape : wx.tape = W1.tape
  output : wx.output = W1.output
  size : W1.heap.size ≤ wx.heap.size
  other : ∀ j, j < W1.heap.size → j ≠ b → wx.heap[j]? = W1.heap[j]?
  row : wx.heap[b]? = some row
namespace Put
variable {b : Nat} {W1 wx x1 : World} {row : Obj}
theorem start (h : W1.heap[b]? = some row) : Put W1 b row W1 := ⟨rfl, rfl, rfl, Nat.le_refl _, fun _ _ _ => rfl, h⟩
theorem drew (h : Put W1 b row wx) {n : Nat} : Put W1 b row { wx with drawn := n } := ⟨h.os, h.tape, h.output, h.size, h.other, h.row⟩
theorem lt (h : Put W1 b row wx) : b < wx.heap.size := (Array.getElem?_eq_some_iff.1 h.row).1
theorem next (h : Put W1 b row wx) (hb : Below wx.heap.size wx x1) : Put W1 b row x1 :=
  ⟨hb.os.trans h.os, hb.tape.trans h.tape, hb.output.trans h.output, Nat.le_trans h.size hb.size, fun j hj hne => (hb.block j (Nat.lt_of_lt_of_le hj h.size)).trans (h.other j hj hne), (hb.block b h.lt).trans h.row⟩
theorem below {B : Nat} (h : Put W1 b row wx) (hB : B ≤ b) (hB2 : B ≤ W1.heap.size) : Below B W1 wx := ⟨h.os, h.tape, h.output, h.size, fun j hj => h.other j (by omega) (by omega)⟩
theorem cell {cs : Array Value} {t : TypeId} (h : Put W1 b (.cells cs t (0, 0)) wx) (i : Nat) : wx.cell? ⟨b, i, none⟩ = cs[i]? := cell_of_row _ _ _ _ _ (0, 0) h.row
theorem free {cs : Array Value} {t : TypeId} (h : Put W1 b (.cells cs t (0, 0)) wx) (i : Nat) : wx.frozen? ⟨b, i, none⟩ = false := frozen_of_row _ _ _ _ _ h.row
theorem store {P : Program} {op : Oper} {a : Act} {K : Act → World → Prop} {Q : Exit → Act → World → Prop} {cells old : Array Value} {t : TypeId} (ty : TypeId) (x y : Operand) (ho : op.op = .store ty x y)
    (hx : a.eval x = .pointer (some ⟨b, 0, none⟩)) (hy : a.eval y = .agg cells) (h : Put W1 b (.cells old t (0, 0)) wx)
    (hi : (P.info? ty).map (·.size) = some cells.size) (hsz : old.size = cells.size) (h1 : cells.all (·.oneCell') = true)
    (hk : ∀ w', Put W1 b (.cells cells t (0, 0)) w' → K (a.put op.dst undef) w') : op.wp P a wx K Q := by
  unfold Oper.wp execOp
  simp only [ho, hx, hy, Instr.storeAt, Instr.sureAddr, Sem.run_bind, Sem.run_pure, Result.andThen_ok, run_storeVar_row wx b t ty old cells h.row hi hsz h1]
  exact hk _ ⟨h.os, h.tape, h.output, by rw [size_setRow]; exact h.size, fun k hk hne => (setRow_other wx b k cells hne).trans (h.other k hk hne), setRow_heap wx b _ cells _ _ h.row⟩
/-- A row with some cells put over it from o on. -/
def over (a : Array Value) : Nat → List Value → Array Value
  | _, [] => a
  | o, v :: r => over (a.setIfInBounds o v) (o + 1) r
theorem setCells_row (b : Nat) (t : TypeId) : ∀ (l : List Value) (o : Nat) (w : World) (cs : Array Value), w.heap[b]? = some (.cells cs t (0, 0)) → (w.setCells b o l).heap[b]? = some (.cells (over cs o l) t (0, 0))
  | [], _, _, _, h => h
  | v :: r, o, _, _, h => setCells_row b t r (o + 1) _ _ (heap_setCell_same _ _ o _ _ v h)
theorem setCells_else (b : Nat) : ∀ (l : List Value) (o : Nat) (w : World), (w.setCells b o l).heap.size = w.heap.size ∧ (w.setCells b o l).os = w.os ∧ (w.setCells b o l).tape = w.tape ∧ (w.setCells b o l).output = w.output ∧ ∀ j, j ≠ b → (w.setCells b o l).heap[j]? = w.heap[j]?
  | [], _, _ => ⟨rfl, rfl, rfl, rfl, fun _ _ => rfl⟩
  | v :: r, o, w => by
    obtain ⟨h1, h2, h3, h4, h5⟩ := setCells_else b r (o + 1) (w.setCell ⟨b, o, none⟩ v)
    exact ⟨h1.trans (Go.Deep.nblk_setCell _ _ _), h2, h3, h4, fun j hj => (h5 j hj).trans (heap_setCell_other _ _ _ _ hj)⟩
/-- A part of the struct is stored, from cell o on. -/
theorem storeMid {P : Program} {op : Oper} {a : Act} {K : Act → World → Prop} {Q : Exit → Act → World → Prop} {cells old new : Array Value} {t : TypeId} (ty : TypeId) (x y : Operand) (o : Nat) (ho : op.op = .store ty x y)
    (hx : a.eval x = .pointer (some ⟨b, o, none⟩)) (hy : a.eval y = .agg cells) (h : Put W1 b (.cells old t (0, 0)) wx)
    (hi : (P.info? ty).map (·.size) = some cells.size) (hsz : o + cells.size ≤ old.size) (h1 : cells.all (·.oneCell') = true) (hnew : over old o cells.toList = new)
    (hk : ∀ w', Put W1 b (.cells new t (0, 0)) w' → K (a.put op.dst undef) w') : op.wp P a wx K Q := by
  refine wp_store_mid ty x y ho b o cells hx hy (fun j hj => ⟨?_, frozen_of_row _ _ _ _ _ h.row⟩) hi h1 ?_
  · rw [h.cell]
    simp only [Array.getElem?_eq_getElem (show o + j < old.size by omega), Option.isSome_some]
  · obtain ⟨e1, e2, e3, e4, e5⟩ := setCells_else b cells.toList o wx
    refine hk _ ⟨e2.trans h.os, e3.trans h.tape, e4.trans h.output, by rw [e1]; exact h.size, fun j hj hne => (e5 j hne).trans (h.other j hj hne), ?_⟩
    rw [← hnew]
    exact setCells_row b t _ o wx old h.row
end Put
end

section
open Go.RowKit

/-- Below B all is as in w; these blocks hold these rows. -/
structure Bx (w : World) (L : List (Nat × Obj)) (wx : World) : Prop where
  below : Below w.heap.size w wx
  rows : ∀ p ∈ L, wx.heap[p.1]? = some p.2
namespace Bx
variable {w wx x1 : World} {L : List (Nat × Obj)}
theorem lt (h : Bx w L wx) {p : Nat × Obj} (hp : p ∈ L) : p.1 < wx.heap.size := (Array.getElem?_eq_some_iff.1 (h.rows p hp)).1
theorem next (h : Bx w L wx) (hb : Below wx.heap.size wx x1) : Bx w L x1 :=
  ⟨h.below.trans (hb.mono h.below.size), fun p hp => (hb.block p.1 (h.lt hp)).trans (h.rows p hp)⟩
theorem put {b : Nat} {R : Obj} {L2 : List (Nat × Obj)} (h : Bx w L wx) (hb : w.heap.size ≤ b) (hg : wx.grownBy x1 (some b)) (hr : x1.heap[b]? = some R) (h2 : ∀ p ∈ L2, p = (b, R) ∨ (p ∈ L ∧ p.1 ≠ b)) : Bx w L2 x1 := by
  refine ⟨h.below.trans ((Below.refl w.heap.size wx).grown hg (by have := h.below.size; omega) (fun k hk => by have := Option.some.inj hk; omega)), fun p hp => ?_⟩
  rcases h2 p hp with rfl | ⟨h3, h4⟩
  · exact hr
  · rw [← h.rows p h3]
    exact hg.block p.1 (h.lt h3) (fun e => h4 (Option.some.inj e))
theorem make {g : Nat} {R : Obj} (h : Bx w L wx) (hr : x1.heap[g]? = some R) (hb : Below wx.heap.size wx x1) : Bx w ((g, R) :: L) x1 := by
  refine ⟨(h.next hb).below, fun p hp => ?_⟩
  rcases List.mem_cons.1 hp with rfl | hp
  · exact hr
  · exact (h.next hb).rows p hp
theorem ofPut {b : Nat} {R : Obj} {L2 : List (Nat × Obj)} (h : Bx w L wx) (hb : w.heap.size ≤ b) (hp : Put wx b R x1) (h2 : ∀ p ∈ L2, p = (b, R) ∨ (p ∈ L ∧ p.1 ≠ b)) : Bx w L2 x1 := by
  refine ⟨h.below.trans (hp.below (by omega) h.below.size), fun p hp2 => ?_⟩
  rcases h2 p hp2 with rfl | ⟨h3, h4⟩
  · exact hp.row
  · rw [← h.rows p h3]
    exact hp.other p.1 (h.lt h3) h4
theorem r0 {p : Nat × Obj} (h : Bx w (p :: L) wx) : wx.heap[p.1]? = some p.2 := h.rows p (by simp)
theorem r1 {p q : Nat × Obj} (h : Bx w (p :: q :: L) wx) : wx.heap[q.1]? = some q.2 := h.rows q (by simp)
theorem r2 {p q r : Nat × Obj} (h : Bx w (p :: q :: r :: L) wx) : wx.heap[r.1]? = some r.2 := h.rows r (by simp)
theorem r3 {p q r s : Nat × Obj} (h : Bx w (p :: q :: r :: s :: L) wx) : wx.heap[s.1]? = some s.2 := h.rows s (by simp)
theorem r4 {p q r s t : Nat × Obj} (h : Bx w (p :: q :: r :: s :: t :: L) wx) : wx.heap[t.1]? = some t.2 := h.rows t (by simp)
end Bx
end

section
open Go.RowKit

theorem grownBy_setRow (w : World) (b : Nat) (cs : Array Value) : w.grownBy (w.setRow b cs) (some b) :=
  ⟨rfl, rfl, rfl, by rw [size_setRow]; exact Nat.le_refl _, fun k _ hk => setRow_other w b k cs (fun e => hk (by rw [e]))⟩
theorem wp_put {P : Program} {op : Oper} {a : Act} {K : Act → World → Prop} {Q : Exit → Act → World → Prop} {w : World} (ty : TypeId) (x y : Operand) (ho : op.op = .store ty x y)
    (b : Nat) (cells old : Array Value) (t : TypeId) (hx : a.eval x = .pointer (some ⟨b, 0, none⟩)) (hy : a.eval y = .agg cells) (hg : w.heap[b]? = some (.cells old t (0, 0)))
    (hi : (P.info? ty).map (·.size) = some cells.size) (hsz : old.size = cells.size) (h1 : cells.all (·.oneCell') = true)
    (h : ∀ w2, Hid (w2.heap[b]? = some (.cells cells t (0, 0))) → Hid (w.grownBy w2 (some b)) → K (a.put op.dst undef) w2) : op.wp P a w K Q := by
  unfold Oper.wp execOp
  simp only [ho, hx, hy, Instr.storeAt, Instr.sureAddr, Sem.run_bind, Sem.run_pure, Result.andThen_ok, run_storeVar_row w b t ty old cells hg hi hsz h1]
  exact h _ (setRow_heap w b _ cells t _ hg) (grownBy_setRow w b cells)
theorem wpList_put {P : Program} {ops : Array Oper} {rest : List Oper} {op : Oper} {a : Act} {w : World} {Q : Exit → Act → World → Prop} (hgd : op.guard = none) (ty : TypeId) (x y : Operand) (ho : op.op = .store ty x y)
    (b : Nat) (cells old : Array Value) (t : TypeId) (hx : a.eval x = .pointer (some ⟨b, 0, none⟩)) (hy : a.eval y = .agg cells) (hg : w.heap[b]? = some (.cells old t (0, 0)))
    (hi : (P.info? ty).map (·.size) = some cells.size) (hsz : old.size = cells.size) (h1 : cells.all (·.oneCell') = true)
    (h : ∀ w2, Hid (w2.heap[b]? = some (.cells cells t (0, 0))) → Hid (w.grownBy w2 (some b)) → wpList P ops Q rest (a.put op.dst undef) w2) : wpList P ops Q (op :: rest) a w :=
  wpList_plain hgd fun _ hK => wp_put ty x y ho b cells old t hx hy hg hi hsz h1 (fun w2 h1 h2 => hK _ _ (h w2 h1 h2))
theorem grownBy_setCells (w : World) (b o : Nat) (l : List Value) : w.grownBy (w.setCells b o l) (some b) := by
  obtain ⟨e1, e2, e3, e4, e5⟩ := Put.setCells_else b l o w
  exact ⟨e2, e3, e4, Nat.le_of_eq e1.symm, fun k _ hk => e5 k (fun e => hk (by rw [e]))⟩
theorem run_storeVar_cell {P : Program} (w : World) (b o : Nat) (ty : TypeId) (v : Value) (ht : w.there b o 1) (hi : (P.info? ty).map (·.size) = some 1) (h1 : v.oneCell' = true) (hv : v.cells = #[v]) :
    (storeVar ty ⟨b, o, none⟩ v).run P w = .ok () (w.setCells b o [v]) := by
  have := run_storeCells_cells (P := P) b o [v] 0 w (fun j hj => by simpa using (ht j (by simpa using hj)).1) (fun j hj => by simpa using (ht j (by simpa using hj)).2)
    (fun u hu => by rw [List.mem_singleton.1 hu]; exact h1)
  cases hq : P.info? ty with
  | none => simp [hq] at hi
  | some i =>
    have hs : i.size = 1 := by simpa [hq] using hi
    simp only [Nat.add_zero] at this
    simp [storeVar, sizeOf, typeInfo, hq, hv, hs, this]
/-- One cell of a row is stored. -/
theorem wpList_putCell {P : Program} {ops : Array Oper} {rest : List Oper} {op : Oper} {a : Act} {w : World} {Q : Exit → Act → World → Prop} (hgd : op.guard = none) (ty : TypeId) (x y : Operand) (ho : op.op = .store ty x y)
    (b o : Nat) (v : Value) (old new : Array Value) (t : TypeId) (hx : a.eval x = .pointer (some ⟨b, o, none⟩)) (hy : a.eval y = v) (hg : w.heap[b]? = some (.cells old t (0, 0)))
    (hi : (P.info? ty).map (·.size) = some 1) (hsz : o < old.size) (h1 : v.oneCell' = true) (hv : v.cells = #[v]) (hnew : old.setIfInBounds o v = new)
    (h : ∀ w2, Hid (w2.heap[b]? = some (.cells new t (0, 0))) → Hid (w.grownBy w2 (some b)) → wpList P ops Q rest (a.put op.dst undef) w2) : wpList P ops Q (op :: rest) a w := by
  refine wpList_plain hgd fun K hK => ?_
  have ht : w.there b o 1 := fun j hj => by
    obtain rfl : j = 0 := by omega
    refine ⟨?_, frozen_of_row _ _ _ _ _ hg⟩
    rw [cell_of_row _ _ _ _ _ (0, 0) hg]
    simp only [Nat.add_zero, Array.getElem?_eq_getElem hsz, Option.isSome_some]
  unfold Oper.wp execOp
  simp only [ho, hx, hy, Instr.storeAt, Instr.sureAddr, Sem.run_bind, Sem.run_pure, Result.andThen_ok, run_storeVar_cell w b o ty v ht hi h1 hv]
  refine hK _ _ (h _ ?_ (grownBy_setCells w b o _))
  rw [← hnew]
  exact Put.setCells_row b t [v] o w old hg
end

section
open Go.RowKit

theorem bxs1 (w : World) (A : Obj) : Bx w [(w.heap.size, A)] (w.alloc A) :=
  ⟨(Below.refl w.heap.size w).alloc (Nat.le_refl _) A, fun p hp => by
    simp only [List.mem_cons, List.not_mem_nil, or_false] at hp
    rw [hp]; exact heap_alloc_new w A⟩
theorem Bx.more {w wx : World} {L : List (Nat × Obj)} (h : Bx w L wx) (A : Obj) (n : Nat) (hn : wx.heap.size = n) : Bx w (L ++ [(n, A)]) (wx.alloc A) := by
  subst hn
  have hb : Below wx.heap.size wx (wx.alloc A) := (Below.refl _ _).alloc (Nat.le_refl _) A
  refine ⟨(h.next hb).below, fun p hp => ?_⟩
  rcases List.mem_append.1 hp with hp | hp
  · exact (h.next hb).rows p hp
  · simp only [List.mem_cons, List.not_mem_nil, or_false] at hp
    rw [hp]; exact heap_alloc_new wx A
theorem bxs2 (w : World) (A B : Obj) : Bx w [(w.heap.size, A), (w.heap.size + 1, B)] ((w.alloc A).alloc B) := (bxs1 w A).more B _ (by simp)
theorem results_row_tmp {P : Program} {fn : Func} {p q : Tmp} {ty : TypeId} (h : fn.results = #[.cell p ty, .tmp q]) (tmps : Array Value) (w : World) (g : Nat) (t : TypeId) (cs : Array Value) (fr : Nat × Nat) (d : TypeDesc)
    (hp : tmps.getD p undef = .pointer (some ⟨g, 0, none⟩)) (hg : w.heap[g]? = some (.cells cs t fr))
    (hu : P.underlying ty = some d) (hd : (match d with | .struct _ | .array _ _ => true | _ => false) = true) (hi : (P.info? ty).map (·.size) = some cs.size) :
    (results fn tmps).run P w = .ok (.tuple #[.agg cs, tmps.getD q undef]) w := by
  have hp' : tmps[p]?.getD undef = .pointer (some ⟨g, 0, none⟩) := by simpa using hp
  simp [results, h, hp', asAddr, run_loadVar_row w g t ty cs fr d hg hu hd hi]
end
end Go.Proofs.Ythbfpdkgbkpmiaa
