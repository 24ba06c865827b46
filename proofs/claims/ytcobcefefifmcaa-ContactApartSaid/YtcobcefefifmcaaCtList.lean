/- Lists of contacts in memory. No statement of the seat is proved here. -/
import Derived.Test.YtcobcefefifmcaaCtStep
namespace Go.Proofs.Ytcobcefefifmcaa
open Go.RowKit

def flat (l : List Ct) : List Value := l.flatMap Ct.cells
theorem flat_nil : flat [] = [] := rfl
theorem flat_cons (c : Ct) (l : List Ct) : flat (c :: l) = c.cells ++ flat l := rfl
theorem flat_append (l m : List Ct) : flat (l ++ m) = flat l ++ flat m := by unfold flat; rw [List.flatMap_append]
theorem flat_snoc (l : List Ct) (c : Ct) : flat (l ++ [c]) = flat l ++ c.cells := by rw [flat_append, flat_cons, flat_nil, List.append_nil]
theorem flat_length (l : List Ct) : (flat l).length = l.length * 5 := by
  induction l with
  | nil => rfl
  | cons c l ih => rw [flat_cons, List.length_append, ih, List.length_cons]; show 5 + _ = _; omega
theorem flat_get : ∀ (l : List Ct) (i : Nat) (h : i < l.length) (j : Nat), j < 5 → (flat l)[i * 5 + j]? = (l[i]).cells[j]?
  | c :: l, 0, _, j, hj => by
    rw [flat_cons, Nat.zero_mul, Nat.zero_add, List.getElem?_append_left (by show j < 5; exact hj)]; rfl
  | c :: l, i + 1, h, j, hj => by
    rw [flat_cons, List.getElem?_append_right (by show 5 ≤ _; omega), show (i + 1) * 5 + j - c.cells.length = i * 5 + j from by show (i + 1) * 5 + j - 5 = _; omega]
    exact flat_get l i (by simpa using h) j hj
theorem flat_one (l : List Ct) : ∀ u ∈ flat l, u.oneCell' = true := by
  intro u hu
  obtain ⟨c, -, h⟩ := List.mem_flatMap.1 hu
  simp only [Ct.cells, List.mem_cons, List.not_mem_nil, or_false] at h
  rcases h with rfl | rfl | rfl | rfl | rfl <;> rfl
theorem flat_set (l : List Ct) (k : Nat) (h : k < l.length) (c : Ct) :
    ((((((flat l).toArray.setIfInBounds (k * 5) (.int .u32 c.fl)).setIfInBounds (k * 5 + 1) (.bool c.up)).setIfInBounds (k * 5 + 2) (.bool c.dn)).setIfInBounds (k * 5 + 3) (.bool c.opn)).setIfInBounds (k * 5 + 4) (.bool c.cls)) = (flat (l.set k c)).toArray := by
  simp only [List.setIfInBounds_toArray]
  congr 1
  have key : ∀ (l : List Ct) (k : Nat), k < l.length → ((((((flat l).set (k * 5) (.int .u32 c.fl)).set (k * 5 + 1) (.bool c.up)).set (k * 5 + 2) (.bool c.dn)).set (k * 5 + 3) (.bool c.opn)).set (k * 5 + 4) (.bool c.cls)) = flat (l.set k c) := by
    intro l
    induction l with
    | nil => intro k h; simp at h
    | cons a l ih =>
      intro k h
      cases k with
      | zero => simp [flat_cons, Ct.cells]
      | succ k =>
        have := ih k (by simpa using h)
        rw [List.set_cons_succ, flat_cons, flat_cons, ← this, show (k + 1) * 5 = k * 5 + 5 from by omega]
        simp [Ct.cells]
  exact key l k h

/-- A list of contacts at an address. -/
def LAt (w : World) (A : Option Addr) (l : List Ct) : Prop := l = [] ∨ ∃ b off, A = some ⟨b, off, none⟩ ∧ w.rangeAt b off (flat l)
def LV (w : World) (v : Value) (l : List Ct) : Prop := ∃ A cap, v = .slice A l.length cap ∧ LAt w A l
theorem LAt.below {w w' : World} {A : Option Addr} {l : List Ct} (h : LAt w A l) (hb : Below w.heap.size w w') : LAt w' A l := by
  rcases h with h | ⟨b, off, hA, hr⟩
  · exact .inl h
  · exact .inr ⟨b, off, hA, fun j v hv => (hb.cell (World.block_lt_of_cell? w _ (hr j v hv))).trans (hr j v hv)⟩
theorem LV.below {w w' : World} {v : Value} {l : List Ct} (h : LV w v l) (hb : Below w.heap.size w w') : LV w' v l := by
  obtain ⟨A, cap, hv, hA⟩ := h
  exact ⟨A, cap, hv, hA.below hb⟩
theorem LAt.at_ {w : World} {A : Option Addr} {l : List Ct} (h : LAt w A l) {k : Nat} (hk : k < l.length) :
    ∃ b off, A = some ⟨b, off, none⟩ ∧ b < w.heap.size ∧ w.cell? ⟨b, off + k * 5, none⟩ = some (.int .u32 (l[k]).fl) ∧ w.cell? ⟨b, off + k * 5 + 1, none⟩ = some (.bool (l[k]).up) ∧ w.cell? ⟨b, off + k * 5 + 2, none⟩ = some (.bool (l[k]).dn) ∧
      w.cell? ⟨b, off + k * 5 + 3, none⟩ = some (.bool (l[k]).opn) ∧ w.cell? ⟨b, off + k * 5 + 4, none⟩ = some (.bool (l[k]).cls) := by
  rcases h with h | ⟨b, off, hA, hr⟩
  · rw [h] at hk; simp at hk
  · have hc := fun j v (hj : j < 5) (e : (l[k]).cells[j]? = some v) => hr (k * 5 + j) v ((flat_get l k hk j hj).trans e)
    have h0 := hc 0 _ (by omega) rfl
    refine ⟨b, off, hA, World.block_lt_of_cell? w _ h0, h0, hc 1 _ (by omega) rfl, hc 2 _ (by omega) rfl, hc 3 _ (by omega) rfl, hc 4 _ (by omega) rfl⟩
theorem LV.of_own {w : World} {base n : Nat} {v : Value} {l : List Ct} (h : w.ownsRow base 24 5 v n (flat l)) : n = l.length ∧ LV w v l := by
  obtain ⟨hl, h | ⟨g, cap, cur, hv, _, hg, _, _, _, ht⟩⟩ := h
  · rw [flat_length] at hl
    obtain ⟨rfl, rfl⟩ := h
    have : l = [] := List.eq_nil_of_length_eq_zero (by omega)
    subst this
    exact ⟨rfl, none, 0, rfl, .inl rfl⟩
  · rw [flat_length] at hl
    have hn : n = l.length := by omega
    refine ⟨hn, some ⟨g, 0, none⟩, cap, by rw [hv, hn], .inr ⟨g, 0, rfl, fun j u hu => ?_⟩⟩
    rw [Nat.zero_add, cell_of_row w g j cur _ (0, 0) hg, ← Array.getElem?_toList]
    rw [← ht, List.getElem?_take] at hu
    split at hu
    · exact hu
    · cases hu

/-- A row of n zero contacts. -/
theorem make_cts (n : Nat) (hn : n ≤ 10000) : ∀ w : World, (Instr.makeSlice 39 (.int .i64 n) (.int .i64 n)).run Try.prog w = .ok (.slice (some ⟨w.heap.size, 0, none⟩) n n) (w.alloc (.cells (flat (List.replicate n Ct.zero)).toArray 24)) := by
  intro w
  have := run_make (P := Try.prog) w 39 24 Try.t24 (.agg Ct.zero.cells.toArray) Try.underlying39 (by kernel_rfl) (by kernel_rfl) .i64 .i64 n n (by omega) (Int.le_refl _) (by show ((8 : Nat) : Int) * (n : Int) ≤ _; omega) (by omega)
  rw [this, Int.toNat_natCast]
  have e : madeCells (Value.agg Ct.zero.cells.toArray).cells (n * (Try.t24).size) = (flat (List.replicate n Ct.zero)).toArray := by
    apply Array.ext
    · rw [size_madeCells, List.size_toArray, flat_length, List.length_replicate]; rfl
    · intro i h1 h2
      rw [size_madeCells] at h1
      have h1' : i < n * 5 := h1
      have h3 := flat_get (List.replicate n Ct.zero) (i / 5) (by rw [List.length_replicate]; omega) (i % 5) (Nat.mod_lt _ (by decide))
      rw [show i / 5 * 5 + i % 5 = i from by omega, List.getElem_replicate] at h3
      have h4 : (madeCells (Value.agg Ct.zero.cells.toArray).cells (n * (Try.t24).size))[i]? = Ct.zero.cells[i % 5]? := by
        have h5 : i % 5 = 0 ∨ i % 5 = 1 ∨ i % 5 = 2 ∨ i % 5 = 3 ∨ i % 5 = 4 := by omega
        rw [Array.getElem?_eq_getElem (by rw [size_madeCells]; exact h1)]
        simp only [madeCells, Array.getElem_map, Array.getElem_range]
        show some (Ct.zero.cells.toArray[i % 5]!) = _
        rcases h5 with h | h | h | h | h <;> rw [h] <;> rfl
      rw [← h3, Array.getElem?_eq_getElem (by rw [size_madeCells]; exact h1), ← List.getElem?_toArray, Array.getElem?_eq_getElem h2] at h4
      exact Option.some.inj h4
  rw [e]

/-- A guarded load of a whole row, its guard true. -/
theorem wpList_load_row_g {P : Program} {ops : Array Oper} {rest : List Oper} {o : Oper} {a : Act} {w : World} {Q : Exit → Act → World → Prop} (hw : Region.wanted o (yielded ops a.tmps) = true) (ty : TypeId) (x : Operand) (ho : o.op = .load ty x)
    (g : Nat) (hx : a.eval x = .pointer (some ⟨g, 0, none⟩)) (t : TypeId) (cs : Array Value) (fr : Nat × Nat) (d : TypeDesc) (hg : w.heap[g]? = some (.cells cs t fr))
    (hu : P.underlying ty = some d) (hd : (match d with | .struct _ | .array _ _ => true | _ => false) = true) (hi : (P.info? ty).map (·.size) = some cs.size)
    (h : wpList P ops Q rest (a.put o.dst (.agg cs)) w) : wpList P ops Q (o :: rest) a w :=
  wpList_step fun K hK => by rw [if_pos hw]; exact wp_load_row ty x ho g hx t cs fr d hg hu hd hi (hK _ _ h)
theorem wpList_store_row {P : Program} {ops : Array Oper} {rest : List Oper} {op : Oper} {a : Act} {w : World} {Q : Exit → Act → World → Prop} (hgd : op.guard = none) (ty : TypeId) (x y : Operand) (ho : op.op = .store ty x y)
    (b : Nat) (cells old : Array Value) (t : TypeId) (hx : a.eval x = .pointer (some ⟨b, 0, none⟩)) (hy : a.eval y = .agg cells) (hg : w.heap[b]? = some (.cells old t (0, 0)))
    (hi : (P.info? ty).map (·.size) = some cells.size) (hsz : old.size = cells.size) (h1 : cells.all (·.oneCell') = true)
    (h : wpList P ops Q rest (a.put op.dst undef) (w.setRow b cells)) : wpList P ops Q (op :: rest) a w :=
  wpList_plain hgd fun _ hK => by
    unfold Oper.wp execOp
    simp only [ho, hx, hy, Instr.storeAt, Instr.sureAddr, Sem.run_bind, Sem.run_pure, Result.andThen_ok, run_storeVar_row w b t ty old cells hg hi hsz h1]
    exact hK _ _ h
/-- The same, the world behind it by its name. -/
theorem wpList_store_row' {P : Program} {ops : Array Oper} {rest : List Oper} {op : Oper} {a : Act} {w : World} {Q : Exit → Act → World → Prop} (hgd : op.guard = none) (ty : TypeId) (x y : Operand) (ho : op.op = .store ty x y)
    (b : Nat) (cells old : Array Value) (t : TypeId) (hx : a.eval x = .pointer (some ⟨b, 0, none⟩)) (hy : a.eval y = .agg cells) (hg : w.heap[b]? = some (.cells old t (0, 0)))
    (hi : (P.info? ty).map (·.size) = some cells.size) (hsz : old.size = cells.size) (h1 : cells.all (·.oneCell') = true) (w2 : World) (hw : Hid (w2 = w.setRow b cells))
    (h : wpList P ops Q rest (a.put op.dst undef) w2) : wpList P ops Q (op :: rest) a w :=
  wpList_store_row hgd ty x y ho b cells old t hx hy hg hi hsz h1 (hw.out ▸ h)
/-- The same, of a value written out. -/
theorem wpList_store_lit {P : Program} {ops : Array Oper} {rest : List Oper} {op : Oper} {a : Act} {w : World} {Q : Exit → Act → World → Prop} (hgd : op.guard = none) (ty : TypeId) (x y : Operand) (ho : op.op = .store ty x y)
    (b : Nat) (lit cells old : Array Value) (t : TypeId) (hx : a.eval x = .pointer (some ⟨b, 0, none⟩)) (hy : a.eval y = .agg lit) (hlit : lit = cells) (hg : w.heap[b]? = some (.cells old t (0, 0)))
    (hi : (P.info? ty).map (·.size) = some cells.size) (hsz : old.size = cells.size) (h1 : cells.all (·.oneCell') = true) (w2 : World) (hw : Hid (w2 = w.setRow b cells))
    (h : wpList P ops Q rest (a.put op.dst undef) w2) : wpList P ops Q (op :: rest) a w :=
  wpList_store_row' hgd ty x y ho b cells old t hx (hlit ▸ hy) hg hi hsz h1 w2 hw h
theorem below_setRow {B : Nat} {a w : World} (h : Below B a w) {b : Nat} (hb : B ≤ b) (cs : Array Value) : Below B a (w.setRow b cs) :=
  ⟨h.os, h.tape, h.output, by rw [size_setRow]; exact h.size, fun k hk => (setRow_other w b k cs (by omega)).trans (h.block k hk)⟩
theorem results_row_slots {P : Program} {fn : Func} {p q r : Tmp} {ty : TypeId} (h : fn.results = #[.cell p ty, .tmp q, .tmp r]) (tmps : Array Value) (w : World) (g : Nat) (t : TypeId) (cs : Array Value) (fr : Nat × Nat) (d : TypeDesc)
    (hp : tmps.getD p undef = .pointer (some ⟨g, 0, none⟩)) (hg : w.heap[g]? = some (.cells cs t fr))
    (hu : P.underlying ty = some d) (hd : (match d with | .struct _ | .array _ _ => true | _ => false) = true) (hi : (P.info? ty).map (·.size) = some cs.size) :
    (results fn tmps).run P w = .ok (.tuple #[.agg cs, tmps.getD q undef, tmps.getD r undef]) w := by
  have hp' : tmps[p]?.getD undef = .pointer (some ⟨g, 0, none⟩) := by simpa using hp
  simp [results, h, hp', asAddr, run_loadVar_row w g t ty cs fr d hg hu hd hi]
theorem five_other (w : World) (g h a b c d e : Nat) (v0 v1 v2 v3 v4 : Value) (hne : h ≠ g) :
    (((((w.setCell ⟨g, a, none⟩ v0).setCell ⟨g, b, none⟩ v1).setCell ⟨g, c, none⟩ v2).setCell ⟨g, d, none⟩ v3).setCell ⟨g, e, none⟩ v4).heap[h]? = w.heap[h]? := by
  rw [heap_setCell_other _ _ _ _ hne, heap_setCell_other _ _ _ _ hne, heap_setCell_other _ _ _ _ hne, heap_setCell_other _ _ _ _ hne, heap_setCell_other _ _ _ _ hne]
theorem five_below {B : Nat} {x w : World} (hb : Below B x w) (g a b c d e : Nat) (v0 v1 v2 v3 v4 : Value) (hg : B ≤ g) :
    Below B x (((((w.setCell ⟨g, a, none⟩ v0).setCell ⟨g, b, none⟩ v1).setCell ⟨g, c, none⟩ v2).setCell ⟨g, d, none⟩ v3).setCell ⟨g, e, none⟩ v4) :=
  ((((hb.setCell (p := ⟨g, a, none⟩) hg v0).setCell (p := ⟨g, b, none⟩) hg v1).setCell (p := ⟨g, c, none⟩) hg v2).setCell (p := ⟨g, d, none⟩) hg v3).setCell (p := ⟨g, e, none⟩) hg v4
theorem five_same {w : World} {g : Nat} {C : Array Value} {t : TypeId} (hg : w.heap[g]? = some (.cells C t (0, 0))) (a b c d e : Nat) (v0 v1 v2 v3 v4 : Value) :
    (((((w.setCell ⟨g, a, none⟩ v0).setCell ⟨g, b, none⟩ v1).setCell ⟨g, c, none⟩ v2).setCell ⟨g, d, none⟩ v3).setCell ⟨g, e, none⟩ v4).heap[g]? = some (.cells (((((C.setIfInBounds a v0).setIfInBounds b v1).setIfInBounds c v2).setIfInBounds d v3).setIfInBounds e v4) t (0, 0)) :=
  heap_setCell_same _ _ _ _ _ _ (heap_setCell_same _ _ _ _ _ _ (heap_setCell_same _ _ _ _ _ _ (heap_setCell_same _ _ _ _ _ _ (heap_setCell_same _ _ _ _ _ _ hg))))
theorem blk2 (w : World) (A B : Obj) : ((w.alloc A).alloc B).heap[w.heap.size]? = some A ∧ ((w.alloc A).alloc B).heap[w.heap.size + 1]? = some B := by
  have s1 : (w.alloc A).heap.size = w.heap.size + 1 := by simp
  refine ⟨?_, ?_⟩
  · rw [Below.heap_alloc _ _ _ (by omega), heap_alloc_new]
  · rw [← s1, heap_alloc_new]
theorem two {w w1 : World} {A B : Obj} (h : Below ((w.alloc A).alloc B).heap.size ((w.alloc A).alloc B) w1) :
    w1.heap[w.heap.size]? = some A ∧ w1.heap[w.heap.size + 1]? = some B ∧ Below w.heap.size w w1 ∧ w.heap.size + 2 ≤ w1.heap.size := by
  have s3 : ((w.alloc A).alloc B).heap.size = w.heap.size + 2 := by simp
  have hs := h.size
  obtain ⟨a, b⟩ := blk2 w A B
  exact ⟨(h.block _ (by omega)).trans a, (h.block _ (by omega)).trans b, (((Below.refl _ _).alloc (Nat.le_refl _) A).alloc (by simp) B).trans (h.mono (by omega)), by omega⟩
end Go.Proofs.Ytcobcefefifmcaa
