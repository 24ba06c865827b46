/- Orders in memory; orders, drives and small arrays that came in as arguments; a literal of three whole numbers. No statement of the seat is proved here. -/
import Derived.Test.YtmfinebkikhceaaRgEq
import Derived.Test.YtmfinebkikhceaaSlices
import Derived.Great.BuildSlice
namespace Go.Proofs.Ytmfinebkikhceaa
open Go.RowKit Go.ChangeShapes Go.WideShapes Go.Deep

/-- A command with a time. -/
structure Od where
  cm : Int
  ti : Int
def Od.cells (t : Od) : List Value := [.int .i64 t.cm, .int .i64 t.ti]
def Rg.cells (r : Rg) : List Value := [.int .i64 r.fl, .int .i64 r.tg, .int .i64 r.lf, .int .i64 r.dd, .int .i64 r.am, .int .i64 r.tk]
def flatO (l : List Od) : List Value := l.flatMap Od.cells
theorem flatO_nil : flatO [] = [] := rfl
theorem flatO_cons (c : Od) (l : List Od) : flatO (c :: l) = c.cells ++ flatO l := rfl
theorem flatO_append (l m : List Od) : flatO (l ++ m) = flatO l ++ flatO m := by unfold flatO; rw [List.flatMap_append]
theorem flatO_snoc (l : List Od) (c : Od) : flatO (l ++ [c]) = flatO l ++ c.cells := by rw [flatO_append, flatO_cons, flatO_nil, List.append_nil]
theorem flatO_length (l : List Od) : (flatO l).length = l.length * 2 := by
  induction l with
  | nil => rfl
  | cons c l ih => rw [flatO_cons, List.length_append, ih, List.length_cons]; show 2 + _ = _; omega
theorem flatO_get : ∀ (l : List Od) (i : Nat) (h : i < l.length) (j : Nat), j < 2 → (flatO l)[i * 2 + j]? = (l[i]).cells[j]?
  | c :: l, 0, _, j, hj => by
    rw [flatO_cons, Nat.zero_mul, Nat.zero_add, List.getElem?_append_left (by show j < 2; exact hj)]; rfl
  | c :: l, i + 1, h, j, hj => by
    rw [flatO_cons, List.getElem?_append_right (by show 2 ≤ _; omega), show (i + 1) * 2 + j - c.cells.length = i * 2 + j from by show (i + 1) * 2 + j - 2 = _; omega]
    exact flatO_get l i (by simpa using h) j hj
/-- A list of these at an address, and as a slice. -/
def OAt (w : World) (A : Option Addr) (l : List Od) : Prop := l = [] ∨ ∃ b off, A = some ⟨b, off, none⟩ ∧ w.rangeAt b off (flatO l)
def OV (w : World) (v : Value) (l : List Od) : Prop := ∃ A cap, v = .slice A l.length cap ∧ OAt w A l
theorem OAt.below {w w' : World} {A : Option Addr} {l : List Od} (h : OAt w A l) (hb : RowKit.Below w.heap.size w w') : OAt w' A l := by
  rcases h with h | ⟨b, off, hA, hr⟩
  · exact .inl h
  · exact .inr ⟨b, off, hA, fun j v hv => (hb.cell (World.block_lt_of_cell? w _ (hr j v hv))).trans (hr j v hv)⟩
theorem OV.below {w w' : World} {v : Value} {l : List Od} (h : OV w v l) (hb : RowKit.Below w.heap.size w w') : OV w' v l := by
  obtain ⟨A, cap, hv, hA⟩ := h
  exact ⟨A, cap, hv, hA.below hb⟩
theorem OAt.at_ {w : World} {A : Option Addr} {l : List Od} (h : OAt w A l) {k : Nat} (hk : k < l.length) :
    ∃ b off, A = some ⟨b, off, none⟩ ∧ b < w.heap.size ∧ w.cell? ⟨b, off + k * 2, none⟩ = some (.int .i64 (l[k]).cm) ∧ w.cell? ⟨b, off + k * 2 + 1, none⟩ = some (.int .i64 (l[k]).ti) := by
  rcases h with h | ⟨b, off, hA, hr⟩
  · rw [h] at hk; simp at hk
  · have hc := fun j v (hj : j < 2) (e : (l[k]).cells[j]? = some v) => hr (k * 2 + j) v ((flatO_get l k hk j hj).trans e)
    have h0 := hc 0 _ (by omega) rfl
    refine ⟨b, off, hA, World.block_lt_of_cell? w _ h0, h0, hc 1 _ (by omega) rfl⟩
theorem wpList_ints3 {z0 z1 z2 : Int} {ops : Array Oper} {rest : List Oper} {o : Oper} {a : Act} {w : World} {Q : Exit → Act → World → Prop} (hg : o.guard = none) (ho : o.op = .buildSlice 37 3 #[(0, .const (.int .i64 z0)), (1, .const (.int .i64 z1)), (2, .const (.int .i64 z2))])
    (h : wpList Try.prog ops Q rest (a.put o.dst (.slice (some ⟨w.heap.size, 0, none⟩) 3 3)) (w.alloc (.cells #[.int .i64 z0, .int .i64 z1, .int .i64 z2] 3))) : wpList Try.prog ops Q (o :: rest) a w := by
  obtain ⟨i, hi, hz, hsz, _⟩ := info_parts (show (Try.prog.info? 3).map (fun i => (i.zero, i.size, i.bytes)) = some (some (.int .i64 0), 1, 8) by kernel_rfl)
  refine wpList_buildSlice hg 37 3 3 _ ho #[.int .i64 z0, .int .i64 z1, .int .i64 z2] i _ Try.underlying37 hi hz (by rw [hsz]; decide) (by rw [hsz]; decide) ?_ h
  rw [hsz]
  have e : ((#[(0, Operand.const (.int .i64 z0)), (1, .const (.int .i64 z1)), (2, .const (.int .i64 z2))] : Array (Nat × Operand)).map fun (i, x) => (i, a.eval x)).toList = [(0, .int .i64 z0), (1, .int .i64 z1), (2, .int .i64 z2)] := by simp [Act.eval]
  have er : Array.range (3 * 1) = #[0, 1, 2] := by decide
  rw [e, er]
  simp [Instr.fill, Value.cells]
section
variable {H : Type} {enc : TypeId × Value → H} {w : World} {base : Nat} {spare : Nat → Bool} {held : Bool}
theorem trod_od {fuel : Nat} {cs : List Value} {x : DataW H × List MemPlace} (h : DataW.trod enc Try.prog w base spare held fuel 30 cs = some x) : ∃ c : Od, cs = c.cells := by
  obtain ⟨xs, n, _, _, hlen, hxl, hg⟩ := DataW.trod_struct Try.underlying30 h
  have hC : Try.prog.cellsOf 30 = 2 := by kernel_rfl
  have hkint : Try.prog.cellsOf 3 = 1 := by kernel_rfl
  rw [hC] at hlen
  match cs, hlen with
  | [c0, c1], _ =>
    have hyl : xs.length = 2 := by rw [hxl]; rfl
    have at_ : ∀ j, j < 2 → ∃ y, xs[j]? = some y := fun j hj => ⟨_, List.getElem?_eq_getElem (by omega)⟩
    obtain ⟨y0, e0⟩ := at_ 0 (by omega)
    obtain ⟨y1, e1⟩ := at_ 1 (by omega)
    have i0 := (hg 0 _ rfl).trans e0
    have i1 := (hg 1 _ rfl).trans e1
    simp [hkint] at i0 i1
    obtain ⟨z0, a0, _, wf0⟩ := DataW.trod_int Try.underlying3 i0
    obtain ⟨z1, a1, _, wf1⟩ := DataW.trod_int Try.underlying3 i1
    simp only [List.cons.injEq, and_true] at a0 a1
    subst a0 a1
    exact ⟨⟨z0, z1⟩, rfl⟩

theorem trod_rg {fuel : Nat} {cs : List Value} {x : DataW H × List MemPlace} (h : DataW.trod enc Try.prog w base spare held fuel 23 cs = some x) : ∃ c : Rg, cs = c.cells := by
  obtain ⟨xs, n, _, _, hlen, hxl, hg⟩ := DataW.trod_struct Try.underlying23 h
  have hC : Try.prog.cellsOf 23 = 6 := by kernel_rfl
  have hkint : Try.prog.cellsOf 3 = 1 := by kernel_rfl
  rw [hC] at hlen
  match cs, hlen with
  | [c0, c1, c2, c3, c4, c5], _ =>
    have hyl : xs.length = 6 := by rw [hxl]; rfl
    have at_ : ∀ j, j < 6 → ∃ y, xs[j]? = some y := fun j hj => ⟨_, List.getElem?_eq_getElem (by omega)⟩
    obtain ⟨y0, e0⟩ := at_ 0 (by omega)
    obtain ⟨y1, e1⟩ := at_ 1 (by omega)
    obtain ⟨y2, e2⟩ := at_ 2 (by omega)
    obtain ⟨y3, e3⟩ := at_ 3 (by omega)
    obtain ⟨y4, e4⟩ := at_ 4 (by omega)
    obtain ⟨y5, e5⟩ := at_ 5 (by omega)
    have i0 := (hg 0 _ rfl).trans e0
    have i1 := (hg 1 _ rfl).trans e1
    have i2 := (hg 2 _ rfl).trans e2
    have i3 := (hg 3 _ rfl).trans e3
    have i4 := (hg 4 _ rfl).trans e4
    have i5 := (hg 5 _ rfl).trans e5
    simp [hkint] at i0 i1 i2 i3 i4 i5
    obtain ⟨z0, a0, _, wf0⟩ := DataW.trod_int Try.underlying3 i0
    obtain ⟨z1, a1, _, wf1⟩ := DataW.trod_int Try.underlying3 i1
    obtain ⟨z2, a2, _, wf2⟩ := DataW.trod_int Try.underlying3 i2
    obtain ⟨z3, a3, _, wf3⟩ := DataW.trod_int Try.underlying3 i3
    obtain ⟨z4, a4, _, wf4⟩ := DataW.trod_int Try.underlying3 i4
    obtain ⟨z5, a5, _, wf5⟩ := DataW.trod_int Try.underlying3 i5
    simp only [List.cons.injEq, and_true] at a0 a1 a2 a3 a4 a5
    subst a0 a1 a2 a3 a4 a5
    exact ⟨⟨z0, z1, z2, z3, z4, z5⟩, rfl⟩
theorem open_rg {r : Reach} {b0 : Nat} {v : Value} {d : DataW H} {p : List MemPlace} (hv : Value.okWide Try.prog w r b0 23 v) (h : DataW.Trod enc Try.prog w base spare held 23 v d p) : ∃ c : Rg, v = c.agg := by
  obtain ⟨cs, rfl, hsz⟩ := okWide_struct Try.underlying23 hv
  obtain ⟨fuel, hf⟩ := h
  obtain ⟨c, hc⟩ := trod_rg hf
  refine ⟨c, ?_⟩
  have : cs = c.cells.toArray := by rw [← hc]; simp [Value.cells]
  rw [this]; rfl
theorem open_ods {fuel : Nat} {v : Value} {x : DataW H × List MemPlace} (h : DataW.trod enc Try.prog w base spare held fuel 24 [v] = some x) : ∃ l : List Od, OV w v l ∧ l.length ≤ maxLen := by
  rcases open_slice Try.underlying24 h with ⟨hcs, _⟩ | ⟨a, len, cap, m, n, D, Pl, hcs, _, hl, hm, hmm, _, hi⟩
  · simp only [List.cons.injEq, and_true] at hcs
    exact ⟨[], ⟨none, 0, hcs, .inl rfl⟩, by simp [maxLen]⟩
  · simp only [List.cons.injEq, and_true] at hcs
    subst hcs
    have hC : Try.prog.cellsOf 30 = 2 := by kernel_rfl
    have hml : len ≤ m := by rw [hmm]; split <;> omega
    obtain ⟨l, hll, hp⟩ := list_ofCt (fun i (c : Od) => ∀ j v, c.cells[j]? = some v → w.cell? (a.add (i * 2 + j)) = some v) len (fun i hil => by
      obtain ⟨cs', hc, ht⟩ := hi i (by omega)
      rw [hC] at hc
      obtain ⟨c, hcc⟩ := trod_od ht
      obtain ⟨_, hcl, hat⟩ := World.cells?_some hc
      refine ⟨c, fun j v hv => ?_⟩
      have hj : j < 2 := by
        rcases Nat.lt_or_ge j 2 with h | h
        · exact h
        · rw [List.getElem?_eq_none (by show 2 ≤ j; exact h)] at hv; cases hv
      rw [← Go.Deep.add_add, hat j hj, hcc]; exact hv)
    refine ⟨l, ⟨some a, cap, by rw [hll], ?_⟩, by omega⟩
    · rcases Nat.eq_zero_or_pos len with h0 | h0
      · exact .inl (List.eq_nil_of_length_eq_zero (by omega))
      · obtain ⟨b, off, spot⟩ := a
        have hfirst := (hp 0 (by omega)) 0 _ rfl
        have hsp : spot = none := by
          cases spot with
          | none => rfl
          | some s =>
            simp only [Nat.zero_mul, Nat.add_zero, Addr.add, if_true] at hfirst
            unfold World.cell? at hfirst
            split at hfirst <;> simp at hfirst
        subst hsp
        refine .inr ⟨b, off, rfl, fun j v hv => ?_⟩
        have hj : j < l.length * 2 := by
          rcases Nat.lt_or_ge j (l.length * 2) with h | h
          · exact h
          · rw [List.getElem?_eq_none (by rw [flatO_length]; exact h)] at hv; cases hv
        have hg := flatO_get l (j / 2) (by omega) (j % 2) (Nat.mod_lt _ (by decide))
        rw [show j / 2 * 2 + j % 2 = j from by omega, hv] at hg
        have := (hp (j / 2) (by omega)) (j % 2) v hg.symm
        rw [show j / 2 * 2 + j % 2 = j from by omega] at this
        rw [← Addr.add_mid b off j]
        exact this

theorem open_au8_2 {r : Reach} {b0 : Nat} {v : Value} {d : DataW H} {p : List MemPlace} (hv : Value.okWide Try.prog w r b0 36 v) (h : DataW.Trod enc Try.prog w base spare held 36 v d p) :
    ∃ x y : Int, v = .agg #[.int .u8 x, .int .u8 y] ∧ (Lit.int .u8 x).wf = true ∧ (Lit.int .u8 y).wf = true := by
  have hcs : ∃ cs, v = .agg cs ∧ cs.size = Try.prog.cellsOf 36 := by
    simp only [Value.okWide, Try.underlying36] at hv
    obtain ⟨cs, h1, h2, _⟩ := hv
    exact ⟨cs, h1, h2⟩
  obtain ⟨⟨l⟩, rfl, hsz⟩ := hcs
  obtain ⟨fuel, hf⟩ := h
  obtain ⟨ys, hl, hcs, _, hw⟩ := trod_ints Try.underlying36 Try.underlying5 (by kernel_rfl) (by kernel_rfl) hf
  match ys, hl with
  | [x, y], _ =>
    refine ⟨x, y, ?_, hw x (by simp), hw y (by simp)⟩
    have : l = [.int .u8 x, .int .u8 y] := by simpa [Value.cells] using hcs
    rw [this]
end
end Go.Proofs.Ytmfinebkikhceaa
