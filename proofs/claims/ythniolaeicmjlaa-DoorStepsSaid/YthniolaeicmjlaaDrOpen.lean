/- Ticks of doors in memory; cars, doors' states, ticks and small arrays that came in as arguments. No statement of the seat is proved here. -/
import Derived.Test.YthniolaeicmjlaaDrMath
import Derived.Test.YthniolaeicmjlaaSlices
namespace Go.Proofs.Ythniolaeicmjlaa
open Go.RowKit Go.ChangeShapes Go.WideShapes Go.Deep

/-- What a door reports in a tick. -/
structure Tk where
  dd : Int
  bl : Bool
  wt : Bool
def Tk.cells (t : Tk) : List Value := [.int .i64 t.dd, .bool t.bl, .bool t.wt]
def Tk.agg (t : Tk) : Value := .agg t.cells.toArray
def CarD.cells (c : CarD) : List Value := [.int .i64 c.deadline, .int .i64 c.pulse, .int .i64 c.quiet, .int .i64 c.slack, .int .i64 c.step, .int .i64 c.travel, .int .i64 c.dwell, .int .i64 c.hold, .int .i64 c.home]
def CarD.ag (c : CarD) : Value := .agg c.cells.toArray
def Dr.ag (c : Dr) : Value := .agg c.cells.toArray
def flatT (l : List Tk) : List Value := l.flatMap Tk.cells
theorem flatT_nil : flatT [] = [] := rfl
theorem flatT_cons (c : Tk) (l : List Tk) : flatT (c :: l) = c.cells ++ flatT l := rfl
theorem flatT_append (l m : List Tk) : flatT (l ++ m) = flatT l ++ flatT m := by unfold flatT; rw [List.flatMap_append]
theorem flatT_snoc (l : List Tk) (c : Tk) : flatT (l ++ [c]) = flatT l ++ c.cells := by rw [flatT_append, flatT_cons, flatT_nil, List.append_nil]
theorem flatT_length (l : List Tk) : (flatT l).length = l.length * 3 := by
  induction l with
  | nil => rfl
  | cons c l ih => rw [flatT_cons, List.length_append, ih, List.length_cons]; show 3 + _ = _; omega
theorem flatT_get : ∀ (l : List Tk) (i : Nat) (h : i < l.length) (j : Nat), j < 3 → (flatT l)[i * 3 + j]? = (l[i]).cells[j]?
  | c :: l, 0, _, j, hj => by
    rw [flatT_cons, Nat.zero_mul, Nat.zero_add, List.getElem?_append_left (by show j < 3; exact hj)]; rfl
  | c :: l, i + 1, h, j, hj => by
    rw [flatT_cons, List.getElem?_append_right (by show 3 ≤ _; omega), show (i + 1) * 3 + j - c.cells.length = i * 3 + j from by show (i + 1) * 3 + j - 3 = _; omega]
    exact flatT_get l i (by simpa using h) j hj
/-- A list of these at an address, and as a slice. -/
def TAt (w : World) (A : Option Addr) (l : List Tk) : Prop := l = [] ∨ ∃ b off, A = some ⟨b, off, none⟩ ∧ w.rangeAt b off (flatT l)
def TV (w : World) (v : Value) (l : List Tk) : Prop := ∃ A cap, v = .slice A l.length cap ∧ TAt w A l
theorem TAt.below {w w' : World} {A : Option Addr} {l : List Tk} (h : TAt w A l) (hb : RowKit.Below w.heap.size w w') : TAt w' A l := by
  rcases h with h | ⟨b, off, hA, hr⟩
  · exact .inl h
  · exact .inr ⟨b, off, hA, fun j v hv => (hb.cell (World.block_lt_of_cell? w _ (hr j v hv))).trans (hr j v hv)⟩
theorem TV.below {w w' : World} {v : Value} {l : List Tk} (h : TV w v l) (hb : RowKit.Below w.heap.size w w') : TV w' v l := by
  obtain ⟨A, cap, hv, hA⟩ := h
  exact ⟨A, cap, hv, hA.below hb⟩
theorem TAt.at_ {w : World} {A : Option Addr} {l : List Tk} (h : TAt w A l) {k : Nat} (hk : k < l.length) :
    ∃ b off, A = some ⟨b, off, none⟩ ∧ b < w.heap.size ∧ w.cell? ⟨b, off + k * 3, none⟩ = some (.int .i64 (l[k]).dd) ∧ w.cell? ⟨b, off + k * 3 + 1, none⟩ = some (.bool (l[k]).bl) ∧ w.cell? ⟨b, off + k * 3 + 2, none⟩ = some (.bool (l[k]).wt) := by
  rcases h with h | ⟨b, off, hA, hr⟩
  · rw [h] at hk; simp at hk
  · have hc := fun j v (hj : j < 3) (e : (l[k]).cells[j]? = some v) => hr (k * 3 + j) v ((flatT_get l k hk j hj).trans e)
    have h0 := hc 0 _ (by omega) rfl
    refine ⟨b, off, hA, World.block_lt_of_cell? w _ h0, h0, hc 1 _ (by omega) rfl, hc 2 _ (by omega) rfl⟩

section
variable {H : Type} {enc : TypeId × Value → H} {w : World} {base : Nat} {spare : Nat → Bool} {held : Bool}
theorem trod_tk {fuel : Nat} {cs : List Value} {x : DataW H × List MemPlace} (h : DataW.trod enc Try.prog w base spare held fuel 27 cs = some x) : ∃ c : Tk, cs = c.cells := by
  obtain ⟨xs, n, _, _, hlen, hxl, hg⟩ := DataW.trod_struct Try.underlying27 h
  have hC : Try.prog.cellsOf 27 = 3 := by kernel_rfl
  have hkbool : Try.prog.cellsOf 4 = 1 := by kernel_rfl
  have hkint : Try.prog.cellsOf 3 = 1 := by kernel_rfl
  rw [hC] at hlen
  match cs, hlen with
  | [c0, c1, c2], _ =>
    have hyl : xs.length = 3 := by rw [hxl]; rfl
    have at_ : ∀ j, j < 3 → ∃ y, xs[j]? = some y := fun j hj => ⟨_, List.getElem?_eq_getElem (by omega)⟩
    obtain ⟨y0, e0⟩ := at_ 0 (by omega)
    obtain ⟨y1, e1⟩ := at_ 1 (by omega)
    obtain ⟨y2, e2⟩ := at_ 2 (by omega)
    have i0 := (hg 0 _ rfl).trans e0
    have i1 := (hg 1 _ rfl).trans e1
    have i2 := (hg 2 _ rfl).trans e2
    simp [hkbool, hkint] at i0 i1 i2
    obtain ⟨z0, a0, _, wf0⟩ := DataW.trod_int Try.underlying3 i0
    obtain ⟨z1, a1, _⟩ := DataW.trod_bool Try.underlying4 i1
    obtain ⟨z2, a2, _⟩ := DataW.trod_bool Try.underlying4 i2
    simp only [List.cons.injEq, and_true] at a0 a1 a2
    subst a0 a1 a2
    exact ⟨⟨z0, z1, z2⟩, rfl⟩
theorem open_tk {r : Reach} {b0 : Nat} {v : Value} {d : DataW H} {p : List MemPlace} (hv : Value.okWide Try.prog w r b0 27 v) (h : DataW.Trod enc Try.prog w base spare held 27 v d p) : ∃ c : Tk, v = c.agg := by
  obtain ⟨cs, rfl, hsz⟩ := okWide_struct Try.underlying27 hv
  obtain ⟨fuel, hf⟩ := h
  obtain ⟨c, hc⟩ := trod_tk hf
  refine ⟨c, ?_⟩
  have : cs = c.cells.toArray := by rw [← hc]; simp [Value.cells]
  rw [this]; rfl
theorem trod_car {fuel : Nat} {cs : List Value} {x : DataW H × List MemPlace} (h : DataW.trod enc Try.prog w base spare held fuel 23 cs = some x) : ∃ c : CarD, cs = c.cells := by
  obtain ⟨xs, n, _, _, hlen, hxl, hg⟩ := DataW.trod_struct Try.underlying23 h
  have hC : Try.prog.cellsOf 23 = 9 := by kernel_rfl
  have hkint : Try.prog.cellsOf 3 = 1 := by kernel_rfl
  rw [hC] at hlen
  match cs, hlen with
  | [c0, c1, c2, c3, c4, c5, c6, c7, c8], _ =>
    have hyl : xs.length = 9 := by rw [hxl]; rfl
    have at_ : ∀ j, j < 9 → ∃ y, xs[j]? = some y := fun j hj => ⟨_, List.getElem?_eq_getElem (by omega)⟩
    obtain ⟨y0, e0⟩ := at_ 0 (by omega)
    obtain ⟨y1, e1⟩ := at_ 1 (by omega)
    obtain ⟨y2, e2⟩ := at_ 2 (by omega)
    obtain ⟨y3, e3⟩ := at_ 3 (by omega)
    obtain ⟨y4, e4⟩ := at_ 4 (by omega)
    obtain ⟨y5, e5⟩ := at_ 5 (by omega)
    obtain ⟨y6, e6⟩ := at_ 6 (by omega)
    obtain ⟨y7, e7⟩ := at_ 7 (by omega)
    obtain ⟨y8, e8⟩ := at_ 8 (by omega)
    have i0 := (hg 0 _ rfl).trans e0
    have i1 := (hg 1 _ rfl).trans e1
    have i2 := (hg 2 _ rfl).trans e2
    have i3 := (hg 3 _ rfl).trans e3
    have i4 := (hg 4 _ rfl).trans e4
    have i5 := (hg 5 _ rfl).trans e5
    have i6 := (hg 6 _ rfl).trans e6
    have i7 := (hg 7 _ rfl).trans e7
    have i8 := (hg 8 _ rfl).trans e8
    simp [hkint] at i0 i1 i2 i3 i4 i5 i6 i7 i8
    obtain ⟨z0, a0, _, wf0⟩ := DataW.trod_int Try.underlying3 i0
    obtain ⟨z1, a1, _, wf1⟩ := DataW.trod_int Try.underlying3 i1
    obtain ⟨z2, a2, _, wf2⟩ := DataW.trod_int Try.underlying3 i2
    obtain ⟨z3, a3, _, wf3⟩ := DataW.trod_int Try.underlying3 i3
    obtain ⟨z4, a4, _, wf4⟩ := DataW.trod_int Try.underlying3 i4
    obtain ⟨z5, a5, _, wf5⟩ := DataW.trod_int Try.underlying3 i5
    obtain ⟨z6, a6, _, wf6⟩ := DataW.trod_int Try.underlying3 i6
    obtain ⟨z7, a7, _, wf7⟩ := DataW.trod_int Try.underlying3 i7
    obtain ⟨z8, a8, _, wf8⟩ := DataW.trod_int Try.underlying3 i8
    simp only [List.cons.injEq, and_true] at a0 a1 a2 a3 a4 a5 a6 a7 a8
    subst a0 a1 a2 a3 a4 a5 a6 a7 a8
    exact ⟨⟨z0, z1, z2, z3, z4, z5, z6, z7, z8⟩, rfl⟩
theorem open_car {r : Reach} {b0 : Nat} {v : Value} {d : DataW H} {p : List MemPlace} (hv : Value.okWide Try.prog w r b0 23 v) (h : DataW.Trod enc Try.prog w base spare held 23 v d p) : ∃ c : CarD, v = c.ag := by
  obtain ⟨cs, rfl, hsz⟩ := okWide_struct Try.underlying23 hv
  obtain ⟨fuel, hf⟩ := h
  obtain ⟨c, hc⟩ := trod_car hf
  refine ⟨c, ?_⟩
  have : cs = c.cells.toArray := by rw [← hc]; simp [Value.cells]
  rw [this]; rfl
theorem trod_dr {fuel : Nat} {cs : List Value} {x : DataW H × List MemPlace} (h : DataW.trod enc Try.prog w base spare held fuel 25 cs = some x) : ∃ c : Dr, cs = c.cells := by
  obtain ⟨xs, n, _, _, hlen, hxl, hg⟩ := DataW.trod_struct Try.underlying25 h
  have hC : Try.prog.cellsOf 25 = 5 := by kernel_rfl
  have hkbool : Try.prog.cellsOf 4 = 1 := by kernel_rfl
  have hkint : Try.prog.cellsOf 3 = 1 := by kernel_rfl
  rw [hC] at hlen
  match cs, hlen with
  | [c0, c1, c2, c3, c4], _ =>
    have hyl : xs.length = 5 := by rw [hxl]; rfl
    have at_ : ∀ j, j < 5 → ∃ y, xs[j]? = some y := fun j hj => ⟨_, List.getElem?_eq_getElem (by omega)⟩
    obtain ⟨y0, e0⟩ := at_ 0 (by omega)
    obtain ⟨y1, e1⟩ := at_ 1 (by omega)
    obtain ⟨y2, e2⟩ := at_ 2 (by omega)
    obtain ⟨y3, e3⟩ := at_ 3 (by omega)
    obtain ⟨y4, e4⟩ := at_ 4 (by omega)
    have i0 := (hg 0 _ rfl).trans e0
    have i1 := (hg 1 _ rfl).trans e1
    have i2 := (hg 2 _ rfl).trans e2
    have i3 := (hg 3 _ rfl).trans e3
    have i4 := (hg 4 _ rfl).trans e4
    simp [hkbool, hkint] at i0 i1 i2 i3 i4
    obtain ⟨z0, a0, _, wf0⟩ := DataW.trod_int Try.underlying3 i0
    obtain ⟨z1, a1, _, wf1⟩ := DataW.trod_int Try.underlying3 i1
    obtain ⟨z2, a2, _, wf2⟩ := DataW.trod_int Try.underlying3 i2
    obtain ⟨z3, a3, _⟩ := DataW.trod_bool Try.underlying4 i3
    obtain ⟨z4, a4, _, wf4⟩ := DataW.trod_int Try.underlying3 i4
    simp only [List.cons.injEq, and_true] at a0 a1 a2 a3 a4
    subst a0 a1 a2 a3 a4
    exact ⟨⟨z0, z1, z2, z3, z4⟩, rfl⟩
theorem open_dr {r : Reach} {b0 : Nat} {v : Value} {d : DataW H} {p : List MemPlace} (hv : Value.okWide Try.prog w r b0 25 v) (h : DataW.Trod enc Try.prog w base spare held 25 v d p) : ∃ c : Dr, v = c.ag := by
  obtain ⟨cs, rfl, hsz⟩ := okWide_struct Try.underlying25 hv
  obtain ⟨fuel, hf⟩ := h
  obtain ⟨c, hc⟩ := trod_dr hf
  refine ⟨c, ?_⟩
  have : cs = c.cells.toArray := by rw [← hc]; simp [Value.cells]
  rw [this]; rfl
theorem open_tks {fuel : Nat} {v : Value} {x : DataW H × List MemPlace} (h : DataW.trod enc Try.prog w base spare held fuel 35 [v] = some x) : ∃ l : List Tk, TV w v l ∧ l.length ≤ maxLen := by
  rcases open_slice Try.underlying35 h with ⟨hcs, _⟩ | ⟨a, len, cap, m, n, D, Pl, hcs, _, hl, hm, hmm, _, hi⟩
  · simp only [List.cons.injEq, and_true] at hcs
    exact ⟨[], ⟨none, 0, hcs, .inl rfl⟩, by simp [maxLen]⟩
  · simp only [List.cons.injEq, and_true] at hcs
    subst hcs
    have hC : Try.prog.cellsOf 27 = 3 := by kernel_rfl
    have hml : len ≤ m := by rw [hmm]; split <;> omega
    obtain ⟨l, hll, hp⟩ := list_ofCt (fun i (c : Tk) => ∀ j v, c.cells[j]? = some v → w.cell? (a.add (i * 3 + j)) = some v) len (fun i hil => by
      obtain ⟨cs', hc, ht⟩ := hi i (by omega)
      rw [hC] at hc
      obtain ⟨c, hcc⟩ := trod_tk ht
      obtain ⟨_, hcl, hat⟩ := World.cells?_some hc
      refine ⟨c, fun j v hv => ?_⟩
      have hj : j < 3 := by
        rcases Nat.lt_or_ge j 3 with h | h
        · exact h
        · rw [List.getElem?_eq_none (by show 3 ≤ j; exact h)] at hv; cases hv
      rw [← Go.Deep.add_add, hat j hj, hcc]; exact hv)
    refine ⟨l, ⟨some a, cap, by rw [hll], ?_⟩, by omega⟩
    · rcases Nat.eq_zero_or_pos len with h0 | h0
      · exact .inl (List.eq_nil_of_length_eq_zero (by omega))
      · obtain ⟨b, off, spot⟩ := a
        have hfirst := (hp 0 (by omega)) 0 _ rfl
        have hsp : spot = none := by
          cases spot with
          | none => rfl
          | some s =>
            simp only [Nat.zero_mul, Nat.add_zero, Addr.add, if_true] at hfirst
            unfold World.cell? at hfirst
            split at hfirst <;> simp at hfirst
        subst hsp
        refine .inr ⟨b, off, rfl, fun j v hv => ?_⟩
        have hj : j < l.length * 3 := by
          rcases Nat.lt_or_ge j (l.length * 3) with h | h
          · exact h
          · rw [List.getElem?_eq_none (by rw [flatT_length]; exact h)] at hv; cases hv
        have hg := flatT_get l (j / 3) (by omega) (j % 3) (Nat.mod_lt _ (by decide))
        rw [show j / 3 * 3 + j % 3 = j from by omega, hv] at hg
        have := (hp (j / 3) (by omega)) (j % 3) v hg.symm
        rw [show j / 3 * 3 + j % 3 = j from by omega] at this
        rw [← Addr.add_mid b off j]
        exact this

theorem open_au8_2 {r : Reach} {b0 : Nat} {v : Value} {d : DataW H} {p : List MemPlace} (hv : Value.okWide Try.prog w r b0 41 v) (h : DataW.Trod enc Try.prog w base spare held 41 v d p) :
    ∃ x y : Int, v = .agg #[.int .u8 x, .int .u8 y] ∧ (Lit.int .u8 x).wf = true ∧ (Lit.int .u8 y).wf = true := by
  have hcs : ∃ cs, v = .agg cs ∧ cs.size = Try.prog.cellsOf 41 := by
    simp only [Value.okWide, Try.underlying41] at hv
    obtain ⟨cs, h1, h2, _⟩ := hv
    exact ⟨cs, h1, h2⟩
  obtain ⟨⟨l⟩, rfl, hsz⟩ := hcs
  obtain ⟨fuel, hf⟩ := h
  obtain ⟨ys, hl, hcs, _, hw⟩ := trod_ints Try.underlying41 Try.underlying5 (by kernel_rfl) (by kernel_rfl) hf
  match ys, hl with
  | [x, y], _ =>
    refine ⟨x, y, ?_, hw x (by simp), hw y (by simp)⟩
    have : l = [.int .u8 x, .int .u8 y] := by simpa [Value.cells] using hcs
    rw [this]
end
end Go.Proofs.Ythniolaeicmjlaa
