/- Motions, reports, cars and cases that came in as arguments; the listed table. No statement of the seat is proved here. -/
import Derived.Test.YtcbmpcnanknncaaDoorMoTabs
import Derived.Test.YtcbmpcnanknncaaDoorSlices
import Derived.ChangeVars
import Derived.LaidMore
import Derived.LaidLaws
import Derived.Stop.Joined
import Derived.SevenTiedAt
namespace Go.Proofs.YtcbmpcnanknncaaDoor
open Go.RowKit Go.ChangeShapes Go.WideShapes Go.Deep

/-- What a car reports in a tick, as far as motion is concerned; a case. -/
structure Fb where
  fl : Int
  lv : Bool
  dr : Int
  bk : Bool
structure Cse where
  fb : Fb
  wt : Int
  cr : CarD
def Fb.cells (t : Fb) : List Value := [.int .i64 t.fl, .bool t.lv, .int .i64 t.dr, .bool t.bk]
def CarD.cells (c : CarD) : List Value := [.int .i64 c.deadline, .int .i64 c.pulse, .int .i64 c.quiet, .int .i64 c.slack, .int .i64 c.step, .int .i64 c.travel, .int .i64 c.dwell, .int .i64 c.hold, .int .i64 c.home]
def CarD.ag (c : CarD) : Value := .agg c.cells.toArray
def Fb.ag (c : Fb) : Value := .agg c.cells.toArray
def Cse.cells (c : Cse) : List Value := c.fb.cells ++ .int .i64 c.wt :: c.cr.cells
def Cse.ag (c : Cse) : Value := .agg c.cells.toArray
section
variable {H : Type} {enc : TypeId × Value → H} {w : World} {base : Nat} {spare : Nat → Bool} {held : Bool}
theorem trod_fb {fuel : Nat} {cs : List Value} {x : DataW H × List MemPlace} (h : DataW.trod enc Tryd.prog w base spare held fuel 25 cs = some x) : ∃ c : Fb, cs = c.cells := by
  obtain ⟨xs, n, _, _, hlen, hxl, hg⟩ := DataW.trod_struct Tryd.underlying25 h
  have hC : Tryd.prog.cellsOf 25 = 4 := by kernel_rfl
  have hkbool : Tryd.prog.cellsOf 4 = 1 := by kernel_rfl
  have hkint : Tryd.prog.cellsOf 3 = 1 := by kernel_rfl
  rw [hC] at hlen
  match cs, hlen with
  | [c0, c1, c2, c3], _ =>
    have hyl : xs.length = 4 := by rw [hxl]; rfl
    have at_ : ∀ j, j < 4 → ∃ y, xs[j]? = some y := fun j hj => ⟨_, List.getElem?_eq_getElem (by omega)⟩
    obtain ⟨y0, e0⟩ := at_ 0 (by omega)
    obtain ⟨y1, e1⟩ := at_ 1 (by omega)
    obtain ⟨y2, e2⟩ := at_ 2 (by omega)
    obtain ⟨y3, e3⟩ := at_ 3 (by omega)
    have i0 := (hg 0 _ rfl).trans e0
    have i1 := (hg 1 _ rfl).trans e1
    have i2 := (hg 2 _ rfl).trans e2
    have i3 := (hg 3 _ rfl).trans e3
    simp [hkbool, hkint] at i0 i1 i2 i3
    obtain ⟨z0, a0, _, wf0⟩ := DataW.trod_int Tryd.underlying3 i0
    obtain ⟨z1, a1, _⟩ := DataW.trod_bool Tryd.underlying4 i1
    obtain ⟨z2, a2, _, wf2⟩ := DataW.trod_int Tryd.underlying3 i2
    obtain ⟨z3, a3, _⟩ := DataW.trod_bool Tryd.underlying4 i3
    simp only [List.cons.injEq, and_true] at a0 a1 a2 a3
    subst a0 a1 a2 a3
    exact ⟨⟨z0, z1, z2, z3⟩, rfl⟩
theorem open_fb {r : Reach} {b0 : Nat} {v : Value} {d : DataW H} {p : List MemPlace} (hv : Value.okWide Tryd.prog w r b0 25 v) (h : DataW.Trod enc Tryd.prog w base spare held 25 v d p) : ∃ c : Fb, v = c.ag := by
  obtain ⟨cs, rfl, hsz⟩ := okWide_struct Tryd.underlying25 hv
  obtain ⟨fuel, hf⟩ := h
  obtain ⟨c, hc⟩ := trod_fb hf
  refine ⟨c, ?_⟩
  have : cs = c.cells.toArray := by rw [← hc]; simp [Value.cells]
  rw [this]; rfl
theorem trod_car {fuel : Nat} {cs : List Value} {x : DataW H × List MemPlace} (h : DataW.trod enc Tryd.prog w base spare held fuel 27 cs = some x) : ∃ c : CarD, cs = c.cells := by
  obtain ⟨xs, n, _, _, hlen, hxl, hg⟩ := DataW.trod_struct Tryd.underlying27 h
  have hC : Tryd.prog.cellsOf 27 = 9 := by kernel_rfl
  have hkint : Tryd.prog.cellsOf 3 = 1 := by kernel_rfl
  rw [hC] at hlen
  match cs, hlen with
  | [c0, c1, c2, c3, c4, c5, c6, c7, c8], _ =>
    have hyl : xs.length = 9 := by rw [hxl]; rfl
    have at_ : ∀ j, j < 9 → ∃ y, xs[j]? = some y := fun j hj => ⟨_, List.getElem?_eq_getElem (by omega)⟩
    obtain ⟨y0, e0⟩ := at_ 0 (by omega)
    obtain ⟨y1, e1⟩ := at_ 1 (by omega)
    obtain ⟨y2, e2⟩ := at_ 2 (by omega)
    obtain ⟨y3, e3⟩ := at_ 3 (by omega)
    obtain ⟨y4, e4⟩ := at_ 4 (by omega)
    obtain ⟨y5, e5⟩ := at_ 5 (by omega)
    obtain ⟨y6, e6⟩ := at_ 6 (by omega)
    obtain ⟨y7, e7⟩ := at_ 7 (by omega)
    obtain ⟨y8, e8⟩ := at_ 8 (by omega)
    have i0 := (hg 0 _ rfl).trans e0
    have i1 := (hg 1 _ rfl).trans e1
    have i2 := (hg 2 _ rfl).trans e2
    have i3 := (hg 3 _ rfl).trans e3
    have i4 := (hg 4 _ rfl).trans e4
    have i5 := (hg 5 _ rfl).trans e5
    have i6 := (hg 6 _ rfl).trans e6
    have i7 := (hg 7 _ rfl).trans e7
    have i8 := (hg 8 _ rfl).trans e8
    simp [hkint] at i0 i1 i2 i3 i4 i5 i6 i7 i8
    obtain ⟨z0, a0, _, wf0⟩ := DataW.trod_int Tryd.underlying3 i0
    obtain ⟨z1, a1, _, wf1⟩ := DataW.trod_int Tryd.underlying3 i1
    obtain ⟨z2, a2, _, wf2⟩ := DataW.trod_int Tryd.underlying3 i2
    obtain ⟨z3, a3, _, wf3⟩ := DataW.trod_int Tryd.underlying3 i3
    obtain ⟨z4, a4, _, wf4⟩ := DataW.trod_int Tryd.underlying3 i4
    obtain ⟨z5, a5, _, wf5⟩ := DataW.trod_int Tryd.underlying3 i5
    obtain ⟨z6, a6, _, wf6⟩ := DataW.trod_int Tryd.underlying3 i6
    obtain ⟨z7, a7, _, wf7⟩ := DataW.trod_int Tryd.underlying3 i7
    obtain ⟨z8, a8, _, wf8⟩ := DataW.trod_int Tryd.underlying3 i8
    simp only [List.cons.injEq, and_true] at a0 a1 a2 a3 a4 a5 a6 a7 a8
    subst a0 a1 a2 a3 a4 a5 a6 a7 a8
    exact ⟨⟨z0, z1, z2, z3, z4, z5, z6, z7, z8⟩, rfl⟩
theorem open_car {r : Reach} {b0 : Nat} {v : Value} {d : DataW H} {p : List MemPlace} (hv : Value.okWide Tryd.prog w r b0 27 v) (h : DataW.Trod enc Tryd.prog w base spare held 27 v d p) : ∃ c : CarD, v = c.ag := by
  obtain ⟨cs, rfl, hsz⟩ := okWide_struct Tryd.underlying27 hv
  obtain ⟨fuel, hf⟩ := h
  obtain ⟨c, hc⟩ := trod_car hf
  refine ⟨c, ?_⟩
  have : cs = c.cells.toArray := by rw [← hc]; simp [Value.cells]
  rw [this]; rfl
theorem trod_mo {fuel : Nat} {cs : List Value} {x : DataW H × List MemPlace} (h : DataW.trod enc Tryd.prog w base spare held fuel 23 cs = some x) : ∃ c : Mo, cs = c.cells := by
  obtain ⟨xs, n, _, _, hlen, hxl, hg⟩ := DataW.trod_struct Tryd.underlying23 h
  have hC : Tryd.prog.cellsOf 23 = 3 := by kernel_rfl
  have hkint : Tryd.prog.cellsOf 3 = 1 := by kernel_rfl
  rw [hC] at hlen
  match cs, hlen with
  | [c0, c1, c2], _ =>
    have hyl : xs.length = 3 := by rw [hxl]; rfl
    have at_ : ∀ j, j < 3 → ∃ y, xs[j]? = some y := fun j hj => ⟨_, List.getElem?_eq_getElem (by omega)⟩
    obtain ⟨y0, e0⟩ := at_ 0 (by omega)
    obtain ⟨y1, e1⟩ := at_ 1 (by omega)
    obtain ⟨y2, e2⟩ := at_ 2 (by omega)
    have i0 := (hg 0 _ rfl).trans e0
    have i1 := (hg 1 _ rfl).trans e1
    have i2 := (hg 2 _ rfl).trans e2
    simp [hkint] at i0 i1 i2
    obtain ⟨z0, a0, _, wf0⟩ := DataW.trod_int Tryd.underlying3 i0
    obtain ⟨z1, a1, _, wf1⟩ := DataW.trod_int Tryd.underlying3 i1
    obtain ⟨z2, a2, _, wf2⟩ := DataW.trod_int Tryd.underlying3 i2
    simp only [List.cons.injEq, and_true] at a0 a1 a2
    subst a0 a1 a2
    exact ⟨⟨z0, z1, z2⟩, rfl⟩
theorem open_mo {r : Reach} {b0 : Nat} {v : Value} {d : DataW H} {p : List MemPlace} (hv : Value.okWide Tryd.prog w r b0 23 v) (h : DataW.Trod enc Tryd.prog w base spare held 23 v d p) : ∃ c : Mo, v = c.ag := by
  obtain ⟨cs, rfl, hsz⟩ := okWide_struct Tryd.underlying23 hv
  obtain ⟨fuel, hf⟩ := h
  obtain ⟨c, hc⟩ := trod_mo hf
  refine ⟨c, ?_⟩
  have : cs = c.cells.toArray := by rw [← hc]; simp [Value.cells]
  rw [this]; rfl
theorem trod_cse {fuel : Nat} {cs : List Value} {x : DataW H × List MemPlace} (h : DataW.trod enc Tryd.prog w base spare held fuel 29 cs = some x) : ∃ c : Cse, cs = c.cells := by
  obtain ⟨xs, n, _, _, hlen, hxl, hg⟩ := DataW.trod_struct Tryd.underlying29 h
  have hC : Tryd.prog.cellsOf 29 = 14 := by kernel_rfl
  have hk0 : Tryd.prog.cellsOf 25 = 4 := by kernel_rfl
  have hk1 : Tryd.prog.cellsOf 3 = 1 := by kernel_rfl
  have hk2 : Tryd.prog.cellsOf 27 = 9 := by kernel_rfl
  rw [hC] at hlen
  match cs, hlen with
  | [c0, c1, c2, c3, c4, c5, c6, c7, c8, c9, c10, c11, c12, c13], _ =>
    have hyl : xs.length = 3 := by rw [hxl]; rfl
    have at_ : ∀ j, j < 3 → ∃ y, xs[j]? = some y := fun j hj => ⟨_, List.getElem?_eq_getElem (by omega)⟩
    obtain ⟨y0, e0⟩ := at_ 0 (by omega)
    obtain ⟨y1, e1⟩ := at_ 1 (by omega)
    obtain ⟨y2, e2⟩ := at_ 2 (by omega)
    have i0 := (hg 0 _ rfl).trans e0
    have i1 := (hg 1 _ rfl).trans e1
    have i2 := (hg 2 _ rfl).trans e2
    simp [hk0] at i0
    simp [hk1] at i1
    simp [hk2] at i2
    obtain ⟨z0, a0⟩ := trod_fb i0
    obtain ⟨z1, a1, _, wf1⟩ := DataW.trod_int Tryd.underlying3 i1
    obtain ⟨z2, a2⟩ := trod_car i2
    simp only [List.cons.injEq, and_true] at a1
    refine ⟨⟨z0, z1, z2⟩, ?_⟩
    unfold Cse.cells
    rw [← a0, ← a2, ← a1]
    rfl
theorem open_cse {r : Reach} {b0 : Nat} {v : Value} {d : DataW H} {p : List MemPlace} (hv : Value.okWide Tryd.prog w r b0 29 v) (h : DataW.Trod enc Tryd.prog w base spare held 29 v d p) : ∃ c : Cse, v = c.ag := by
  obtain ⟨cs, rfl, hsz⟩ := okWide_struct Tryd.underlying29 hv
  obtain ⟨fuel, hf⟩ := h
  obtain ⟨c, hc⟩ := trod_cse hf
  refine ⟨c, ?_⟩
  have : cs = c.cells.toArray := by rw [← hc]; simp [Value.cells]
  rw [this]; rfl
/-- An array of whole numbers, cell by cell. -/
theorem trod_intsT {P : Program} {fuel n : Nat} {t e : TypeId} {k : IntKind} {cs : List Value} {x : DataW H × List MemPlace} (ht : P.underlying t = some (.array n e)) (he : P.underlying e = some (.int k)) (hc : P.cellsOf e = 1) (hct : P.cellsOf t = n)
    (h : DataW.trod enc P w base spare held fuel t cs = some x) : ∃ ys : List Int, ys.length = n ∧ cs = (ys.map fun y => (Value.int k y)) ∧ x.1 = .agg (ys.map fun y => (DataW.lit (.int k y))) ∧ ∀ y ∈ ys, (Lit.int k y).wf = true := by
  obtain ⟨xs, m, _, hx, hlen, hxl, hg⟩ := DataW.trod_array ht h
  rw [hct] at hlen
  have hone : ∀ i, i < n → ∃ y : Int, cs[i]? = some (.int k y) ∧ (xs[i]?).map (·.1) = some (.lit (.int k y)) ∧ (Lit.int k y).wf = true := fun i hi => by
    have h1 := (hg i hi).trans (List.getElem?_eq_getElem (by omega : i < xs.length))
    rw [hc, Nat.mul_one, List.drop_eq_getElem_cons (by omega : i < cs.length)] at h1
    have h2 : DataW.trod enc P w base spare held m e [cs[i]'(by omega)] = some (xs[i]'(by omega)) := h1
    obtain ⟨y, hy, hd, hw⟩ := DataW.trod_int he h2
    simp only [List.cons.injEq, and_true] at hy
    exact ⟨y, by rw [List.getElem?_eq_getElem (by omega : i < cs.length), hy], by rw [List.getElem?_eq_getElem (by omega : i < xs.length), hd]; rfl, hw⟩
  obtain ⟨l, hl, hp⟩ := list_ofCt (fun i (y : Int) => cs[i]? = some (.int k y) ∧ (xs[i]?).map (·.1) = some (.lit (.int k y)) ∧ (Lit.int k y).wf = true) n hone
  refine ⟨l, hl, ?_, ?_, ?_⟩
  · apply List.ext_getElem?
    intro i
    rcases Nat.lt_or_ge i n with h | h
    · rw [(hp i (by omega)).1, List.getElem?_map, List.getElem?_eq_getElem (by omega : i < l.length)]; rfl
    · rw [List.getElem?_eq_none (by omega), List.getElem?_eq_none (by rw [List.length_map]; omega)]
  · rw [hx]
    refine congrArg DataW.agg ?_
    apply List.ext_getElem?
    intro i
    rw [List.getElem?_map, List.getElem?_map]
    rcases Nat.lt_or_ge i n with h | h
    · rw [(hp i (by omega)).2.1, List.getElem?_eq_getElem (by omega : i < l.length)]; rfl
    · rw [List.getElem?_eq_none (by omega : xs.length ≤ i), List.getElem?_eq_none (by omega : l.length ≤ i)]; rfl
  · intro y hy
    obtain ⟨i, hi, rfl⟩ := List.getElem_of_mem hy
    exact (hp i hi).2.2
end
/-- A table in a package-level variable: its cells. -/
theorem table_cells {P : Program} {W : World} {g n : Nat} {name : String} {t e : TypeId} {k : IntKind} {cs : Array Value} {fuel : Nat} {spare : Nat → Bool} {held : Bool} {enc : TypeId × Value → Unit} {base : Nat} {d : DataW Unit} {p : List MemPlace} (ys : List Int)
    (ht : P.underlying t = some (.array n e)) (he : P.underlying e = some (.int k)) (hc : P.cellsOf e = 1) (hct : P.cellsOf t = n)
    (hg : P.globalNamed name = some g) (hv : W.var? P name = some cs) (hd : DataW.trod enc P W base spare held fuel t cs.toList = some (d, p))
    (hx : d = .agg (ys.map fun y => (DataW.lit (.int k y)))) : ∀ j, j < n → W.cell? ⟨g, j, none⟩ = some (.int k (ys.getD j 0)) := by
  obtain ⟨zs, hl, hcs, hz, _⟩ := trod_intsT ht he hc hct hd
  have hzy : zs = ys := by
    rw [hx] at hz
    have h1 := DataW.agg.inj hz
    have : ∀ (a b : List Int), (a.map fun y => (DataW.lit (.int k y) : DataW Unit)) = (b.map fun y => (DataW.lit (.int k y))) → a = b := by
      intro a
      induction a with
      | nil => intro b h; cases b with
        | nil => rfl
        | cons y r => simp at h
      | cons y r ih => intro b h; cases b with
        | nil => simp at h
        | cons y' r' =>
          simp only [List.map_cons, List.cons.injEq, DataW.lit.injEq, Lit.int.injEq, true_and] at h
          rw [h.1, ih r' h.2]
    exact (this _ _ h1).symm
  subst hzy
  intro j hj
  have := World.var?_cell hg hv j
  rw [this, ← Array.getElem?_toList, hcs, List.getElem?_map, List.getElem?_eq_getElem (by omega : j < zs.length), List.getD_eq_getElem?_getD, List.getElem?_eq_getElem (by omega : j < zs.length)]
  rfl

noncomputable abbrev laidAll : List (String × DataW Unit) := [("overlay/motion.ahead", Rows.laid_overlay_motion_ahead)]
/-- The door's own heap meets the condition. -/
theorem door_met (os : Os) (args : Array Value) : laidMetH Tryd.prog laidAll ((World.doorLaid Tryd.prog 14 os).forCall (fun _ _ => 0) ⟨#[], args, []⟩).memory :=
  laidMetH_of_parts3 (fuel := 8) (laidMet_of_run' 8 (by kernel_rfl) (by kernel_rfl)) (by kernel_rfl) (by kernel_rfl)

theorem tabs_of_laid {W : World} (h : laidMetH Tryd.prog laidAll W) : Tabs W := by
  rw [MakeChecks.laidMetH_plain _ _ _ (by kernel_rfl)] at h
  obtain ⟨ps, ⟨g0, t0, cs0, f0, p0, q0, hg0, ht0, hv0, hd0, _, _⟩, _, _⟩ := h
  obtain rfl := Option.some.inj ((show Tryd.prog.globalNamed "overlay/motion.ahead" = some 0 by kernel_rfl).symm.trans hg0)
  obtain rfl := Option.some.inj ((show (Tryd.prog.globals[0]?).map (·.type) = some 50 by kernel_rfl).symm.trans ht0)
  have c0 := table_cells (n := 3) [0, 1, -1] Tryd.underlying50 Tryd.underlying3 (by kernel_rfl) (by kernel_rfl) hg0 hv0 hd0 rfl
  have three : ∀ j : Nat, j < 3 → ([0, 1, -1] : List Int).getD j 0 = Mo.ah j := by decide
  exact ⟨fun j hj => by rw [c0 j hj, three j hj]⟩
end Go.Proofs.YtcbmpcnanknncaaDoor
