/- Arguments that came in: numbers, contacts, observations, small arrays; tables in package-level variables. No statement of the seat is proved here. -/
import Derived.Test.YtimaidiabjkgkaaDoorIndObs
import Derived.Deep.Slices
import Derived.ChangeSame
import Derived.ChangeOld
import Derived.ChangeVars
import Derived.ChangeMaps5
import Derived.LaidMore
import Derived.LaidLaws
import Derived.Stop.Joined
namespace Go.Proofs.YtimaidiabjkgkaaDoor
open Go.RowKit Go.ChangeShapes Go.WideShapes Go.Deep

theorem laidOut : laidOutB Tryd.prog = true := by kernel_rfl
theorem own : ownKnob Tryd.prog.godebug = none := by kernel_rfl
theorem u8_nat {x : Int} (h : (Lit.int .u8 x).wf = true) : ∃ n : Nat, x = (n : Int) ∧ n < 256 := by
  simp [Lit.wf, IntKind.min, IntKind.max, IntKind.bits, IntKind.signed] at h
  exact ⟨x.toNat, by omega, by omega⟩
theorem u32_nat {x : Int} (h : (Lit.int .u32 x).wf = true) : ∃ n : Nat, x = (n : Int) ∧ n < 4294967296 := by
  simp [Lit.wf, IntKind.min, IntKind.max, IntKind.bits, IntKind.signed] at h
  exact ⟨x.toNat, by omega, by omega⟩
theorem list_ofCt {α : Type} (P : Nat → α → Prop) : ∀ n : Nat, (∀ i, i < n → ∃ c, P i c) → ∃ l : List α, l.length = n ∧ ∀ i (h : i < l.length), P i l[i]
  | 0, _ => ⟨[], rfl, fun i hi => absurd hi (by simp)⟩
  | n + 1, h => by
    obtain ⟨l, hl, hp⟩ := list_ofCt P n (fun i hi => h i (by omega))
    obtain ⟨c, hc⟩ := h n (by omega)
    refine ⟨l ++ [c], by simp [hl], fun i hi => ?_⟩
    rcases Nat.lt_or_ge i l.length with hlt | hge
    · rw [List.getElem_append_left hlt]; exact hp i hlt
    · have : i = n := by simp at hi; omega
      subst this
      rw [List.getElem_append_right hge]
      simpa [hl] using hc


section
variable {H : Type} {enc : TypeId × Value → H} {w : World} {base : Nat} {spare : Nat → Bool} {held : Bool}

theorem trod_ct {fuel : Nat} {cs : List Value} {x : DataW H × List MemPlace} (h : DataW.trod enc Tryd.prog w base spare held fuel 28 cs = some x) : ∃ c : Ct, cs = c.cells ∧ c.ok := by
  obtain ⟨xs, n, _, _, hlen, hxl, hg⟩ := DataW.trod_struct Tryd.underlying28 h
  have hC : Tryd.prog.cellsOf 28 = 5 := by kernel_rfl
  have hku : Tryd.prog.cellsOf 22 = 1 := by kernel_rfl
  have hkb : Tryd.prog.cellsOf 4 = 1 := by kernel_rfl
  rw [hC] at hlen
  match cs, hlen with
  | [c0, c1, c2, c3, c4], _ =>
    have hyl : xs.length = 5 := by rw [hxl]; rfl
    have at_ : ∀ j, j < 5 → ∃ y, xs[j]? = some y := fun j hj => ⟨_, List.getElem?_eq_getElem (by omega)⟩
    obtain ⟨y0, e0⟩ := at_ 0 (by omega)
    obtain ⟨y1, e1⟩ := at_ 1 (by omega)
    obtain ⟨y2, e2⟩ := at_ 2 (by omega)
    obtain ⟨y3, e3⟩ := at_ 3 (by omega)
    obtain ⟨y4, e4⟩ := at_ 4 (by omega)
    have i0 := (hg 0 _ rfl).trans e0
    have i1 := (hg 1 _ rfl).trans e1
    have i2 := (hg 2 _ rfl).trans e2
    have i3 := (hg 3 _ rfl).trans e3
    have i4 := (hg 4 _ rfl).trans e4
    simp [hku, hkb] at i0 i1 i2 i3 i4
    obtain ⟨z0, a0, _, wf⟩ := DataW.trod_int Tryd.underlying22 i0
    obtain ⟨z1, a1, _⟩ := DataW.trod_bool Tryd.underlying4 i1
    obtain ⟨z2, a2, _⟩ := DataW.trod_bool Tryd.underlying4 i2
    obtain ⟨z3, a3, _⟩ := DataW.trod_bool Tryd.underlying4 i3
    obtain ⟨z4, a4, _⟩ := DataW.trod_bool Tryd.underlying4 i4
    simp only [List.cons.injEq, and_true] at a0 a1 a2 a3 a4
    subst a0 a1 a2 a3 a4
    obtain ⟨f, rfl, hf⟩ := u32_nat wf
    exact ⟨⟨f, z1, z2, z3, z4⟩, rfl, hf⟩
theorem open_ct {r : Reach} {b0 : Nat} {v : Value} {d : DataW H} {p : List MemPlace} (hv : Value.okWide Tryd.prog w r b0 28 v) (h : DataW.Trod enc Tryd.prog w base spare held 28 v d p) : ∃ c : Ct, v = c.agg ∧ c.ok := by
  obtain ⟨cs, rfl, hsz⟩ := okWide_struct Tryd.underlying28 hv
  obtain ⟨fuel, hf⟩ := h
  obtain ⟨c, hc, hok⟩ := trod_ct hf
  refine ⟨c, ?_, hok⟩
  have : cs = c.cells.toArray := by rw [← hc]; simp [Value.cells]
  rw [this]; rfl
theorem trod_ob {fuel : Nat} {cs : List Value} {x : DataW H × List MemPlace} (h : DataW.trod enc Tryd.prog w base spare held fuel 31 cs = some x) : ∃ o : Ob, cs = [.int .i64 o.f, .int .i64 o.d, .int .i64 o.g] ∧ (-9223372036854775808 ≤ o.f ∧ o.f < 9223372036854775808) ∧ (-9223372036854775808 ≤ o.d ∧ o.d < 9223372036854775808) ∧ (-9223372036854775808 ≤ o.g ∧ o.g < 9223372036854775808) := by
  obtain ⟨xs, n, _, _, hlen, hxl, hg⟩ := DataW.trod_struct Tryd.underlying31 h
  have hC : Tryd.prog.cellsOf 31 = 3 := by kernel_rfl
  have hki : Tryd.prog.cellsOf 3 = 1 := by kernel_rfl
  rw [hC] at hlen
  match cs, hlen with
  | [c0, c1, c2], _ =>
    have hyl : xs.length = 3 := by rw [hxl]; rfl
    have at_ : ∀ j, j < 3 → ∃ y, xs[j]? = some y := fun j hj => ⟨_, List.getElem?_eq_getElem (by omega)⟩
    obtain ⟨y0, e0⟩ := at_ 0 (by omega)
    obtain ⟨y1, e1⟩ := at_ 1 (by omega)
    obtain ⟨y2, e2⟩ := at_ 2 (by omega)
    have i0 := (hg 0 _ rfl).trans e0
    have i1 := (hg 1 _ rfl).trans e1
    have i2 := (hg 2 _ rfl).trans e2
    simp [hki] at i0 i1 i2
    obtain ⟨z0, a0, _, w0⟩ := DataW.trod_int Tryd.underlying3 i0
    obtain ⟨z1, a1, _, w1⟩ := DataW.trod_int Tryd.underlying3 i1
    obtain ⟨z2, a2, _, w2⟩ := DataW.trod_int Tryd.underlying3 i2
    simp only [List.cons.injEq, and_true] at a0 a1 a2
    subst a0 a1 a2
    simp [Lit.wf, IntKind.min, IntKind.max, IntKind.bits, IntKind.signed] at w0 w1 w2
    refine ⟨⟨z0, z1, z2⟩, rfl, ?_, ?_, ?_⟩ <;> (simp only; omega)
theorem open_ob {r : Reach} {b0 : Nat} {v : Value} {d : DataW H} {p : List MemPlace} (hv : Value.okWide Tryd.prog w r b0 31 v) (h : DataW.Trod enc Tryd.prog w base spare held 31 v d p) : ∃ o : Ob, v = o.agg ∧ (-9223372036854775808 ≤ o.f ∧ o.f < 9223372036854775808) ∧ (-9223372036854775808 ≤ o.d ∧ o.d < 9223372036854775808) ∧ (-9223372036854775808 ≤ o.g ∧ o.g < 9223372036854775808) := by
  obtain ⟨cs, rfl, hsz⟩ := okWide_struct Tryd.underlying31 hv
  obtain ⟨fuel, hf⟩ := h
  obtain ⟨o, ho, hok⟩ := trod_ob hf
  refine ⟨o, ?_, hok⟩
  have : cs = #[.int .i64 o.f, .int .i64 o.d, .int .i64 o.g] := by
    obtain ⟨l⟩ := cs
    have : l = [.int .i64 o.f, .int .i64 o.d, .int .i64 o.g] := by simpa [Value.cells] using ho
    rw [this]
  rw [this]; rfl
/-- An array of whole numbers, cell by cell. -/
theorem trod_ints {P : Program} {fuel n : Nat} {t e : TypeId} {k : IntKind} {cs : List Value} {x : DataW H × List MemPlace} (ht : P.underlying t = some (.array n e)) (he : P.underlying e = some (.int k)) (hc : P.cellsOf e = 1) (hct : P.cellsOf t = n)
    (h : DataW.trod enc P w base spare held fuel t cs = some x) : ∃ ys : List Int, ys.length = n ∧ cs = (ys.map fun y => (Value.int k y)) ∧ x.1 = .agg (ys.map fun y => (DataW.lit (.int k y))) ∧ ∀ y ∈ ys, (Lit.int k y).wf = true := by
  obtain ⟨xs, m, _, hx, hlen, hxl, hg⟩ := DataW.trod_array ht h
  rw [hct] at hlen
  have hone : ∀ i, i < n → ∃ y : Int, cs[i]? = some (.int k y) ∧ (xs[i]?).map (·.1) = some (.lit (.int k y)) ∧ (Lit.int k y).wf = true := fun i hi => by
    have h1 := (hg i hi).trans (List.getElem?_eq_getElem (by omega : i < xs.length))
    rw [hc, Nat.mul_one, List.drop_eq_getElem_cons (by omega : i < cs.length)] at h1
    have h2 : DataW.trod enc P w base spare held m e [cs[i]'(by omega)] = some (xs[i]'(by omega)) := h1
    obtain ⟨y, hy, hd, hw⟩ := DataW.trod_int he h2
    simp only [List.cons.injEq, and_true] at hy
    exact ⟨y, by rw [List.getElem?_eq_getElem (by omega : i < cs.length), hy], by rw [List.getElem?_eq_getElem (by omega : i < xs.length), hd]; rfl, hw⟩
  obtain ⟨l, hl, hp⟩ := list_ofCt (fun i (y : Int) => cs[i]? = some (.int k y) ∧ (xs[i]?).map (·.1) = some (.lit (.int k y)) ∧ (Lit.int k y).wf = true) n hone
  refine ⟨l, hl, ?_, ?_, ?_⟩
  · apply List.ext_getElem?
    intro i
    rcases Nat.lt_or_ge i n with h | h
    · rw [(hp i (by omega)).1, List.getElem?_map, List.getElem?_eq_getElem (by omega : i < l.length)]; rfl
    · rw [List.getElem?_eq_none (by omega), List.getElem?_eq_none (by rw [List.length_map]; omega)]
  · rw [hx]
    refine congrArg DataW.agg ?_
    apply List.ext_getElem?
    intro i
    rw [List.getElem?_map, List.getElem?_map]
    rcases Nat.lt_or_ge i n with h | h
    · rw [(hp i (by omega)).2.1, List.getElem?_eq_getElem (by omega : i < l.length)]; rfl
    · rw [List.getElem?_eq_none (by omega : xs.length ≤ i), List.getElem?_eq_none (by omega : l.length ≤ i)]; rfl
  · intro y hy
    obtain ⟨i, hi, rfl⟩ := List.getElem_of_mem hy
    exact (hp i hi).2.2
end
/-- A table in a package-level variable: its cells. -/
theorem table_cells {P : Program} {W : World} {g n : Nat} {name : String} {t e : TypeId} {k : IntKind} {cs : Array Value} {fuel : Nat} {spare : Nat → Bool} {held : Bool} {enc : TypeId × Value → Unit} {base : Nat} {d : DataW Unit} {p : List MemPlace} (ys : List Int)
    (ht : P.underlying t = some (.array n e)) (he : P.underlying e = some (.int k)) (hc : P.cellsOf e = 1) (hct : P.cellsOf t = n)
    (hg : P.globalNamed name = some g) (hv : W.var? P name = some cs) (hd : DataW.trod enc P W base spare held fuel t cs.toList = some (d, p))
    (hx : d = .agg (ys.map fun y => (DataW.lit (.int k y)))) : ∀ j, j < n → W.cell? ⟨g, j, none⟩ = some (.int k (ys.getD j 0)) := by
  obtain ⟨zs, hl, hcs, hz, _⟩ := trod_ints ht he hc hct hd
  have hzy : zs = ys := by
    rw [hx] at hz
    have h1 := DataW.agg.inj hz
    have : ∀ (a b : List Int), (a.map fun y => (DataW.lit (.int k y) : DataW Unit)) = (b.map fun y => (DataW.lit (.int k y))) → a = b := by
      intro a
      induction a with
      | nil => intro b h; cases b with
        | nil => rfl
        | cons y r => simp at h
      | cons y r ih => intro b h; cases b with
        | nil => simp at h
        | cons y' r' =>
          simp only [List.map_cons, List.cons.injEq, DataW.lit.injEq, Lit.int.injEq, true_and] at h
          rw [h.1, ih r' h.2]
    exact (this _ _ h1).symm
  subst hzy
  intro j hj
  have := World.var?_cell hg hv j
  rw [this, ← Array.getElem?_toList, hcs, List.getElem?_map, List.getElem?_eq_getElem (by omega : j < zs.length), List.getD_eq_getElem?_getD, List.getElem?_eq_getElem (by omega : j < zs.length)]
  rfl

end Go.Proofs.YtimaidiabjkgkaaDoor
