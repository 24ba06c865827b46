/- Places, stops and small arrays that came in; the listed tables. No statement of the seat is proved here. -/
import Derived.Test.YteniimbcbjbegaaDoorCvRow
import Derived.Test.YteniimbcbjbegaaDoorCvTabs
import Derived.Deep.Slices
import Derived.ChangeSame
import Derived.ChangeOld
import Derived.ChangeMaps5
import Derived.ChangeVars
import Derived.LaidMore
import Derived.LaidLaws
import Derived.Stop.Joined
import Derived.SevenTiedAt
namespace Go.Proofs.YteniimbcbjbegaaDoor
open Go.RowKit Go.ChangeShapes Go.WideShapes Go.Deep

theorem laidOut : laidOutB Tryd.prog = true := by kernel_rfl
theorem own : ownKnob Tryd.prog.godebug = none := by kernel_rfl
theorem u8_nat {x : Int} (h : (Lit.int .u8 x).wf = true) : ∃ n : Nat, x = (n : Int) ∧ n < 256 := by
  simp [Lit.wf, IntKind.min, IntKind.max, IntKind.bits, IntKind.signed] at h
  exact ⟨x.toNat, by omega, by omega⟩
theorem u32_nat {x : Int} (h : (Lit.int .u32 x).wf = true) : ∃ n : Nat, x = (n : Int) ∧ n < 4294967296 := by
  simp [Lit.wf, IntKind.min, IntKind.max, IntKind.bits, IntKind.signed] at h
  exact ⟨x.toNat, by omega, by omega⟩
theorem list_ofCt {α : Type} (P : Nat → α → Prop) : ∀ n : Nat, (∀ i, i < n → ∃ c, P i c) → ∃ l : List α, l.length = n ∧ ∀ i (h : i < l.length), P i l[i]
  | 0, _ => ⟨[], rfl, fun i hi => absurd hi (by simp)⟩
  | n + 1, h => by
    obtain ⟨l, hl, hp⟩ := list_ofCt P n (fun i hi => h i (by omega))
    obtain ⟨c, hc⟩ := h n (by omega)
    refine ⟨l ++ [c], by simp [hl], fun i hi => ?_⟩
    rcases Nat.lt_or_ge i l.length with hlt | hge
    · rw [List.getElem_append_left hlt]; exact hp i hlt
    · have : i = n := by simp at hi; omega
      subst this
      rw [List.getElem_append_right hge]
      simpa [hl] using hc

/-- A sweep, and a sweep at a floor, of any numbers. -/
structure Sw2 where
  d : Int
  o : Int
structure Pc where
  d : Int
  o : Int
  f : Int
def Sw2.cells (c : Sw2) : List Value := [.int .i64 c.d, .int .i64 c.o]
def Sw2.agg (c : Sw2) : Value := .agg c.cells.toArray
def Pc.cells (c : Pc) : List Value := [.int .i64 c.d, .int .i64 c.o, .int .i64 c.f]
def Pc.agg (c : Pc) : Value := .agg #[.int .i64 c.d, .int .i64 c.o, .int .i64 c.f]
def Cs.cells (c : Cs) : List Value := [.int .u32 c.up, .int .u32 c.dn]

section
variable {H : Type} {enc : TypeId × Value → H} {w : World} {base : Nat} {spare : Nat → Bool} {held : Bool}
theorem trod_cs {fuel : Nat} {cs : List Value} {x : DataW H × List MemPlace} (h : DataW.trod enc Tryd.prog w base spare held fuel 28 cs = some x) : ∃ c : Cs, cs = c.cells ∧ c.ok := by
  obtain ⟨xs, n, _, _, hlen, hxl, hg⟩ := DataW.trod_struct Tryd.underlying28 h
  have hC : Tryd.prog.cellsOf 28 = 2 := by kernel_rfl
  have hkuint32 : Tryd.prog.cellsOf 26 = 1 := by kernel_rfl
  rw [hC] at hlen
  match cs, hlen with
  | [c0, c1], _ =>
    have hyl : xs.length = 2 := by rw [hxl]; rfl
    have at_ : ∀ j, j < 2 → ∃ y, xs[j]? = some y := fun j hj => ⟨_, List.getElem?_eq_getElem (by omega)⟩
    obtain ⟨y0, e0⟩ := at_ 0 (by omega)
    obtain ⟨y1, e1⟩ := at_ 1 (by omega)
    have i0 := (hg 0 _ rfl).trans e0
    have i1 := (hg 1 _ rfl).trans e1
    simp [hkuint32] at i0 i1
    obtain ⟨z0, a0, _, wf0⟩ := DataW.trod_int Tryd.underlying26 i0
    obtain ⟨z1, a1, _, wf1⟩ := DataW.trod_int Tryd.underlying26 i1
    simp only [List.cons.injEq, and_true] at a0 a1
    subst a0 a1
    obtain ⟨n0, rfl, h0⟩ := u32_nat wf0
    obtain ⟨n1, rfl, h1⟩ := u32_nat wf1
    exact ⟨⟨n0, n1⟩, rfl, ⟨h0, h1⟩⟩
theorem open_cs {r : Reach} {b0 : Nat} {v : Value} {d : DataW H} {p : List MemPlace} (hv : Value.okWide Tryd.prog w r b0 28 v) (h : DataW.Trod enc Tryd.prog w base spare held 28 v d p) : ∃ c : Cs, v = c.agg ∧ c.ok := by
  obtain ⟨cs, rfl, hsz⟩ := okWide_struct Tryd.underlying28 hv
  obtain ⟨fuel, hf⟩ := h
  obtain ⟨c, hc, hok⟩ := trod_cs hf
  refine ⟨c, ?_, hok⟩
  have : cs = c.cells.toArray := by rw [← hc]; simp [Value.cells]
  rw [this]; rfl
theorem trod_sw {fuel : Nat} {cs : List Value} {x : DataW H × List MemPlace} (h : DataW.trod enc Tryd.prog w base spare held fuel 23 cs = some x) : ∃ c : Sw2, cs = c.cells := by
  obtain ⟨xs, n, _, _, hlen, hxl, hg⟩ := DataW.trod_struct Tryd.underlying23 h
  have hC : Tryd.prog.cellsOf 23 = 2 := by kernel_rfl
  have hkint : Tryd.prog.cellsOf 3 = 1 := by kernel_rfl
  rw [hC] at hlen
  match cs, hlen with
  | [c0, c1], _ =>
    have hyl : xs.length = 2 := by rw [hxl]; rfl
    have at_ : ∀ j, j < 2 → ∃ y, xs[j]? = some y := fun j hj => ⟨_, List.getElem?_eq_getElem (by omega)⟩
    obtain ⟨y0, e0⟩ := at_ 0 (by omega)
    obtain ⟨y1, e1⟩ := at_ 1 (by omega)
    have i0 := (hg 0 _ rfl).trans e0
    have i1 := (hg 1 _ rfl).trans e1
    simp [hkint] at i0 i1
    obtain ⟨z0, a0, _, wf0⟩ := DataW.trod_int Tryd.underlying3 i0
    obtain ⟨z1, a1, _, wf1⟩ := DataW.trod_int Tryd.underlying3 i1
    simp only [List.cons.injEq, and_true] at a0 a1
    subst a0 a1
    exact ⟨⟨z0, z1⟩, rfl⟩
theorem open_sw {r : Reach} {b0 : Nat} {v : Value} {d : DataW H} {p : List MemPlace} (hv : Value.okWide Tryd.prog w r b0 23 v) (h : DataW.Trod enc Tryd.prog w base spare held 23 v d p) : ∃ c : Sw2, v = c.agg := by
  obtain ⟨cs, rfl, hsz⟩ := okWide_struct Tryd.underlying23 hv
  obtain ⟨fuel, hf⟩ := h
  obtain ⟨c, hc⟩ := trod_sw hf
  refine ⟨c, ?_⟩
  have : cs = c.cells.toArray := by rw [← hc]; simp [Value.cells]
  rw [this]; rfl
theorem trod_sp {fuel : Nat} {cs : List Value} {x : DataW H × List MemPlace} (h : DataW.trod enc Tryd.prog w base spare held fuel 30 cs = some x) : ∃ c : Stp, cs = c.cells ∧ c.ok := by
  obtain ⟨xs, n, _, _, hlen, hxl, hg⟩ := DataW.trod_struct Tryd.underlying30 h
  have hC : Tryd.prog.cellsOf 30 = 3 := by kernel_rfl
  have hk0 : Tryd.prog.cellsOf 26 = 1 := by kernel_rfl
  have hk1 : Tryd.prog.cellsOf 28 = 2 := by kernel_rfl
  rw [hC] at hlen
  match cs, hlen with
  | [c0, c1, c2], _ =>
    have hyl : xs.length = 2 := by rw [hxl]; rfl
    have at_ : ∀ j, j < 2 → ∃ y, xs[j]? = some y := fun j hj => ⟨_, List.getElem?_eq_getElem (by omega)⟩
    obtain ⟨y0, e0⟩ := at_ 0 (by omega)
    obtain ⟨y1, e1⟩ := at_ 1 (by omega)
    have i0 := (hg 0 _ rfl).trans e0
    have i1 := (hg 1 _ rfl).trans e1
    simp [hk0] at i0
    simp [hk1] at i1
    obtain ⟨z0, a0, _, wf0⟩ := DataW.trod_int Tryd.underlying26 i0
    obtain ⟨z1, a1, hok⟩ := trod_cs i1
    simp only [List.cons.injEq, and_true] at a0
    simp only [Cs.cells, List.cons.injEq, and_true] at a1
    obtain ⟨a1, a1'⟩ := a1
    subst a0 a1 a1'
    obtain ⟨n0, rfl, h0⟩ := u32_nat wf0
    exact ⟨⟨n0, z1⟩, rfl, h0, hok⟩
theorem open_sp {r : Reach} {b0 : Nat} {v : Value} {d : DataW H} {p : List MemPlace} (hv : Value.okWide Tryd.prog w r b0 30 v) (h : DataW.Trod enc Tryd.prog w base spare held 30 v d p) : ∃ c : Stp, v = c.agg ∧ c.ok := by
  obtain ⟨cs, rfl, hsz⟩ := okWide_struct Tryd.underlying30 hv
  obtain ⟨fuel, hf⟩ := h
  obtain ⟨c, hc, hok⟩ := trod_sp hf
  refine ⟨c, ?_, hok⟩
  have : cs = c.cells.toArray := by rw [← hc]; simp [Value.cells]
  rw [this]; rfl
theorem trod_pc {fuel : Nat} {cs : List Value} {x : DataW H × List MemPlace} (h : DataW.trod enc Tryd.prog w base spare held fuel 25 cs = some x) : ∃ c : Pc, cs = c.cells := by
  obtain ⟨xs, n, _, _, hlen, hxl, hg⟩ := DataW.trod_struct Tryd.underlying25 h
  have hC : Tryd.prog.cellsOf 25 = 3 := by kernel_rfl
  have hk0 : Tryd.prog.cellsOf 23 = 2 := by kernel_rfl
  have hk1 : Tryd.prog.cellsOf 3 = 1 := by kernel_rfl
  rw [hC] at hlen
  match cs, hlen with
  | [c0, c1, c2], _ =>
    have hyl : xs.length = 2 := by rw [hxl]; rfl
    have at_ : ∀ j, j < 2 → ∃ y, xs[j]? = some y := fun j hj => ⟨_, List.getElem?_eq_getElem (by omega)⟩
    obtain ⟨y0, e0⟩ := at_ 0 (by omega)
    obtain ⟨y1, e1⟩ := at_ 1 (by omega)
    have i0 := (hg 0 _ rfl).trans e0
    have i1 := (hg 1 _ rfl).trans e1
    simp [hk0] at i0
    simp [hk1] at i1
    obtain ⟨z0, a0⟩ := trod_sw i0
    obtain ⟨z1, a1, _, wf1⟩ := DataW.trod_int Tryd.underlying3 i1
    simp only [Sw2.cells, List.cons.injEq, and_true] at a0
    simp only [List.cons.injEq, and_true] at a1
    obtain ⟨a0, a0'⟩ := a0
    subst a0 a0' a1
    exact ⟨⟨z0.d, z0.o, z1⟩, rfl⟩
theorem open_pc {r : Reach} {b0 : Nat} {v : Value} {d : DataW H} {p : List MemPlace} (hv : Value.okWide Tryd.prog w r b0 25 v) (h : DataW.Trod enc Tryd.prog w base spare held 25 v d p) : ∃ c : Pc, v = c.agg := by
  obtain ⟨cs, rfl, hsz⟩ := okWide_struct Tryd.underlying25 hv
  obtain ⟨fuel, hf⟩ := h
  obtain ⟨c, hc⟩ := trod_pc hf
  refine ⟨c, ?_⟩
  have : cs = c.cells.toArray := by rw [← hc]; simp [Value.cells]
  rw [this]; rfl
theorem open_sps {fuel : Nat} {v : Value} {x : DataW H × List MemPlace} (h : DataW.trod enc Tryd.prog w base spare held fuel 36 [v] = some x) : ∃ l : List Stp, SV w v l ∧ (∀ c ∈ l, c.ok) ∧ l.length ≤ maxLen := by
  rcases open_slice Tryd.underlying36 h with ⟨hcs, _⟩ | ⟨a, len, cap, m, n, D, Pl, hcs, _, hl, hm, hmm, _, hi⟩
  · simp only [List.cons.injEq, and_true] at hcs
    exact ⟨[], ⟨none, 0, hcs, .inl rfl⟩, by simp, by simp [maxLen]⟩
  · simp only [List.cons.injEq, and_true] at hcs
    subst hcs
    have hC : Tryd.prog.cellsOf 30 = 3 := by kernel_rfl
    have hml : len ≤ m := by rw [hmm]; split <;> omega
    obtain ⟨l, hll, hp⟩ := list_ofCt (fun i (c : Stp) => c.ok ∧ ∀ j v, c.cells[j]? = some v → w.cell? (a.add (i * 3 + j)) = some v) len (fun i hil => by
      obtain ⟨cs', hc, ht⟩ := hi i (by omega)
      rw [hC] at hc
      obtain ⟨c, hcc, hok⟩ := trod_sp ht
      obtain ⟨_, hcl, hat⟩ := World.cells?_some hc
      refine ⟨c, hok, fun j v hv => ?_⟩
      have hj : j < 3 := by
        rcases Nat.lt_or_ge j 3 with h | h
        · exact h
        · rw [List.getElem?_eq_none (by show 3 ≤ j; exact h)] at hv; cases hv
      rw [← Go.Deep.add_add, hat j hj, hcc]; exact hv)
    refine ⟨l, ⟨some a, cap, by rw [hll], ?_⟩, fun c hc => ?_, by omega⟩
    · rcases Nat.eq_zero_or_pos len with h0 | h0
      · exact .inl (List.eq_nil_of_length_eq_zero (by omega))
      · obtain ⟨b, off, spot⟩ := a
        have hfirst := (hp 0 (by omega)).2 0 _ rfl
        have hsp : spot = none := by
          cases spot with
          | none => rfl
          | some s =>
            simp only [Nat.zero_mul, Nat.add_zero, Addr.add, if_true] at hfirst
            unfold World.cell? at hfirst
            split at hfirst <;> simp at hfirst
        subst hsp
        refine .inr ⟨b, off, rfl, fun j v hv => ?_⟩
        have hj : j < l.length * 3 := by
          rcases Nat.lt_or_ge j (l.length * 3) with h | h
          · exact h
          · rw [List.getElem?_eq_none (by rw [flatS_length]; exact h)] at hv; cases hv
        have hg := flatS_get l (j / 3) (by omega) (j % 3) (Nat.mod_lt _ (by decide))
        rw [show j / 3 * 3 + j % 3 = j from by omega, hv] at hg
        have := (hp (j / 3) (by omega)).2 (j % 3) v hg.symm
        rw [show j / 3 * 3 + j % 3 = j from by omega] at this
        rw [← Addr.add_mid b off j]
        exact this
    · obtain ⟨i, hi', rfl⟩ := List.getElem_of_mem hc
      exact (hp i hi').1
/-- An array of whole numbers, cell by cell. -/
theorem trod_ints {P : Program} {fuel n : Nat} {t e : TypeId} {k : IntKind} {cs : List Value} {x : DataW H × List MemPlace} (ht : P.underlying t = some (.array n e)) (he : P.underlying e = some (.int k)) (hc : P.cellsOf e = 1) (hct : P.cellsOf t = n)
    (h : DataW.trod enc P w base spare held fuel t cs = some x) : ∃ ys : List Int, ys.length = n ∧ cs = (ys.map fun y => (Value.int k y)) ∧ x.1 = .agg (ys.map fun y => (DataW.lit (.int k y))) ∧ ∀ y ∈ ys, (Lit.int k y).wf = true := by
  obtain ⟨xs, m, _, hx, hlen, hxl, hg⟩ := DataW.trod_array ht h
  rw [hct] at hlen
  have hone : ∀ i, i < n → ∃ y : Int, cs[i]? = some (.int k y) ∧ (xs[i]?).map (·.1) = some (.lit (.int k y)) ∧ (Lit.int k y).wf = true := fun i hi => by
    have h1 := (hg i hi).trans (List.getElem?_eq_getElem (by omega : i < xs.length))
    rw [hc, Nat.mul_one, List.drop_eq_getElem_cons (by omega : i < cs.length)] at h1
    have h2 : DataW.trod enc P w base spare held m e [cs[i]'(by omega)] = some (xs[i]'(by omega)) := h1
    obtain ⟨y, hy, hd, hw⟩ := DataW.trod_int he h2
    simp only [List.cons.injEq, and_true] at hy
    exact ⟨y, by rw [List.getElem?_eq_getElem (by omega : i < cs.length), hy], by rw [List.getElem?_eq_getElem (by omega : i < xs.length), hd]; rfl, hw⟩
  obtain ⟨l, hl, hp⟩ := list_ofCt (fun i (y : Int) => cs[i]? = some (.int k y) ∧ (xs[i]?).map (·.1) = some (.lit (.int k y)) ∧ (Lit.int k y).wf = true) n hone
  refine ⟨l, hl, ?_, ?_, ?_⟩
  · apply List.ext_getElem?
    intro i
    rcases Nat.lt_or_ge i n with h | h
    · rw [(hp i (by omega)).1, List.getElem?_map, List.getElem?_eq_getElem (by omega : i < l.length)]; rfl
    · rw [List.getElem?_eq_none (by omega), List.getElem?_eq_none (by rw [List.length_map]; omega)]
  · rw [hx]
    refine congrArg DataW.agg ?_
    apply List.ext_getElem?
    intro i
    rw [List.getElem?_map, List.getElem?_map]
    rcases Nat.lt_or_ge i n with h | h
    · rw [(hp i (by omega)).2.1, List.getElem?_eq_getElem (by omega : i < l.length)]; rfl
    · rw [List.getElem?_eq_none (by omega : xs.length ≤ i), List.getElem?_eq_none (by omega : l.length ≤ i)]; rfl
  · intro y hy
    obtain ⟨i, hi, rfl⟩ := List.getElem_of_mem hy
    exact (hp i hi).2.2

theorem agg_of {T e : TypeId} {n : Nat} {r : Reach} {b0 : Nat} {v : Value} (ht : Tryd.prog.underlying T = some (.array n e)) (hv : Value.okWide Tryd.prog w r b0 T v) : ∃ cs, v = .agg cs ∧ cs.size = Tryd.prog.cellsOf T := by
  simp only [Value.okWide, ht] at hv
  obtain ⟨cs, h1, h2, _⟩ := hv
  exact ⟨cs, h1, h2⟩
theorem open_au8_3 {r : Reach} {b0 : Nat} {v : Value} {d : DataW H} {p : List MemPlace} (hv : Value.okWide Tryd.prog w r b0 43 v) (h : DataW.Trod enc Tryd.prog w base spare held 43 v d p) :
    ∃ x y z : Nat, v = .agg #[.int .u8 x, .int .u8 y, .int .u8 z] ∧ x < 256 ∧ y < 256 ∧ z < 256 := by
  obtain ⟨⟨l⟩, rfl, hsz⟩ := agg_of Tryd.underlying43 hv
  obtain ⟨fuel, hf⟩ := h
  obtain ⟨ys, hl, hcs, _, hw⟩ := trod_ints Tryd.underlying43 Tryd.underlying5 (by kernel_rfl) (by kernel_rfl) hf
  match ys, hl with
  | [x, y, z], _ =>
    obtain ⟨m, rfl, hm⟩ := u8_nat (hw x (by simp))
    obtain ⟨n, rfl, hn⟩ := u8_nat (hw y (by simp))
    obtain ⟨k, rfl, hk⟩ := u8_nat (hw z (by simp))
    refine ⟨m, n, k, ?_, hm, hn, hk⟩
    have : l = [.int .u8 m, .int .u8 n, .int .u8 k] := by simpa [Value.cells] using hcs
    rw [this]
theorem open_au8_2 {r : Reach} {b0 : Nat} {v : Value} {d : DataW H} {p : List MemPlace} (hv : Value.okWide Tryd.prog w r b0 48 v) (h : DataW.Trod enc Tryd.prog w base spare held 48 v d p) :
    ∃ x y : Nat, v = .agg #[.int .u8 x, .int .u8 y] ∧ x < 256 ∧ y < 256 := by
  obtain ⟨⟨l⟩, rfl, hsz⟩ := agg_of Tryd.underlying48 hv
  obtain ⟨fuel, hf⟩ := h
  obtain ⟨ys, hl, hcs, _, hw⟩ := trod_ints Tryd.underlying48 Tryd.underlying5 (by kernel_rfl) (by kernel_rfl) hf
  match ys, hl with
  | [x, y], _ =>
    obtain ⟨m, rfl, hm⟩ := u8_nat (hw x (by simp))
    obtain ⟨n, rfl, hn⟩ := u8_nat (hw y (by simp))
    refine ⟨m, n, ?_, hm, hn⟩
    have : l = [.int .u8 m, .int .u8 n] := by simpa [Value.cells] using hcs
    rw [this]
theorem i64_of {x : Int} (h : (Lit.int .i64 x).wf = true) : -9223372036854775808 ≤ x ∧ x ≤ 9223372036854775807 := by
  simp [Lit.wf, IntKind.min, IntKind.max, IntKind.bits, IntKind.signed] at h
  omega
end
/-- A table in a package-level variable: its cells. -/
theorem table_cells {P : Program} {W : World} {g n : Nat} {name : String} {t e : TypeId} {k : IntKind} {cs : Array Value} {fuel : Nat} {spare : Nat → Bool} {held : Bool} {enc : TypeId × Value → Unit} {base : Nat} {d : DataW Unit} {p : List MemPlace} (ys : List Int)
    (ht : P.underlying t = some (.array n e)) (he : P.underlying e = some (.int k)) (hc : P.cellsOf e = 1) (hct : P.cellsOf t = n)
    (hg : P.globalNamed name = some g) (hv : W.var? P name = some cs) (hd : DataW.trod enc P W base spare held fuel t cs.toList = some (d, p))
    (hx : d = .agg (ys.map fun y => (DataW.lit (.int k y)))) : ∀ j, j < n → W.cell? ⟨g, j, none⟩ = some (.int k (ys.getD j 0)) := by
  obtain ⟨zs, hl, hcs, hz, _⟩ := trod_ints ht he hc hct hd
  have hzy : zs = ys := by
    rw [hx] at hz
    have h1 := DataW.agg.inj hz
    have : ∀ (a b : List Int), (a.map fun y => (DataW.lit (.int k y) : DataW Unit)) = (b.map fun y => (DataW.lit (.int k y))) → a = b := by
      intro a
      induction a with
      | nil => intro b h; cases b with
        | nil => rfl
        | cons y r => simp at h
      | cons y r ih => intro b h; cases b with
        | nil => simp at h
        | cons y' r' =>
          simp only [List.map_cons, List.cons.injEq, DataW.lit.injEq, Lit.int.injEq, true_and] at h
          rw [h.1, ih r' h.2]
    exact (this _ _ h1).symm
  subst hzy
  intro j hj
  have := World.var?_cell hg hv j
  rw [this, ← Array.getElem?_toList, hcs, List.getElem?_map, List.getElem?_eq_getElem (by omega : j < zs.length), List.getD_eq_getElem?_getD, List.getElem?_eq_getElem (by omega : j < zs.length)]
  rfl


noncomputable abbrev laidAll : List (String × DataW Unit) := [("math/bits.deBruijn32tab", Rows.laid_math_bits_deBruijn32tab), ("overlay/collective.steps", Rows.laid_overlay_collective_steps)]
/-- The door's own heap meets the condition. -/
theorem door_met (os : Os) (args : Array Value) : laidMetH Tryd.prog laidAll ((World.doorLaid Tryd.prog 19 os).forCall (fun _ _ => 0) ⟨#[], args, []⟩).memory :=
  laidMetH_of_parts3 (fuel := 8) (laidMet_of_run' 8 (by kernel_rfl) (by kernel_rfl)) (by kernel_rfl) (by kernel_rfl)

theorem tabs_of_laid {W : World} (h : laidMetH Tryd.prog laidAll W) : Tabs W := by
  rw [MakeChecks.laidMetH_plain _ _ _ (by kernel_rfl)] at h
  obtain ⟨ps, ⟨g0, t0, cs0, f0, p0, q0, hg0, ht0, hv0, hd0, ⟨g1, t1, cs1, f1, p1, q1, hg1, ht1, hv1, hd1, _, _⟩, _⟩, _, _⟩ := h
  obtain rfl := Option.some.inj ((show Tryd.prog.globalNamed "math/bits.deBruijn32tab" = some 1 by kernel_rfl).symm.trans hg0)
  obtain rfl := Option.some.inj ((show Tryd.prog.globalNamed "overlay/collective.steps" = some 0 by kernel_rfl).symm.trans hg1)
  obtain rfl := Option.some.inj ((show (Tryd.prog.globals[1]?).map (·.type) = some 80 by kernel_rfl).symm.trans ht0)
  obtain rfl := Option.some.inj ((show (Tryd.prog.globals[0]?).map (·.type) = some 78 by kernel_rfl).symm.trans ht1)
  have c0 := table_cells (n := 32) (Go.Lib.deBruijn32tab.map fun x : Nat => (x : Int)) Tryd.underlying80 Tryd.underlying5 (by kernel_rfl) (by kernel_rfl) hg0 hv0 hd0 rfl
  have c1 := table_cells (n := 3) [0, 1, 2] Tryd.underlying78 Tryd.underlying3 (by kernel_rfl) (by kernel_rfl) hg1 hv1 hd1 rfl
  have three : ∀ j : Nat, j < 3 → ([0, 1, 2] : List Int).getD j 0 = (j : Int) := by decide
  have tz : ∀ j : Nat, j < 32 → (Go.Lib.deBruijn32tab.map fun x : Nat => (x : Int)).getD j 0 = ((Go.Lib.deBruijn32tab.getD j 0 : Nat) : Int) := by decide +kernel
  exact ⟨fun j hj => by rw [c1 j hj, three j hj], fun j hj => by rw [c0 j hj, tz j hj]⟩
end Go.Proofs.YteniimbcbjbegaaDoor
