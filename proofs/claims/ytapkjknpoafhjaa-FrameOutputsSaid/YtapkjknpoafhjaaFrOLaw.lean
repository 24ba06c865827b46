/- The law FrameOutputs: the frame of arbitrary outputs, and of valid ones, or the error; valid ones are read back. No condition. -/
import Derived.Test.YtapkjknpoafhjaaMem
import Derived.Deep.Slices
import Derived.Deep.Fields
import Derived.ChangeSame
import Derived.ChangeOld
import Derived.Test.YtapkjknpoafhjaaFrOFit
import Derived.ChangeMaps5
import Derived.Test.YtapkjknpoafhjaaFrOutB
import Derived.ChangeKeysEq
import Derived.Test.YtapkjknpoafhjaaFrRefB
import Derived.Test.YtapkjknpoafhjaaFrSane
namespace Go.Proofs.Ytapkjknpoafhjaa
section
open Go.RowKit Go.ChangeShapes Go.WideShapes Go.Deep


theorem list_of {α : Type} (d : α) (P : Nat → α → Prop) : ∀ n : Nat, (∀ i, i < n → ∃ c, P i c) → ∃ l : List α, l.length = n ∧ ∀ i, i < n → P i (l.getD i d)
  | 0, _ => ⟨[], rfl, fun i hi => absurd hi (by omega)⟩
  | n + 1, h => by
    obtain ⟨l, hl, hp⟩ := list_of d P n (fun i hi => h i (by omega))
    obtain ⟨c, hc⟩ := h n (by omega)
    refine ⟨l ++ [c], by simp [hl], fun i hi => ?_⟩
    rcases Nat.lt_or_ge i n with hlt | hge
    · have := hp i hlt
      rw [List.getD_eq_getElem?_getD] at this ⊢
      rwa [List.getElem?_append_left (by omega)]
    · obtain rfl : i = n := by omega
      rw [List.getD_eq_getElem?_getD, List.getElem?_append_right (by omega), hl]
      simpa using hc

section
variable {H : Type} {enc : TypeId × Value → H} {w : World} {base : Nat} {spare : Nat → Bool} {held : Bool}

theorem open_cars {fuel : Nat} {v : Value} {x : DataW H × List MemPlace} (h : DataW.trod enc Try.prog w base spare held fuel 23 [v] = some x) :
    ∃ (A : Option Addr) (cap : Nat) (cs : List CarD), v = .slice A cs.length cap ∧ CarsAt w w.heap.size A cs ∧ cs.length ≤ 9223372036854775807 := by
  obtain ⟨fs, hfs⟩ : ∃ fs, Try.prog.underlying 106 = some (.struct fs) := ⟨_, Try.underlying106⟩
  rcases open_slice Try.underlying23 h with ⟨hcs, _⟩ | ⟨a, len, cap, m, n, D, Pl, hcs, _, hl, hm, hmm, _, hi⟩
  · simp only [List.cons.injEq, and_true] at hcs
    exact ⟨none, 0, [], hcs, .inl rfl, by simp⟩
  · simp only [List.cons.injEq, and_true] at hcs
    subst hcs
    have hC : Try.prog.cellsOf 106 = 9 := by kernel_rfl
    have hml : len ≤ m := by rw [hmm]; split <;> omega
    have hone : ∀ i, i < len → ∃ c : CarD, ∀ j, j < 9 → w.cell? (a.add (i * 9 + j)) = some (.int .i64 (c.vals.getD j 0)) := by
      intro i hil
      obtain ⟨cs', hc, ht⟩ := hi i (by omega)
      rw [hC] at hc
      obtain ⟨ys, n', _, hy, hlen, hyl, hf⟩ := DataW.trod_struct Try.underlying106 ht
      obtain ⟨_, hcl, hat⟩ := World.cells?_some hc
      have hfield : ∀ j, j < 9 → ∃ z, w.cell? (a.add (i * 9 + j)) = some (.int .i64 z) := by
        intro j hj
        have hcell := hat j hj
        have hcs : cs'[j]? = some (cs'[j]'(by omega)) := List.getElem?_eq_getElem (by omega)
        have hint : ∃ z, cs'[j]'(by omega) = .int .i64 z := by
          have hdrop : (cs'.drop j).take 1 = [cs'[j]'(by omega)] := by
            rw [List.drop_eq_getElem_cons (by omega)]
            rfl
          have hk : Try.prog.cellsOf 3 = 1 := by kernel_rfl
          have key : ∀ f : Field, f.offset = j → f.type = 3 → (∃ y, DataW.trod enc Try.prog w base spare held n' f.type ((cs'.drop f.offset).take (Try.prog.cellsOf f.type)) = some y) → ∃ z, cs'[j]'(by omega) = .int .i64 z := by
            intro f ho ht' ⟨y, hy'⟩
            rw [ho, ht', hk, hdrop] at hy'
            obtain ⟨z, hz, _⟩ := DataW.trod_int Try.underlying3 hy'
            simp only [List.cons.injEq, and_true] at hz
            exact ⟨z, hz⟩
          have hj' : j = 0 ∨ j = 1 ∨ j = 2 ∨ j = 3 ∨ j = 4 ∨ j = 5 ∨ j = 6 ∨ j = 7 ∨ j = 8 := by omega
          rcases hj' with rfl | rfl | rfl | rfl | rfl | rfl | rfl | rfl | rfl
          · exact key _ rfl rfl ⟨_, (hf 0 _ rfl).trans (List.getElem?_eq_getElem (by rw [hyl]; decide))⟩
          · exact key _ rfl rfl ⟨_, (hf 1 _ rfl).trans (List.getElem?_eq_getElem (by rw [hyl]; decide))⟩
          · exact key _ rfl rfl ⟨_, (hf 2 _ rfl).trans (List.getElem?_eq_getElem (by rw [hyl]; decide))⟩
          · exact key _ rfl rfl ⟨_, (hf 3 _ rfl).trans (List.getElem?_eq_getElem (by rw [hyl]; decide))⟩
          · exact key _ rfl rfl ⟨_, (hf 4 _ rfl).trans (List.getElem?_eq_getElem (by rw [hyl]; decide))⟩
          · exact key _ rfl rfl ⟨_, (hf 5 _ rfl).trans (List.getElem?_eq_getElem (by rw [hyl]; decide))⟩
          · exact key _ rfl rfl ⟨_, (hf 6 _ rfl).trans (List.getElem?_eq_getElem (by rw [hyl]; decide))⟩
          · exact key _ rfl rfl ⟨_, (hf 7 _ rfl).trans (List.getElem?_eq_getElem (by rw [hyl]; decide))⟩
          · exact key _ rfl rfl ⟨_, (hf 8 _ rfl).trans (List.getElem?_eq_getElem (by rw [hyl]; decide))⟩
        obtain ⟨z, hz⟩ := hint
        exact ⟨z, by rw [← Go.Deep.add_add, hcell, hcs, hz]⟩
      obtain ⟨c1, h1⟩ := hfield 0 (by omega)
      obtain ⟨c2, h2⟩ := hfield 1 (by omega)
      obtain ⟨c3, h3⟩ := hfield 2 (by omega)
      obtain ⟨c4, h4⟩ := hfield 3 (by omega)
      obtain ⟨c5, h5⟩ := hfield 4 (by omega)
      obtain ⟨c6, h6⟩ := hfield 5 (by omega)
      obtain ⟨c7, h7⟩ := hfield 6 (by omega)
      obtain ⟨c8, h8⟩ := hfield 7 (by omega)
      obtain ⟨c9, h9⟩ := hfield 8 (by omega)
      refine ⟨⟨c1, c2, c3, c4, c5, c6, c7, c8, c9⟩, fun j hj => ?_⟩
      match j, hj with
      | 0, _ => exact h1
      | 1, _ => exact h2
      | 2, _ => exact h3
      | 3, _ => exact h4
      | 4, _ => exact h5
      | 5, _ => exact h6
      | 6, _ => exact h7
      | 7, _ => exact h8
      | 8, _ => exact h9
    obtain ⟨cs, hlen, hcs⟩ := list_of (default : CarD) (fun i c => ∀ j, j < 9 → w.cell? (a.add (i * 9 + j)) = some (.int .i64 (c.vals.getD j 0))) len hone
    refine ⟨some a, cap, cs, by rw [hlen], ?_, by unfold maxLen at hm; omega⟩
    rcases Nat.eq_zero_or_pos len with h0 | h0
    · exact .inl (List.eq_nil_of_length_eq_zero (by omega))
    · obtain ⟨b, off, spot⟩ := a
      have hfirst := hcs 0 h0 0 (by omega)
      have hsp : spot = none := by
        cases spot with
        | none => rfl
        | some s =>
          simp only [Nat.zero_mul, Nat.add_zero, Addr.add, if_true] at hfirst
          unfold World.cell? at hfirst
          split at hfirst <;> simp at hfirst
      subst hsp
      refine .inr ⟨b, off, rfl, ?_, fun i hil j hj => ?_⟩
      · have := World.block_lt_of_cell? w _ hfirst
        simpa [Addr.add] using this
      · have := hcs i (by omega) j hj
        have hadd : (⟨b, off, none⟩ : Addr).add (i * 9 + j) = ⟨b, off + i * 9 + j, none⟩ := by unfold Addr.add; split <;> simp_all; omega
        rw [← hadd]
        exact this

theorem trod_float_bits {fuel : Nat} {v : Value} {x : DataW H × List MemPlace} (h : DataW.trod enc Try.prog w base spare held fuel 22 [v] = some x) : ∃ b, v = .float .f64 b := by
  cases fuel with
  | zero => simp [DataW.trod] at h
  | succ n =>
    simp only [DataW.trod, Try.underlying22] at h
    split at h <;> simp_all

set_option maxRecDepth 100000 in
theorem open_building {r : Reach} {b0 : Nat} {v : Value} {d : DataW H} {p : List MemPlace} (hv : Value.okWide Try.prog w r b0 25 v) (h : DataW.Trod enc Try.prog w base spare held 25 v d p) :
    ∃ (b : BldD) (A : Option Addr) (cap : Nat), v = b.agg A cap ∧ CarsAt w w.heap.size A b.cars ∧ b.cars.length ≤ 9223372036854775807 := by
  obtain ⟨cs, rfl, hsz⟩ := okWide_struct Try.underlying25 hv
  obtain ⟨l⟩ := cs
  have hC : Try.prog.cellsOf 25 = 8 := by kernel_rfl
  match l, hsz.trans hC with
  | [c0, c1, c2, c3, c4, c5, c6, c7], _ =>
    obtain ⟨fuel, hf⟩ := h
    obtain ⟨xs, n, _, hx, _, hlen, hg⟩ := DataW.trod_struct Try.underlying25 hf
    have hki : Try.prog.cellsOf 3 = 1 := by kernel_rfl
    have hkf : Try.prog.cellsOf 22 = 1 := by kernel_rfl
    have hks : Try.prog.cellsOf 23 = 1 := by kernel_rfl
    have hyl : xs.length = 8 := by rw [hlen]; rfl
    have at_ : ∀ j, j < 8 → ∃ y, xs[j]? = some y := fun j hj => ⟨_, List.getElem?_eq_getElem (by omega)⟩
    obtain ⟨y0, e0⟩ := at_ 0 (by omega)
    obtain ⟨y1, e1⟩ := at_ 1 (by omega)
    obtain ⟨y2, e2⟩ := at_ 2 (by omega)
    obtain ⟨y3, e3⟩ := at_ 3 (by omega)
    obtain ⟨y4, e4⟩ := at_ 4 (by omega)
    obtain ⟨y5, e5⟩ := at_ 5 (by omega)
    obtain ⟨y6, e6⟩ := at_ 6 (by omega)
    obtain ⟨y7, e7⟩ := at_ 7 (by omega)
    have i0 := (hg 0 _ rfl).trans e0
    have i1 := (hg 1 _ rfl).trans e1
    have i2 := (hg 2 _ rfl).trans e2
    have i3 := (hg 3 _ rfl).trans e3
    have i4 := (hg 4 _ rfl).trans e4
    have i5 := (hg 5 _ rfl).trans e5
    have i6 := (hg 6 _ rfl).trans e6
    have i7 := (hg 7 _ rfl).trans e7
    simp [Value.cells, hki, hkf, hks] at i0 i1 i2 i3 i4 i5 i6 i7
    obtain ⟨z0, a0, _⟩ := DataW.trod_int Try.underlying3 i0
    obtain ⟨z1, a1, _⟩ := DataW.trod_int Try.underlying3 i1
    obtain ⟨z2, a2, _⟩ := DataW.trod_int Try.underlying3 i2
    obtain ⟨z3, a3, _⟩ := DataW.trod_int Try.underlying3 i3
    obtain ⟨z4, a4⟩ := trod_float_bits i4
    obtain ⟨z5, a5⟩ := trod_float_bits i5
    obtain ⟨z6, a6⟩ := trod_float_bits i6
    obtain ⟨A, cap, cars, a7, hcars⟩ := open_cars i7
    simp only [List.cons.injEq, and_true] at a0 a1 a2 a3
    subst a0 a1 a2 a3 a4 a5 a6 a7
    exact ⟨⟨z0, z1, z2, z3, z4, z5, z6, cars⟩, A, cap, rfl, hcars⟩
end
end

section
open Go Go.RowKit Go.ChangeShapes Go.WideShapes Go.Deep Frm

theorem u8_natO {x : Int} (h : (Lit.int .u8 x).wf = true) : ∃ n : Nat, x = (n : Int) ∧ n < 256 := by
  simp [Lit.wf, IntKind.min, IntKind.max, IntKind.bits, IntKind.signed] at h
  exact ⟨x.toNat, by omega, by omega⟩
theorem u32_natO {x : Int} (h : (Lit.int .u32 x).wf = true) : ∃ n : Nat, x = (n : Int) ∧ n < 4294967296 := by
  simp [Lit.wf, IntKind.min, IntKind.max, IntKind.bits, IntKind.signed] at h
  exact ⟨x.toNat, by omega, by omega⟩
theorem i64_in64O {x : Int} (h : (Lit.int .i64 x).wf = true) : In64 x := by
  simp [Lit.wf, IntKind.min, IntKind.max, IntKind.bits, IntKind.signed] at h
  unfold In64; omega
theorem list_ofCtO {α : Type} (P : Nat → α → Prop) : ∀ n : Nat, (∀ i, i < n → ∃ c, P i c) → ∃ l : List α, l.length = n ∧ ∀ i (h : i < l.length), P i l[i]
  | 0, _ => ⟨[], rfl, fun i hi => absurd hi (by simp)⟩
  | n + 1, h => by
    obtain ⟨l, hl, hp⟩ := list_ofCtO P n (fun i hi => h i (by omega))
    obtain ⟨c, hc⟩ := h n (by omega)
    refine ⟨l ++ [c], by simp [hl], fun i hi => ?_⟩
    rcases Nat.lt_or_ge i l.length with hlt | hge
    · rw [List.getElem_append_left hlt]; exact hp i hlt
    · have : i = n := by simp at hi; omega
      subst this
      rw [List.getElem_append_right hge]
      simpa [hl] using hc

section
variable {H : Type} {enc : TypeId × Value → H} {w : World} {base : Nat} {spare : Nat → Bool} {held : Bool}
set_option maxRecDepth 100000 in
theorem trod_callsO {fuel : Nat} {cs : List Value} {x : DataW H × List MemPlace} (h : DataW.trod enc Try.prog w base spare held fuel 28 cs = some x) : ∃ (a b : Nat), cs = [.int .u32 a, .int .u32 b] ∧ a < 4294967296 ∧ b < 4294967296 := by
  obtain ⟨xs, n, _, _, hlen, hxl, hg⟩ := DataW.trod_struct Try.underlying28 h
  have hC : Try.prog.cellsOf 28 = 2 := by kernel_rfl
  have hkuint32 : Try.prog.cellsOf 26 = 1 := by kernel_rfl
  rw [hC] at hlen
  match cs, hlen with
  | [c0, c1], _ =>
    have hyl : xs.length = 2 := by rw [hxl]; rfl
    have i0 := (hg 0 _ rfl).trans (List.getElem?_eq_getElem (by omega : 0 < xs.length))
    have i1 := (hg 1 _ rfl).trans (List.getElem?_eq_getElem (by omega : 1 < xs.length))
    simp [hkuint32] at i0 i1
    obtain ⟨z0, a0, _, wf0⟩ := DataW.trod_int Try.underlying26 i0
    obtain ⟨z1, a1, _, wf1⟩ := DataW.trod_int Try.underlying26 i1
    simp only [List.cons.injEq, and_true] at a0 a1
    subst a0 a1
    obtain ⟨n0, rfl, h0⟩ := u32_natO wf0
    obtain ⟨n1, rfl, h1⟩ := u32_natO wf1
    exact ⟨n0, n1, rfl, h0, h1⟩
set_option maxRecDepth 100000 in
theorem trod_coilsO {fuel : Nat} {cs : List Value} {x : DataW H × List MemPlace} (h : DataW.trod enc Try.prog w base spare held fuel 91 cs = some x) : ∃ (a b : Nat) (c : Bool), cs = [.int .u32 a, .int .u32 b, .bool c] ∧ a < 4294967296 ∧ b < 4294967296 := by
  obtain ⟨xs, n, _, _, hlen, hxl, hg⟩ := DataW.trod_struct Try.underlying91 h
  have hC : Try.prog.cellsOf 91 = 3 := by kernel_rfl
  have hk1 : Try.prog.cellsOf 28 = 2 := by kernel_rfl
  have hk2 : Try.prog.cellsOf 4 = 1 := by kernel_rfl
  rw [hC] at hlen
  match cs, hlen with
  | [c0, c1, c2], _ =>
    have hyl : xs.length = 2 := by rw [hxl]; rfl
    have i0 := (hg 0 _ rfl).trans (List.getElem?_eq_getElem (by omega : 0 < xs.length))
    have i1 := (hg 1 _ rfl).trans (List.getElem?_eq_getElem (by omega : 1 < xs.length))
    simp [hk1, hk2] at i0 i1
    obtain ⟨a, b, e0, ha, hb⟩ := trod_callsO i0
    obtain ⟨z, e1, _⟩ := DataW.trod_bool Try.underlying4 i1
    simp only [List.cons.injEq, and_true] at e0 e1
    obtain ⟨rfl, rfl⟩ := e0
    subst e1
    exact ⟨a, b, z, rfl, ha, hb⟩
theorem list9O (l : List Value) (h : l.length = 9) : ∃ c0 c1 c2 c3 c4 c5 c6 c7 c8, l = [c0, c1, c2, c3, c4, c5, c6, c7, c8] := by
  match l, h with
  | [c0, c1, c2, c3, c4, c5, c6, c7, c8], _ => exact ⟨c0, c1, c2, c3, c4, c5, c6, c7, c8, rfl⟩
theorem list8O (l : List Value) (h : l.length = 8) : ∃ c0 c1 c2 c3 c4 c5 c6 c7, l = [c0, c1, c2, c3, c4, c5, c6, c7] := by
  match l, h with
  | [c0, c1, c2, c3, c4, c5, c6, c7], _ => exact ⟨c0, c1, c2, c3, c4, c5, c6, c7, rfl⟩
set_option maxRecDepth 100000 in
theorem trod_carout {fuel : Nat} {cs : List Value} {x : DataW H × List MemPlace} (h : DataW.trod enc Try.prog w base spare held fuel 93 cs = some x) : ∃ c : CarOut, cs = coV c ∧ saneCo c := by
  obtain ⟨xs, n, _, _, hlen, hxl, hg⟩ := DataW.trod_struct Try.underlying93 h
  have hC : Try.prog.cellsOf 93 = 9 := by kernel_rfl
  have hk1 : Try.prog.cellsOf 91 = 3 := by kernel_rfl
  have hk2 : Try.prog.cellsOf 28 = 2 := by kernel_rfl
  have hk3 : Try.prog.cellsOf 4 = 1 := by kernel_rfl
  have hk4 : Try.prog.cellsOf 3 = 1 := by kernel_rfl
  rw [hC] at hlen
  obtain ⟨c0, c1, c2, c3, c4, c5, c6, c7, c8, rfl⟩ := list9O cs hlen
  have hyl : xs.length = 6 := by rw [hxl]; rfl
  have i0 := (hg 0 _ rfl).trans (List.getElem?_eq_getElem (by omega : 0 < xs.length))
  have i1 := (hg 1 _ rfl).trans (List.getElem?_eq_getElem (by omega : 1 < xs.length))
  have i2 := (hg 2 _ rfl).trans (List.getElem?_eq_getElem (by omega : 2 < xs.length))
  have i3 := (hg 3 _ rfl).trans (List.getElem?_eq_getElem (by omega : 3 < xs.length))
  have i4 := (hg 4 _ rfl).trans (List.getElem?_eq_getElem (by omega : 4 < xs.length))
  have i5 := (hg 5 _ rfl).trans (List.getElem?_eq_getElem (by omega : 5 < xs.length))
  simp [hk1, hk2, hk3, hk4] at i0 i1 i2 i3 i4 i5
  obtain ⟨a, b, c, e0, ha, hb⟩ := trod_coilsO i0
  obtain ⟨d, e, e1, hd, he⟩ := trod_callsO i1
  obtain ⟨g, e2, _⟩ := DataW.trod_bool Try.underlying4 i2
  obtain ⟨m, e3, _, wf3⟩ := DataW.trod_int Try.underlying3 i3
  obtain ⟨p, e4, _, wf4⟩ := DataW.trod_int Try.underlying3 i4
  obtain ⟨q, e5, _⟩ := DataW.trod_bool Try.underlying4 i5
  simp only [List.cons.injEq, and_true] at e0 e1 e2 e3 e4 e5
  obtain ⟨rfl, rfl, rfl⟩ := e0
  obtain ⟨rfl, rfl⟩ := e1
  subst e2 e3 e4 e5
  exact ⟨⟨a, b, c, d, e, g, m, p, q⟩, rfl, ⟨ha, hb⟩, ⟨hd, he⟩, i64_in64O wf3, i64_in64O wf4⟩
set_option maxRecDepth 100000 in
theorem open_carouts {fuel : Nat} {v : Value} {x : DataW H × List MemPlace} (h : DataW.trod enc Try.prog w base spare held fuel 44 [v] = some x) : ∃ (A : Option Addr) (cap : Nat) (l : List CarOut), v = .slice A l.length cap ∧ CosV w A l ∧ (∀ c ∈ l, saneCo c) ∧ l.length ≤ maxLen := by
  rcases open_slice Try.underlying44 h with ⟨hcs, _⟩ | ⟨a, len, cap, m, n, D, Pl, hcs, _, hl, hm, hmm, _, hi⟩
  · simp only [List.cons.injEq, and_true] at hcs
    exact ⟨none, 0, [], hcs, .inl rfl, by simp, by simp [maxLen]⟩
  · simp only [List.cons.injEq, and_true] at hcs
    subst hcs
    have hC : Try.prog.cellsOf 93 = 9 := by kernel_rfl
    have hml : len ≤ m := by rw [hmm]; split <;> omega
    obtain ⟨l, hll, hp⟩ := list_ofCtO (fun i (c : CarOut) => saneCo c ∧ ∀ j v, (coV c)[j]? = some v → w.cell? (a.add (i * 9 + j)) = some v) len (fun i hil => by
      obtain ⟨cs', hc, ht⟩ := hi i (by omega)
      rw [hC] at hc
      obtain ⟨c, hcc, hok⟩ := trod_carout ht
      obtain ⟨_, hcl, hat⟩ := World.cells?_some hc
      refine ⟨c, hok, fun j v hv => ?_⟩
      have hj : j < 9 := by
        rcases Nat.lt_or_ge j 9 with h | h
        · exact h
        · rw [List.getElem?_eq_none (by show 9 ≤ j; exact h)] at hv; cases hv
      rw [← Go.Deep.add_add, hat j hj, hcc]; exact hv)
    refine ⟨some a, cap, l, by rw [hll], ?_, fun c hc => ?_, by omega⟩
    · rcases Nat.eq_zero_or_pos len with h0 | h0
      · exact .inl (List.eq_nil_of_length_eq_zero (by omega))
      · obtain ⟨b, off, spot⟩ := a
        have hfirst := (hp 0 (by omega)).2 0 _ rfl
        have hsp : spot = none := by
          cases spot with
          | none => rfl
          | some s =>
            simp only [Nat.zero_mul, Nat.add_zero, Addr.add, if_true] at hfirst
            unfold World.cell? at hfirst
            split at hfirst <;> simp at hfirst
        subst hsp
        refine .inr ⟨b, off, rfl, fun i hi j v hv => ?_⟩
        have := (hp i hi).2 j v hv
        have hadd : (⟨b, off, none⟩ : Addr).add (i * 9 + j) = ⟨b, off + i * 9 + j, none⟩ := by unfold Addr.add; split <;> simp_all; omega
        rw [← hadd]
        exact this
    · obtain ⟨i, hi', rfl⟩ := List.getElem_of_mem hc
      exact (hp i hi').1
set_option maxRecDepth 100000 in
theorem open_outputs {r : Reach} {b0 : Nat} {v : Value} {d : DataW H} {p : List MemPlace} (hv : Value.okWide Try.prog w r b0 46 v) (h : DataW.Trod enc Try.prog w base spare held 46 v d p) :
    ∃ (y : Ou) (A : Option Addr) (cp : Nat), v = ouAgg y A cp ∧ saneOu y ∧ CosV w A y.cars ∧ y.cars.length ≤ maxLen := by
  obtain ⟨cs, rfl, hsz⟩ := okWide_struct Try.underlying46 hv
  obtain ⟨l⟩ := cs
  have hC : Try.prog.cellsOf 46 = 8 := by kernel_rfl
  have hk1 : Try.prog.cellsOf 28 = 2 := by kernel_rfl
  have hk2 : Try.prog.cellsOf 4 = 1 := by kernel_rfl
  have hk3 : Try.prog.cellsOf 44 = 1 := by kernel_rfl
  have hk4 : Try.prog.cellsOf 37 = 1 := by kernel_rfl
  have hl8 : l.length = 8 := hsz.trans hC
  obtain ⟨c0, c1, c2, c3, c4, c5, c6, c7, rfl⟩ := list8O l hl8
  obtain ⟨fuel, hf⟩ := h
  obtain ⟨xs, n, _, hx, _, hlen, hg⟩ := DataW.trod_struct Try.underlying46 hf
  have hyl : xs.length = 6 := by rw [hlen]; rfl
  have i0 := (hg 0 _ rfl).trans (List.getElem?_eq_getElem (by omega : 0 < xs.length))
  have i1 := (hg 1 _ rfl).trans (List.getElem?_eq_getElem (by omega : 1 < xs.length))
  have i2 := (hg 2 _ rfl).trans (List.getElem?_eq_getElem (by omega : 2 < xs.length))
  have i3 := (hg 3 _ rfl).trans (List.getElem?_eq_getElem (by omega : 3 < xs.length))
  have i4 := (hg 4 _ rfl).trans (List.getElem?_eq_getElem (by omega : 4 < xs.length))
  have i5 := (hg 5 _ rfl).trans (List.getElem?_eq_getElem (by omega : 5 < xs.length))
  simp [Value.cells, hk1, hk2, hk3, hk4] at i0 i1 i2 i3 i4 i5
  obtain ⟨a, b, e0, ha, hb⟩ := trod_callsO i0
  obtain ⟨c, d, e1, hc, hd⟩ := trod_callsO i1
  obtain ⟨g, e2, _⟩ := DataW.trod_bool Try.underlying4 i2
  obtain ⟨m, e3, _⟩ := DataW.trod_bool Try.underlying4 i3
  obtain ⟨s, e4, _, wf4⟩ := DataW.trod_int Try.underlying37 i4
  obtain ⟨A, cap, l, e5, hcv, hsn, hml⟩ := open_carouts i5
  simp only [List.cons.injEq, and_true] at e0 e1 e2 e3 e4
  obtain ⟨rfl, rfl⟩ := e0
  obtain ⟨rfl, rfl⟩ := e1
  subst e2 e3 e4 e5
  exact ⟨⟨⟨a, b, c, d, g, m, s⟩, l⟩, A, cap, rfl, ⟨⟨⟨ha, hb⟩, ⟨hc, hd⟩, i64_in64O wf4⟩, hsn⟩, hcv, hml⟩
end
end

section
open Go.RowKit Frm

theorem part_row {t : TypeId} {d : TypeDesc} {n off : Nat} {cs : Array Value} (w : World) (hu : Try.prog.underlying t = some d) (hd : d.isRow = true) (hi : (Try.prog.info? t).map (·.size) = some n) : (part t cs off).run Try.prog w = .ok (.agg (cs.extract off (off + n))) w := by
  cases hq : Try.prog.info? t with
  | none => simp [hq] at hi
  | some i =>
    have hs : i.size = n := by simpa [hq] using hi
    have hagg : (isAgg t).run Try.prog w = .ok true w := by
      unfold isAgg
      rw [Sem.run_bind, run_underlying hu w]
      cases d <;> simp_all
    simp [part, Sem.run_bind, hagg, sizeOf, typeInfo, hq, hs]
theorem fieldsCalls : Try.prog.underlying 28 = some (.struct (Try.prog.fieldsOf 28)) := by kernel_rfl
theorem stoodCalls : Try.prog.stoodInHeld 28 = false := by kernel_rfl
theorem listCalls : (Try.prog.fieldsOf 28).toList = [{ name := "Up", type := 26, offset := 0, embedded := false, tag := "", pkgPath := "", byteOffset := 0 }, { name := "Down", type := 26, offset := 1, embedded := false, tag := "", pkgPath := "", byteOffset := 4 }] := by kernel_rfl
theorem infoCalls : (Try.prog.info? 28).map (·.size) = some 2 := by kernel_rfl
theorem infoCoils : (Try.prog.info? 91).map (·.size) = some 3 := by kernel_rfl
theorem equalCalls (d : Nat) (a b : Nat) (w : World) : (Op.equalIn (d + 2) 28 (.agg #[.int .u32 a, .int .u32 b]) (.agg #[.int .u32 a, .int .u32 b])).run Try.prog w = .ok true w := by
  rw [run_equalIn_struct w (d + 1) 28 _ _ fieldsCalls stoodCalls, listCalls]
  have h0 := fun (xs : Array Value) off v => run_part_plain (P := Try.prog) w (e := 26) (off := off) (xs := xs) (v := v) (by kernel_rfl)
  have p0 := fun a b => h0 #[a, b] 0 a rfl
  have p1 := fun a b => h0 #[a, b] 1 b rfl
  simp [Op.eqFields, p0, p1, run_equalIn_int w d 26 .u32 .u32 _ _ Try.underlying26]
theorem fieldsCoils : Try.prog.underlying 91 = some (.struct (Try.prog.fieldsOf 91)) := by kernel_rfl
theorem stoodCoils : Try.prog.stoodInHeld 91 = false := by kernel_rfl
theorem listCoils : (Try.prog.fieldsOf 91).toList = [{ name := "Inject", type := 28, offset := 0, embedded := false, tag := "", pkgPath := "", byteOffset := 0 }, { name := "CutOut", type := 4, offset := 2, embedded := false, tag := "", pkgPath := "", byteOffset := 8 }] := by kernel_rfl
theorem equalCoils (d : Nat) (a b : Nat) (c : Bool) (w : World) : (Op.equalIn (d + 3) 91 (.agg #[.int .u32 a, .int .u32 b, .bool c]) (.agg #[.int .u32 a, .int .u32 b, .bool c])).run Try.prog w = .ok true w := by
  rw [run_equalIn_struct w (d + 2) 91 _ _ fieldsCoils stoodCoils, listCoils]
  have q0 : (part 28 #[.int .u32 a, .int .u32 b, .bool c] 0).run Try.prog w = .ok (.agg #[.int .u32 a, .int .u32 b]) w := part_row (cs := #[.int .u32 a, .int .u32 b, .bool c]) (off := 0) (n := 2) w Try.underlying28 rfl infoCalls
  have q1 : (part 4 #[.int .u32 a, .int .u32 b, .bool c] 2).run Try.prog w = .ok (.bool c) w := run_part_plain w (by kernel_rfl) rfl
  simp [Op.eqFields, q0, q1, equalCalls d a b w, run_equalIn_bool w (d + 1) 4 _ _ Try.underlying4]
theorem fieldsCo : Try.prog.underlying 93 = some (.struct (Try.prog.fieldsOf 93)) := by kernel_rfl
theorem stoodCo : Try.prog.stoodInHeld 93 = false := by kernel_rfl
theorem listCo : (Try.prog.fieldsOf 93).toList = [{ name := "Coils", type := 91, offset := 0, embedded := false, tag := "", pkgPath := "", byteOffset := 0 }, { name := "Lantern", type := 28, offset := 3, embedded := false, tag := "", pkgPath := "", byteOffset := 12 }, { name := "Gong", type := 4, offset := 5, embedded := false, tag := "", pkgPath := "", byteOffset := 20 }, { name := "Command", type := 3, offset := 6, embedded := false, tag := "", pkgPath := "", byteOffset := 24 }, { name := "Phase", type := 3, offset := 7, embedded := false, tag := "", pkgPath := "", byteOffset := 32 }, { name := "Flag", type := 4, offset := 8, embedded := false, tag := "", pkgPath := "", byteOffset := 40 }] := by kernel_rfl
theorem equalCo (d : Nat) (c : CarOut) (w : World) : (Op.equalIn (d + 4) 93 (.agg (coV c).toArray) (.agg (coV c).toArray)).run Try.prog w = .ok true w := by
  rw [run_equalIn_struct w (d + 3) 93 _ _ fieldsCo stoodCo, listCo]
  obtain ⟨iu, id, cut, lu, ld, gong, cmd, ph, flag⟩ := c
  have q0 : (part 91 (coV ⟨iu, id, cut, lu, ld, gong, cmd, ph, flag⟩).toArray 0).run Try.prog w = .ok (.agg #[.int .u32 iu, .int .u32 id, .bool cut]) w := part_row (cs := (coV ⟨iu, id, cut, lu, ld, gong, cmd, ph, flag⟩).toArray) (off := 0) (n := 3) w Try.underlying91 rfl infoCoils
  have q1 : (part 28 (coV ⟨iu, id, cut, lu, ld, gong, cmd, ph, flag⟩).toArray 3).run Try.prog w = .ok (.agg #[.int .u32 lu, .int .u32 ld]) w := part_row (cs := (coV ⟨iu, id, cut, lu, ld, gong, cmd, ph, flag⟩).toArray) (off := 3) (n := 2) w Try.underlying28 rfl infoCalls
  have q2 : (part 4 (coV ⟨iu, id, cut, lu, ld, gong, cmd, ph, flag⟩).toArray 5).run Try.prog w = .ok (.bool gong) w := run_part_plain w (by kernel_rfl) rfl
  have q3 : (part 3 (coV ⟨iu, id, cut, lu, ld, gong, cmd, ph, flag⟩).toArray 6).run Try.prog w = .ok (.int .i64 cmd) w := run_part_plain w (by kernel_rfl) rfl
  have q4 : (part 3 (coV ⟨iu, id, cut, lu, ld, gong, cmd, ph, flag⟩).toArray 7).run Try.prog w = .ok (.int .i64 ph) w := run_part_plain w (by kernel_rfl) rfl
  have q5 : (part 4 (coV ⟨iu, id, cut, lu, ld, gong, cmd, ph, flag⟩).toArray 8).run Try.prog w = .ok (.bool flag) w := run_part_plain w (by kernel_rfl) rfl
  generalize (coV ⟨iu, id, cut, lu, ld, gong, cmd, ph, flag⟩).toArray = xs at *
  simp [Op.eqFields, q0, q1, q2, q3, q4, q5, equalCoils d iu id cut w, equalCalls (d + 1) lu ld w, run_equalIn_bool w (d + 2) 4 _ _ Try.underlying4, run_equalIn_int w (d + 2) 3 .i64 .i64 _ _ Try.underlying3]
theorem neqCo (c : CarOut) (w : World) : (binOp .neq 93 (.agg (coV c).toArray) (.agg (coV c).toArray)).run Try.prog w = .ok (.bool false) w := by
  rw [run_neq_struct, equalCo 9996]; rfl

set_option maxRecDepth 100000 in
set_option maxHeartbeats 4000000 in
theorem sameOut_any (y : Ou) (A A' : Option Addr) (cp cp' : Nat) (w : World) (hn : y.cars.length ≤ 1000) (hA : CosV w A y.cars) (hA' : CosV w A' y.cars) :
    Calls Try.prog 21 #[ouAgg y A cp, ouAgg y A' cp'] w fun e w' => e = .returned (.bool true) ∧ Below w.heap.size w w' := by
  obtain ⟨⟨au, ad, su, sd, bad, full, st⟩, cs⟩ := y
  simp only [ouAgg] at *
  have HA := Lib.hid hA
  have HA' := Lib.hid hA'
  clear hA hA'
  go_enter Try.func21, Try.ntmps21
  go_wp2_with fail
  obtain ⟨W2, hW2⟩ : ∃ W2, W2 = (w.alloc (.cells #[.int .u32 au, .int .u32 ad, .int .u32 su, .int .u32 sd, .bool bad, .bool full, .int .i64 st, .slice A cs.length cp] 46)).alloc (.cells #[.int .u32 au, .int .u32 ad, .int .u32 su, .int .u32 sd, .bool bad, .bool full, .int .i64 st, .slice A' cs.length cp'] 46) := ⟨_, rfl⟩
  rw [← hW2]
  have hs2 : W2.heap.size = w.heap.size + 2 := by rw [hW2]; simp
  have hbw2 : Below w.heap.size w W2 := by rw [hW2]; exact ((Below.refl _ _).alloc (Nat.le_refl _) _).alloc (by simp) _
  have hq0 : W2.cell? ⟨w.heap.size, 7, none⟩ = some (.slice A cs.length cp) := by
    rw [hW2, World.cell?_of_block (w := w.alloc _) (Below.heap_alloc _ _ w.heap.size (by simp)), cell_of_row _ _ _ _ _ (0, 0) (heap_alloc_new w _)]
    rfl
  have hq1 : W2.cell? ⟨w.heap.size + 1, 7, none⟩ = some (.slice A' cs.length cp') := by
    rw [hW2, World.cell?_alloc_at _ _ _ _ (by simp)]
    rfl
  have HQ0 := Lib.hid hq0
  have HQ1 := Lib.hid hq1
  have HBW := Lib.hid hbw2
  clear hW2 hq0 hq1 hbw2
  go_loopw [5] (fun v wr => ∃ m : Nat, m ≤ cs.length ∧ v = .int .i64 m ∧ Below W2.heap.size W2 wr) (fun v _ => cs.length - (intOf v).toNat)
  case atStart => exact ⟨0, Nat.zero_le _, rfl, Below.refl _ _⟩
  case round =>
    obtain ⟨m, hm, rfl, hbr⟩ := hrel
    have q0 : wr.cell? ⟨w.heap.size, 7, none⟩ = some (.slice A cs.length cp) := (hbr.cell (p := ⟨w.heap.size, 7, none⟩) (by show w.heap.size < _; omega)).trans HQ0.out
    have q1 : wr.cell? ⟨w.heap.size + 1, 7, none⟩ = some (.slice A' cs.length cp') := (hbr.cell (p := ⟨w.heap.size + 1, 7, none⟩) (by show w.heap.size + 1 < _; omega)).trans HQ1.out
    by_cases hlt : m < cs.length
    · have hbwr := HBW.out.trans (hbr.mono (by omega))
      rcases HA.out.below hbwr with h0 | ⟨b, off, rfl, hv⟩
      · subst h0; simp at hlt
      rcases HA'.out.below hbwr with h0 | ⟨b', off', rfl, hv'⟩
      · subst h0; simp at hlt
      have g := hv m hlt
      have g' := hv' m hlt
      have hnq := neqCo cs[m]
      generalize cs[m] = c at g g' hnq
      simp only [coV] at hnq
      have g0 : wr.cell? ⟨b, off + m * 9, none⟩ = some (.int .u32 c.iu) := g 0 _ rfl
      have g1 : wr.cell? ⟨b, off + m * 9 + 1, none⟩ = some (.int .u32 c.id) := g 1 _ rfl
      have g2 : wr.cell? ⟨b, off + m * 9 + 2, none⟩ = some (.bool c.cut) := g 2 _ rfl
      have g3 : wr.cell? ⟨b, off + m * 9 + 3, none⟩ = some (.int .u32 c.lu) := g 3 _ rfl
      have g4 : wr.cell? ⟨b, off + m * 9 + 4, none⟩ = some (.int .u32 c.ld) := g 4 _ rfl
      have g5 : wr.cell? ⟨b, off + m * 9 + 5, none⟩ = some (.bool c.gong) := g 5 _ rfl
      have g6 : wr.cell? ⟨b, off + m * 9 + 6, none⟩ = some (.int .i64 c.cmd) := g 6 _ rfl
      have g7 : wr.cell? ⟨b, off + m * 9 + 7, none⟩ = some (.int .i64 c.ph) := g 7 _ rfl
      have g8 : wr.cell? ⟨b, off + m * 9 + 8, none⟩ = some (.bool c.flag) := g 8 _ rfl
      have k0 : wr.cell? ⟨b', off' + m * 9, none⟩ = some (.int .u32 c.iu) := g' 0 _ rfl
      have k1 : wr.cell? ⟨b', off' + m * 9 + 1, none⟩ = some (.int .u32 c.id) := g' 1 _ rfl
      have k2 : wr.cell? ⟨b', off' + m * 9 + 2, none⟩ = some (.bool c.cut) := g' 2 _ rfl
      have k3 : wr.cell? ⟨b', off' + m * 9 + 3, none⟩ = some (.int .u32 c.lu) := g' 3 _ rfl
      have k4 : wr.cell? ⟨b', off' + m * 9 + 4, none⟩ = some (.int .u32 c.ld) := g' 4 _ rfl
      have k5 : wr.cell? ⟨b', off' + m * 9 + 5, none⟩ = some (.bool c.gong) := g' 5 _ rfl
      have k6 : wr.cell? ⟨b', off' + m * 9 + 6, none⟩ = some (.int .i64 c.cmd) := g' 6 _ rfl
      have k7 : wr.cell? ⟨b', off' + m * 9 + 7, none⟩ = some (.int .i64 c.ph) := g' 7 _ rfl
      have k8 : wr.cell? ⟨b', off' + m * 9 + 8, none⟩ = some (.bool c.flag) := g' 8 _ rfl
      have HBR := Lib.hid hbr
      clear hbr hbwr hv hv' g g'
      go_wp2_with fail
      go_region
      all_goals
        go_wp2_with fail
        go_roundw
        case rel => exact ⟨m + 1, by omega, by go_num, HBR.out.drew⟩
        case measure => simp [intOf]; omega
    · obtain rfl : m = cs.length := by omega
      have HBR := Lib.hid hbr
      clear hbr
      go_wp2_with fail
      go_ret
      exact ⟨rfl, HBW.out.trans (HBR.out.mono (by omega))⟩
end

section
open Go Go.RowKit Frm Go.ChangeShapes Go.WideShapes Go.ChangeAt

theorem ouRes_parts (x : BldD) (y : Ou) : ∃ (S : ByteArray) (c : Int), ouRes x y = .tuple #[.string S, .int .i64 c] := by
  unfold ouRes
  split
  · exact ⟨_, _, rfl⟩
  · exact ⟨_, _, rfl⟩
theorem ReadOE_no {x : BldD} {s : ByteArray} {code : Int} (h1 : openOkOut x s) (h2 : readOkOut x s) : ¬ ReadOE x s code := by
  obtain ⟨a, b, c, d⟩ := h1
  rintro (h | h | h | h | h)
  · exact h.1 a
  · exact h.2.1 b
  · exact h.2.2.1 c
  · rw [h.2.2.2.1] at d; cases d
  · exact h.2.1 h2

set_option linter.unusedVariables false
set_option linter.unusedSimpArgs false
set_option maxRecDepth 100000 in
set_option maxHeartbeats 8000000 in
theorem lawFrameOutputs_walk (n : Int) (y : Ou) (A' : Option Addr) (cp : Nat) (w : World) (hn : (Lit.int .u8 n).wf = true) (hy : saneOu y) (hv : CosV w A' y.cars) (hml : y.cars.length ≤ maxLen) :
    Calls Try.prog 4 #[.int .u8 n, ouAgg y A' cp] w fun e w' => e = .returned (.bool true) ∧ Below w.heap.size w w' := by
  obtain ⟨m, rfl, hm⟩ := u8_natO hn
  clear hn
  unfold maxLen at hml
  have FS := Lib.hid (fun w => frameSane_any w)
  have HV := Lib.hid hv
  have HY := Lib.hid hy
  clear hv hy
  obtain ⟨F, hF1, hF2, hFF⟩ : ∃ F : Nat, 2 ≤ F ∧ F ≤ 32 ∧ F = 2 + m % 31 := ⟨_, by omega, by omega, rfl⟩
  obtain ⟨C, hC1, hC2, hCC⟩ : ∃ C : Nat, 1 ≤ C ∧ C ≤ 8 ∧ C = 1 + m / 31 % 8 := ⟨_, by omega, by omega, rfl⟩
  have FBU := Lib.hid (fun w => building_any m w hm)
  rw [← hFF, ← hCC] at FBU
  clear hFF hCC
  have hV := sample_valid (F : Int) C (by omega) (by omega) hC1 hC2
  have hcl : (sampleD (F : Int) C).cars.length = C := sampleCars_length _ _
  by_cases h20 : 20 < y.cars.length
  · clear FBU
    obtain ⟨⟨y1, y2, y3, y4, y5, y6, y7⟩, ys⟩ := y
    simp only [BldD.agg, ouAgg] at *
    go_enter Try.func4, Try.ntmps4
    go_wp2_with fail
    refine (FS.out _).mono ?_
    rintro e w2 ⟨rfl, hb⟩
    have HB := Lib.hid hb
    clear hb
    go_wp2_with fail
    go_ret
    exact ⟨rfl, ((Below.refl _ w).alloc (Nat.le_refl _) _).trans (HB.out.mono (by simp))⟩
  have hfok := fitOu_ok F C y hF1 hF2 hC1 hC2
  have hfsn := fitOu_sane F C y HY.out
  have hfl : (fitOu F C y).cars.length = C := by show (fitCos F C y.cars).length = C; rw [fitCos_pad, List.length_map, padCos_length]
  have FFT := Lib.hid (fun A cap w (h : CosV w A' y.cars) => ofitted_any F C (sampleD (F : Int) C) A cap y A' cp w hF1 hF2 hC1 hC2 rfl hcl HY.out (by omega) h)
  have FIN := Lib.hid (fun A cap A2 cp2 wx (hc : CarsAt wx wx.heap.size A (sampleD (F : Int) C).cars) (hv : CosV wx A2 (fitOu F C y).cars) => out_res (sampleD (F : Int) C) A cap (fitOu F C y) A2 cp2 wx hV (by omega) hc (by omega) hfsn hv)
  have FRI := Lib.hid (fun A cap A2 cp2 wx (hc : CarsAt wx wx.heap.size A (sampleD (F : Int) C).cars) (hv : CosV wx A2 (fitOu F C y).cars) => refOut_res (sampleD (F : Int) C) A cap (fitOu F C y) A2 cp2 wx hV (by omega) hc (by omega) hfsn hv)
  have hres : ouRes (sampleD (F : Int) C) (fitOu F C y) = .tuple #[.string ⟨(ouText (sampleD (F : Int) C) (fitOu F C y)).toArray⟩, .int .i64 0] := by unfold ouRes; rw [if_pos hfok]
  rw [hres] at FIN FRI
  have hok := (isOut_iff _ _ hV).1 hfok
  obtain ⟨ho1, ho2, ho3⟩ := frame_readO hfsn hok
  have hno := fun code => ReadOE_no (code := code) ho1 ho2
  have hsl : (⟨(ouText (sampleD (F : Int) C) (fitOu F C y)).toArray⟩ : ByteArray).size ≤ maxLen := by
    have h := ho1.2.1
    unfold maxLen; omega
  have hSO : (((⟨(ouText (sampleD (F : Int) C) (fitOu F C y)).toArray⟩ : ByteArray).size : Int) == sizeOut (sampleD (F : Int) C)) = true := by
    rw [ho1.2.1]
    exact beq_iff_eq.2 (if_pos hV).symm
  have FRD := Lib.hid (fun A cap wx (hc : CarsAt wx wx.heap.size A (sampleD (F : Int) C).cars) => rdOutTop_any (sampleD (F : Int) C) A cap ⟨(ouText (sampleD (F : Int) C) (fitOu F C y)).toArray⟩ wx (by omega) hc hsl)
  rw [ho3] at FRD
  have FI2 := Lib.hid (fun A cap wx (hc : CarsAt wx wx.heap.size A (sampleD (F : Int) C).cars) (hv : CosV wx A' y.cars) => out_res (sampleD (F : Int) C) A cap y A' cp wx hV (by omega) hc (by omega) HY.out hv)
  have FR2 := Lib.hid (fun A cap wx (hc : CarsAt wx wx.heap.size A (sampleD (F : Int) C).cars) (hv : CosV wx A' y.cars) => refOut_res (sampleD (F : Int) C) A cap y A' cp wx hV (by omega) hc (by omega) HY.out hv)
  have FSZ := Lib.hid (fun A cap wx (hc : CarsAt wx wx.heap.size A (sampleD (F : Int) C).cars) => size_any (sampleD (F : Int) C) A cap wx (by omega) hc)
  have FRS := Lib.hid (fun A cap wx (hc : CarsAt wx wx.heap.size A (sampleD (F : Int) C).cars) => refSize_any (sampleD (F : Int) C) A cap wx (by omega) hc)
  have FSA := Lib.hid (fun A2 A3 cp2 cp3 wx (h1 : CosV wx A2 (fitOu F C y).cars) (h2 : CosV wx A3 (fitOu F C y).cars) => sameOut_any (fitOu F C y) A2 A3 cp2 cp3 wx (by omega) h1 h2)
  obtain ⟨S2, k2, hS2⟩ := ouRes_parts (sampleD (F : Int) C) y
  rw [hS2] at FI2 FR2
  clear hS2 hres ho3 hok hfok hfsn hsl
  have HNO := Lib.hid hno
  clear hno ho1 ho2 hV
  have hsc : (sampleD (F : Int) C).cars = sampleCars (F : Int) C := rfl
  rw [← hsc] at FBU
  clear hsc
  generalize (⟨(ouText (sampleD (F : Int) C) (fitOu F C y)).toArray⟩ : ByteArray) = S1 at *
  generalize sizeOut (sampleD (F : Int) C) = SO at *
  generalize sizeIn (sampleD (F : Int) C) = SI at *
  generalize hx : sampleD (F : Int) C = x at *
  generalize fitOu F C y = fy at *
  clear hx
  obtain ⟨f, d, r, p, e1, e2, e3, cs⟩ := x
  obtain ⟨⟨y1, y2, y3, y4, y5, y6, y7⟩, ys⟩ := y
  obtain ⟨⟨q1, q2, q3, q4, q5, q6, q7⟩, qs⟩ := fy
  simp only [BldD.agg, ouAgg] at FBU FFT FIN FRI FRD FI2 FR2 FSZ FRS FSA hcl hfl h20 HV ⊢
  have HCL := Lib.hid (And.intro hcl hfl)
  clear hcl hfl
  have hd1 : decide (20 < (ys.length : Int)) = false := decide_eq_false (by omega)
  go_enter Try.func4, Try.ntmps4
  go_wp2_with fail
  refine (FBU.out _).mono ?_
  rintro e w1 ⟨hb1, A, cap, rfl, hcars⟩
  have hsz0 : (w.alloc (.cells #[.int .u32 (y1 : Int), .int .u32 (y2 : Int), .int .u32 (y3 : Int), .int .u32 (y4 : Int), .bool y5, .bool y6, .int .i64 y7, .slice A' ys.length cp] 46)).heap.size = w.heap.size + 1 := by simp
  have hsz1 : w.heap.size + 1 ≤ w1.heap.size := by have := hb1.size; omega
  have Y1 := Lib.hid ((hb1.block w.heap.size (by omega)).trans (heap_alloc_new w (.cells #[.int .u32 (y1 : Int), .int .u32 (y2 : Int), .int .u32 (y3 : Int), .int .u32 (y4 : Int), .bool y5, .bool y6, .int .i64 y7, .slice A' ys.length cp] 46)))
  have HB1 := Lib.hid (((Below.refl _ w).alloc (Nat.le_refl _) (.cells #[.int .u32 (y1 : Int), .int .u32 (y2 : Int), .int .u32 (y3 : Int), .int .u32 (y4 : Int), .bool y5, .bool y6, .int .i64 y7, .slice A' ys.length cp] 46)).trans (hb1.mono (by omega)))
  have HC := Lib.hid hcars
  clear hb1 hcars hsz0
  have l0 : w.heap.size < w1.heap.size := by omega
  have n0 : ¬ w.heap.size = w1.heap.size := by omega
  have hy0 := cell_of_row _ _ 0 _ _ (0, 0) Y1.out
  have hy1 := cell_of_row _ _ 1 _ _ (0, 0) Y1.out
  have hy2 := cell_of_row _ _ 2 _ _ (0, 0) Y1.out
  have hy3 := cell_of_row _ _ 3 _ _ (0, 0) Y1.out
  have hy4 := cell_of_row _ _ 4 _ _ (0, 0) Y1.out
  have hy5 := cell_of_row _ _ 5 _ _ (0, 0) Y1.out
  have hy6 := cell_of_row _ _ 6 _ _ (0, 0) Y1.out
  have hy7 := cell_of_row _ _ 7 _ _ (0, 0) Y1.out
  simp only [List.getElem?_toArray, List.getElem?_cons_zero, List.getElem?_cons_succ] at hy0 hy1 hy2 hy3 hy4 hy5 hy6 hy7
  go_wp2_with fail
  have HBW1 := Lib.hid (HB1.out.alloc HB1.out.size (.cells #[.int .i64 f, .int .i64 d, .int .i64 r, .int .i64 p, .float .f64 e1, .float .f64 e2, .float .f64 e3, .slice A cs.length cap] 25))
  refine (FFT.out A cap _ (HV.out.below HBW1.out)).mono ?_
  rintro e w2 ⟨hb2, A2, cp2, rfl, hcv2⟩
  clear hy0 hy1 hy2 hy3 hy4 hy5 hy6 hy7
  have hs1 : (w1.alloc (.cells #[.int .i64 f, .int .i64 d, .int .i64 r, .int .i64 p, .float .f64 e1, .float .f64 e2, .float .f64 e3, .slice A cs.length cap] 25)).heap.size = w1.heap.size + 1 := by simp
  have hsz2 : w1.heap.size + 1 ≤ w2.heap.size := by have := hb2.size; omega
  have Y2 := Lib.hid (((hb2.block w.heap.size (by omega)).trans (Below.heap_alloc w1 _ _ l0)).trans Y1.out)
  have X2 := Lib.hid ((hb2.block w1.heap.size (by omega)).trans (heap_alloc_new w1 (.cells #[.int .i64 f, .int .i64 d, .int .i64 r, .int .i64 p, .float .f64 e1, .float .f64 e2, .float .f64 e3, .slice A cs.length cap] 25)))
  have HB12 := Lib.hid (((Below.refl w1.heap.size w1).alloc (Nat.le_refl _) (.cells #[.int .i64 f, .int .i64 d, .int .i64 r, .int .i64 p, .float .f64 e1, .float .f64 e2, .float .f64 e3, .slice A cs.length cap] 25)).trans (hb2.mono (by omega)))
  have HCV2 := Lib.hid hcv2
  clear hb2 hcv2 hs1 l0 n0 Y1
  have l2 : w1.heap.size < w2.heap.size := by omega
  have n2 : ¬ w1.heap.size = w2.heap.size := by omega
  have xx0 := cell_of_row _ _ 0 _ _ (0, 0) X2.out
  have xx1 := cell_of_row _ _ 1 _ _ (0, 0) X2.out
  have xx2 := cell_of_row _ _ 2 _ _ (0, 0) X2.out
  have xx3 := cell_of_row _ _ 3 _ _ (0, 0) X2.out
  have xx4 := cell_of_row _ _ 4 _ _ (0, 0) X2.out
  have xx5 := cell_of_row _ _ 5 _ _ (0, 0) X2.out
  have xx6 := cell_of_row _ _ 6 _ _ (0, 0) X2.out
  have xx7 := cell_of_row _ _ 7 _ _ (0, 0) X2.out
  simp only [List.getElem?_toArray, List.getElem?_cons_zero, List.getElem?_cons_succ] at xx0 xx1 xx2 xx3 xx4 xx5 xx6 xx7
  go_wp2_with fail
  have hb22 := (Below.refl w2.heap.size w2).alloc (Nat.le_refl _) (.cells #[.int .u32 (q1 : Int), .int .u32 (q2 : Int), .int .u32 (q3 : Int), .int .u32 (q4 : Int), .bool q5, .bool q6, .int .i64 q7, .slice A2 qs.length cp2] 46)
  have hs2 : (w2.alloc (.cells #[.int .u32 (q1 : Int), .int .u32 (q2 : Int), .int .u32 (q3 : Int), .int .u32 (q4 : Int), .bool q5, .bool q6, .int .i64 q7, .slice A2 qs.length cp2] 46)).heap.size = w2.heap.size + 1 := by simp
  have HC2 := Lib.hid ((HC.out.below (HB12.out.trans (hb22.mono (by omega)))).more (show w1.heap.size ≤ (w2.alloc (.cells #[.int .u32 (q1 : Int), .int .u32 (q2 : Int), .int .u32 (q3 : Int), .int .u32 (q4 : Int), .bool q5, .bool q6, .int .i64 q7, .slice A2 qs.length cp2] 46)).heap.size by rw [hs2]; omega))
  have HV2 := Lib.hid (HCV2.out.below hb22)
  have HW2 := Lib.hid (HB1.out.trans ((HB12.out.trans (hb22.mono (by omega))).mono HB1.out.size))
  have Y := Lib.hid ((hb22.block w.heap.size (by omega)).trans Y2.out)
  have X := Lib.hid ((hb22.block w1.heap.size (by omega)).trans X2.out)
  have Q := Lib.hid (heap_alloc_new w2 (.cells #[.int .u32 (q1 : Int), .int .u32 (q2 : Int), .int .u32 (q3 : Int), .int .u32 (q4 : Int), .bool q5, .bool q6, .int .i64 q7, .slice A2 qs.length cp2] 46))
  clear hb22 l2 n2 Y2 X2 xx0 xx1 xx2 xx3 xx4 xx5 xx6 xx7
  refine (FIN.out A cap A2 cp2 _ HC2.out HV2.out).mono ?_
  rintro e w3 ⟨rfl, hb3⟩
  generalize (w2.alloc (.cells #[.int .u32 (q1 : Int), .int .u32 (q2 : Int), .int .u32 (q3 : Int), .int .u32 (q4 : Int), .bool q5, .bool q6, .int .i64 q7, .slice A2 qs.length cp2] 46)) = WW at *
  have B3 := Lib.hid hb3
  clear hb3
  have xx0 := cell_of_row _ _ 0 _ _ (0, 0) ((B3.out.block (w1.heap.size) (by omega)).trans X.out)
  have xx1 := cell_of_row _ _ 1 _ _ (0, 0) ((B3.out.block (w1.heap.size) (by omega)).trans X.out)
  have xx2 := cell_of_row _ _ 2 _ _ (0, 0) ((B3.out.block (w1.heap.size) (by omega)).trans X.out)
  have xx3 := cell_of_row _ _ 3 _ _ (0, 0) ((B3.out.block (w1.heap.size) (by omega)).trans X.out)
  have xx4 := cell_of_row _ _ 4 _ _ (0, 0) ((B3.out.block (w1.heap.size) (by omega)).trans X.out)
  have xx5 := cell_of_row _ _ 5 _ _ (0, 0) ((B3.out.block (w1.heap.size) (by omega)).trans X.out)
  have xx6 := cell_of_row _ _ 6 _ _ (0, 0) ((B3.out.block (w1.heap.size) (by omega)).trans X.out)
  have xx7 := cell_of_row _ _ 7 _ _ (0, 0) ((B3.out.block (w1.heap.size) (by omega)).trans X.out)
  simp only [List.getElem?_toArray, List.getElem?_cons_zero, List.getElem?_cons_succ] at xx0 xx1 xx2 xx3 xx4 xx5 xx6 xx7
  have hq0 := cell_of_row _ _ 0 _ _ (0, 0) ((B3.out.block (w2.heap.size) (by omega)).trans Q.out)
  have hq1 := cell_of_row _ _ 1 _ _ (0, 0) ((B3.out.block (w2.heap.size) (by omega)).trans Q.out)
  have hq2 := cell_of_row _ _ 2 _ _ (0, 0) ((B3.out.block (w2.heap.size) (by omega)).trans Q.out)
  have hq3 := cell_of_row _ _ 3 _ _ (0, 0) ((B3.out.block (w2.heap.size) (by omega)).trans Q.out)
  have hq4 := cell_of_row _ _ 4 _ _ (0, 0) ((B3.out.block (w2.heap.size) (by omega)).trans Q.out)
  have hq5 := cell_of_row _ _ 5 _ _ (0, 0) ((B3.out.block (w2.heap.size) (by omega)).trans Q.out)
  have hq6 := cell_of_row _ _ 6 _ _ (0, 0) ((B3.out.block (w2.heap.size) (by omega)).trans Q.out)
  have hq7 := cell_of_row _ _ 7 _ _ (0, 0) ((B3.out.block (w2.heap.size) (by omega)).trans Q.out)
  simp only [List.getElem?_toArray, List.getElem?_cons_zero, List.getElem?_cons_succ] at hq0 hq1 hq2 hq3 hq4 hq5 hq6 hq7
  go_wp2_with fail
  clear xx0 xx1 xx2 xx3 xx4 xx5 xx6 xx7 hq0 hq1 hq2 hq3 hq4 hq5 hq6 hq7
  refine (FRI.out A cap A2 cp2 _ ((HC2.out.below B3.out).more B3.out.size) (HV2.out.below B3.out)).mono ?_
  rintro e w4 ⟨rfl, hb4⟩
  have B4 := Lib.hid (B3.out.trans (hb4.mono B3.out.size))
  clear hb4
  have xx0 := cell_of_row _ _ 0 _ _ (0, 0) ((B4.out.block (w1.heap.size) (by omega)).trans X.out)
  have xx1 := cell_of_row _ _ 1 _ _ (0, 0) ((B4.out.block (w1.heap.size) (by omega)).trans X.out)
  have xx2 := cell_of_row _ _ 2 _ _ (0, 0) ((B4.out.block (w1.heap.size) (by omega)).trans X.out)
  have xx3 := cell_of_row _ _ 3 _ _ (0, 0) ((B4.out.block (w1.heap.size) (by omega)).trans X.out)
  have xx4 := cell_of_row _ _ 4 _ _ (0, 0) ((B4.out.block (w1.heap.size) (by omega)).trans X.out)
  have xx5 := cell_of_row _ _ 5 _ _ (0, 0) ((B4.out.block (w1.heap.size) (by omega)).trans X.out)
  have xx6 := cell_of_row _ _ 6 _ _ (0, 0) ((B4.out.block (w1.heap.size) (by omega)).trans X.out)
  have xx7 := cell_of_row _ _ 7 _ _ (0, 0) ((B4.out.block (w1.heap.size) (by omega)).trans X.out)
  simp only [List.getElem?_toArray, List.getElem?_cons_zero, List.getElem?_cons_succ] at xx0 xx1 xx2 xx3 xx4 xx5 xx6 xx7
  go_wp2_with fail
  clear xx0 xx1 xx2 xx3 xx4 xx5 xx6 xx7
  refine (FRD.out A cap _ ((HC2.out.below B4.out).more B4.out.size)).mono ?_
  rintro e w5 ⟨hb5, ⟨-, -, gz, hcz, rfl⟩ | ⟨code, h, -, rfl⟩⟩
  case inr => exact absurd h (HNO.out code)
  have B5 := Lib.hid (B4.out.trans (hb5.mono B4.out.size))
  have HCZ := Lib.hid hcz
  clear hb5 hcz
  have hs5 := B5.out.size
  have l0 : w.heap.size < w5.heap.size := by omega
  have l2 : w1.heap.size < w5.heap.size := by omega
  have n0 : ¬ w.heap.size = w5.heap.size := by omega
  have n2 : ¬ w1.heap.size = w5.heap.size := by omega
  have xx0 := cell_of_row _ _ 0 _ _ (0, 0) ((B5.out.block (w1.heap.size) (by omega)).trans X.out)
  have xx1 := cell_of_row _ _ 1 _ _ (0, 0) ((B5.out.block (w1.heap.size) (by omega)).trans X.out)
  have xx2 := cell_of_row _ _ 2 _ _ (0, 0) ((B5.out.block (w1.heap.size) (by omega)).trans X.out)
  have xx3 := cell_of_row _ _ 3 _ _ (0, 0) ((B5.out.block (w1.heap.size) (by omega)).trans X.out)
  have xx4 := cell_of_row _ _ 4 _ _ (0, 0) ((B5.out.block (w1.heap.size) (by omega)).trans X.out)
  have xx5 := cell_of_row _ _ 5 _ _ (0, 0) ((B5.out.block (w1.heap.size) (by omega)).trans X.out)
  have xx6 := cell_of_row _ _ 6 _ _ (0, 0) ((B5.out.block (w1.heap.size) (by omega)).trans X.out)
  have xx7 := cell_of_row _ _ 7 _ _ (0, 0) ((B5.out.block (w1.heap.size) (by omega)).trans X.out)
  simp only [List.getElem?_toArray, List.getElem?_cons_zero, List.getElem?_cons_succ] at xx0 xx1 xx2 xx3 xx4 xx5 xx6 xx7
  have hy0 := cell_of_row _ _ 0 _ _ (0, 0) ((B5.out.block (w.heap.size) (by omega)).trans Y.out)
  have hy1 := cell_of_row _ _ 1 _ _ (0, 0) ((B5.out.block (w.heap.size) (by omega)).trans Y.out)
  have hy2 := cell_of_row _ _ 2 _ _ (0, 0) ((B5.out.block (w.heap.size) (by omega)).trans Y.out)
  have hy3 := cell_of_row _ _ 3 _ _ (0, 0) ((B5.out.block (w.heap.size) (by omega)).trans Y.out)
  have hy4 := cell_of_row _ _ 4 _ _ (0, 0) ((B5.out.block (w.heap.size) (by omega)).trans Y.out)
  have hy5 := cell_of_row _ _ 5 _ _ (0, 0) ((B5.out.block (w.heap.size) (by omega)).trans Y.out)
  have hy6 := cell_of_row _ _ 6 _ _ (0, 0) ((B5.out.block (w.heap.size) (by omega)).trans Y.out)
  have hy7 := cell_of_row _ _ 7 _ _ (0, 0) ((B5.out.block (w.heap.size) (by omega)).trans Y.out)
  simp only [List.getElem?_toArray, List.getElem?_cons_zero, List.getElem?_cons_succ] at hy0 hy1 hy2 hy3 hy4 hy5 hy6 hy7
  go_wp2_with fail
  clear xx0 xx1 xx2 xx3 xx4 xx5 xx6 xx7 hy0 hy1 hy2 hy3 hy4 hy5 hy6 hy7 l0 l2 n0 n2
  have hb55 := (Below.refl w5.heap.size w5).alloc (Nat.le_refl _) (.cells #[.int .u32 (q1 : Int), .int .u32 (q2 : Int), .int .u32 (q3 : Int), .int .u32 (q4 : Int), .bool q5, .bool q6, .int .i64 q7, .slice (some ⟨gz, 0, none⟩) qs.length cs.length] 46)
  have Z := Lib.hid (heap_alloc_new w5 (.cells #[.int .u32 (q1 : Int), .int .u32 (q2 : Int), .int .u32 (q3 : Int), .int .u32 (q4 : Int), .bool q5, .bool q6, .int .i64 q7, .slice (some ⟨gz, 0, none⟩) qs.length cs.length] 46))
  have hz5 : (w5.alloc (.cells #[.int .u32 (q1 : Int), .int .u32 (q2 : Int), .int .u32 (q3 : Int), .int .u32 (q4 : Int), .bool q5, .bool q6, .int .i64 q7, .slice (some ⟨gz, 0, none⟩) qs.length cs.length] 46)).heap.size = w5.heap.size + 1 := by simp
  have B55 := Lib.hid (B5.out.trans (hb55.mono B5.out.size))
  have HCZ5 := Lib.hid (HCZ.out.below hb55)
  clear hb55
  have HVW := Lib.hid (HV.out.below HW2.out)
  refine (FI2.out A cap _ ((HC2.out.below B55.out).more B55.out.size) (HVW.out.below B55.out)).mono ?_
  rintro e w6 ⟨rfl, hb6⟩
  generalize w5.alloc (.cells #[.int .u32 (q1 : Int), .int .u32 (q2 : Int), .int .u32 (q3 : Int), .int .u32 (q4 : Int), .bool q5, .bool q6, .int .i64 q7, .slice (some ⟨gz, 0, none⟩) qs.length cs.length] 46) = W5 at *
  have B6 := Lib.hid (B55.out.trans (hb6.mono B55.out.size))
  have D6 := Lib.hid hb6
  clear hb6
  have xx0 := cell_of_row _ _ 0 _ _ (0, 0) ((B6.out.block (w1.heap.size) (by omega)).trans X.out)
  have xx1 := cell_of_row _ _ 1 _ _ (0, 0) ((B6.out.block (w1.heap.size) (by omega)).trans X.out)
  have xx2 := cell_of_row _ _ 2 _ _ (0, 0) ((B6.out.block (w1.heap.size) (by omega)).trans X.out)
  have xx3 := cell_of_row _ _ 3 _ _ (0, 0) ((B6.out.block (w1.heap.size) (by omega)).trans X.out)
  have xx4 := cell_of_row _ _ 4 _ _ (0, 0) ((B6.out.block (w1.heap.size) (by omega)).trans X.out)
  have xx5 := cell_of_row _ _ 5 _ _ (0, 0) ((B6.out.block (w1.heap.size) (by omega)).trans X.out)
  have xx6 := cell_of_row _ _ 6 _ _ (0, 0) ((B6.out.block (w1.heap.size) (by omega)).trans X.out)
  have xx7 := cell_of_row _ _ 7 _ _ (0, 0) ((B6.out.block (w1.heap.size) (by omega)).trans X.out)
  simp only [List.getElem?_toArray, List.getElem?_cons_zero, List.getElem?_cons_succ] at xx0 xx1 xx2 xx3 xx4 xx5 xx6 xx7
  have hy0 := cell_of_row _ _ 0 _ _ (0, 0) ((B6.out.block (w.heap.size) (by omega)).trans Y.out)
  have hy1 := cell_of_row _ _ 1 _ _ (0, 0) ((B6.out.block (w.heap.size) (by omega)).trans Y.out)
  have hy2 := cell_of_row _ _ 2 _ _ (0, 0) ((B6.out.block (w.heap.size) (by omega)).trans Y.out)
  have hy3 := cell_of_row _ _ 3 _ _ (0, 0) ((B6.out.block (w.heap.size) (by omega)).trans Y.out)
  have hy4 := cell_of_row _ _ 4 _ _ (0, 0) ((B6.out.block (w.heap.size) (by omega)).trans Y.out)
  have hy5 := cell_of_row _ _ 5 _ _ (0, 0) ((B6.out.block (w.heap.size) (by omega)).trans Y.out)
  have hy6 := cell_of_row _ _ 6 _ _ (0, 0) ((B6.out.block (w.heap.size) (by omega)).trans Y.out)
  have hy7 := cell_of_row _ _ 7 _ _ (0, 0) ((B6.out.block (w.heap.size) (by omega)).trans Y.out)
  simp only [List.getElem?_toArray, List.getElem?_cons_zero, List.getElem?_cons_succ] at hy0 hy1 hy2 hy3 hy4 hy5 hy6 hy7
  go_wp2_with fail
  clear xx0 xx1 xx2 xx3 xx4 xx5 xx6 xx7 hy0 hy1 hy2 hy3 hy4 hy5 hy6 hy7
  refine (FR2.out A cap _ ((HC2.out.below B6.out).more B6.out.size) (HVW.out.below B6.out)).mono ?_
  rintro e w7 ⟨rfl, hb⟩
  have B7 := Lib.hid (B6.out.trans (hb.mono B6.out.size))
  have D7 := Lib.hid (D6.out.trans (hb.mono D6.out.size))
  clear hb
  have xx0 := cell_of_row _ _ 0 _ _ (0, 0) ((B7.out.block (w1.heap.size) (by omega)).trans X.out)
  have xx1 := cell_of_row _ _ 1 _ _ (0, 0) ((B7.out.block (w1.heap.size) (by omega)).trans X.out)
  have xx2 := cell_of_row _ _ 2 _ _ (0, 0) ((B7.out.block (w1.heap.size) (by omega)).trans X.out)
  have xx3 := cell_of_row _ _ 3 _ _ (0, 0) ((B7.out.block (w1.heap.size) (by omega)).trans X.out)
  have xx4 := cell_of_row _ _ 4 _ _ (0, 0) ((B7.out.block (w1.heap.size) (by omega)).trans X.out)
  have xx5 := cell_of_row _ _ 5 _ _ (0, 0) ((B7.out.block (w1.heap.size) (by omega)).trans X.out)
  have xx6 := cell_of_row _ _ 6 _ _ (0, 0) ((B7.out.block (w1.heap.size) (by omega)).trans X.out)
  have xx7 := cell_of_row _ _ 7 _ _ (0, 0) ((B7.out.block (w1.heap.size) (by omega)).trans X.out)
  simp only [List.getElem?_toArray, List.getElem?_cons_zero, List.getElem?_cons_succ] at xx0 xx1 xx2 xx3 xx4 xx5 xx6 xx7
  go_wp2_with fail
  clear xx0 xx1 xx2 xx3 xx4 xx5 xx6 xx7
  refine (FSZ.out A cap _ ((HC2.out.below B7.out).more B7.out.size)).mono ?_
  rintro e w8 ⟨rfl, hb⟩
  have B8 := Lib.hid (B7.out.trans (hb.mono B7.out.size))
  have D8 := Lib.hid (D7.out.trans (hb.mono D7.out.size))
  clear hb
  have xx0 := cell_of_row _ _ 0 _ _ (0, 0) ((B8.out.block (w1.heap.size) (by omega)).trans X.out)
  have xx1 := cell_of_row _ _ 1 _ _ (0, 0) ((B8.out.block (w1.heap.size) (by omega)).trans X.out)
  have xx2 := cell_of_row _ _ 2 _ _ (0, 0) ((B8.out.block (w1.heap.size) (by omega)).trans X.out)
  have xx3 := cell_of_row _ _ 3 _ _ (0, 0) ((B8.out.block (w1.heap.size) (by omega)).trans X.out)
  have xx4 := cell_of_row _ _ 4 _ _ (0, 0) ((B8.out.block (w1.heap.size) (by omega)).trans X.out)
  have xx5 := cell_of_row _ _ 5 _ _ (0, 0) ((B8.out.block (w1.heap.size) (by omega)).trans X.out)
  have xx6 := cell_of_row _ _ 6 _ _ (0, 0) ((B8.out.block (w1.heap.size) (by omega)).trans X.out)
  have xx7 := cell_of_row _ _ 7 _ _ (0, 0) ((B8.out.block (w1.heap.size) (by omega)).trans X.out)
  simp only [List.getElem?_toArray, List.getElem?_cons_zero, List.getElem?_cons_succ] at xx0 xx1 xx2 xx3 xx4 xx5 xx6 xx7
  go_wp2_with fail
  clear xx0 xx1 xx2 xx3 xx4 xx5 xx6 xx7
  refine (FRS.out A cap _ ((HC2.out.below B8.out).more B8.out.size)).mono ?_
  rintro e w9 ⟨rfl, hb⟩
  have B9 := Lib.hid (B8.out.trans (hb.mono B8.out.size))
  have D9 := Lib.hid (D8.out.trans (hb.mono D8.out.size))
  clear hb
  have hq0 := cell_of_row _ _ 0 _ _ (0, 0) ((B9.out.block (w2.heap.size) (by omega)).trans Q.out)
  have hq1 := cell_of_row _ _ 1 _ _ (0, 0) ((B9.out.block (w2.heap.size) (by omega)).trans Q.out)
  have hq2 := cell_of_row _ _ 2 _ _ (0, 0) ((B9.out.block (w2.heap.size) (by omega)).trans Q.out)
  have hq3 := cell_of_row _ _ 3 _ _ (0, 0) ((B9.out.block (w2.heap.size) (by omega)).trans Q.out)
  have hq4 := cell_of_row _ _ 4 _ _ (0, 0) ((B9.out.block (w2.heap.size) (by omega)).trans Q.out)
  have hq5 := cell_of_row _ _ 5 _ _ (0, 0) ((B9.out.block (w2.heap.size) (by omega)).trans Q.out)
  have hq6 := cell_of_row _ _ 6 _ _ (0, 0) ((B9.out.block (w2.heap.size) (by omega)).trans Q.out)
  have hq7 := cell_of_row _ _ 7 _ _ (0, 0) ((B9.out.block (w2.heap.size) (by omega)).trans Q.out)
  simp only [List.getElem?_toArray, List.getElem?_cons_zero, List.getElem?_cons_succ] at hq0 hq1 hq2 hq3 hq4 hq5 hq6 hq7
  have hz0 := cell_of_row _ _ 0 _ _ (0, 0) ((D9.out.block w5.heap.size (by omega)).trans Z.out)
  have hz1 := cell_of_row _ _ 1 _ _ (0, 0) ((D9.out.block w5.heap.size (by omega)).trans Z.out)
  have hz2 := cell_of_row _ _ 2 _ _ (0, 0) ((D9.out.block w5.heap.size (by omega)).trans Z.out)
  have hz3 := cell_of_row _ _ 3 _ _ (0, 0) ((D9.out.block w5.heap.size (by omega)).trans Z.out)
  have hz4 := cell_of_row _ _ 4 _ _ (0, 0) ((D9.out.block w5.heap.size (by omega)).trans Z.out)
  have hz5 := cell_of_row _ _ 5 _ _ (0, 0) ((D9.out.block w5.heap.size (by omega)).trans Z.out)
  have hz6 := cell_of_row _ _ 6 _ _ (0, 0) ((D9.out.block w5.heap.size (by omega)).trans Z.out)
  have hz7 := cell_of_row _ _ 7 _ _ (0, 0) ((D9.out.block w5.heap.size (by omega)).trans Z.out)
  simp only [List.getElem?_toArray, List.getElem?_cons_zero, List.getElem?_cons_succ] at hz0 hz1 hz2 hz3 hz4 hz5 hz6 hz7
  go_wp2_with fail
  clear hq0 hq1 hq2 hq3 hq4 hq5 hq6 hq7
  clear hz0 hz1 hz2 hz3 hz4 hz5 hz6 hz7
  refine (FSA.out A2 (some ⟨gz, 0, none⟩) cp2 cs.length _ (HV2.out.below B9.out) (HCZ5.out.below D9.out)).mono ?_
  rintro e w10 ⟨rfl, hb⟩
  have B10 := Lib.hid (B9.out.trans (hb.mono B9.out.size))
  clear hb
  go_wp2_with fail
  refine (FS.out _).mono ?_
  rintro e w11 ⟨rfl, hb⟩
  have B11 := Lib.hid (B10.out.trans (hb.mono B10.out.size))
  clear hb
  go_wp2_with fail
  go_ret
  exact ⟨rfl, HW2.out.trans (B11.out.mono HW2.out.size)⟩
set_option maxRecDepth 100000 in
theorem lawFrameOutputs_lifted (os : Os) (started : os.Started) (H : Type) (enc : TypeId × Value → H) :
    ReturnsInHanded {} Try.checked os 4 .any (Rows.frameOutputsSpec.pre6 enc Try.prog Try.f4 Rows.frameOutputsRow.domain false) (Rows.frameOutputsSpec.post enc Try.prog Try.f4 false true false false) := by
  refine returnsInHanded_of_change (C := Try.checked) own started (by kernel_rfl) Try.func4
    (ChangeSpec.witness6 (enc := enc) (C := Try.checked) false ⟨#[], #[.int .u8 0, .agg #[.int .u32 0, .int .u32 0, .int .u32 0, .int .u32 0, .bool false, .bool false, .int .i64 0, .slice none 0 0]], []⟩ 8 (by kernel_rfl) (by kernel_rfl) (by kernel_rfl) (by kernel_rfl)) ?_
  intro W base args ds gs before hval0 hW hcnd _
  have hval : ∀ (j : Nat) t v, Try.f4.params[j]? = some t → args[j]? = some v → Value.okWide Try.prog W .any base t v := hval0
  have hW' := hW
  obtain ⟨p, q, hA0, hV, rfl, hfz, hnd⟩ := hW
  have hA : DataW.TrodAll enc Try.prog W 0 (fun _ => true) true Try.f4.params.toList args.toList ds p := hA0
  rw [Try.params4] at hA hval
  obtain ⟨v0, vs0, d0, ds0, p0, q0, hargs, rfl, rfl, h0, r0⟩ := trodAll_cons hA
  obtain ⟨v1, vs1, d1, ds1, p1, q1, rfl, rfl, rfl, h1, r1⟩ := trodAll_cons r0
  obtain ⟨rfl, rfl, rfl⟩ := trodAll_nil r1
  obtain rfl : args = #[v0, v1] := by cases args; simp_all
  obtain ⟨rfl, rfl⟩ := trodVars_none hV
  obtain ⟨x0, rfl, rfl, rfl, g0⟩ := open_int Try.underlying5 (hval 0 5 v0 rfl rfl) h0
  have k1 := h1
  have lt1 : ∀ x ∈ p1, x.block < W.heap.size := by obtain ⟨m, hm⟩ := k1; exact DataW.trod_lt m _ _ _ hm
  obtain ⟨x1, y1, z1, rfl, g1, m1, n1⟩ := open_outputs (hval 1 46 v1 rfl rfl) h1
  clear hA0 hval0
  refine (lawFrameOutputs_walk x0 x1 y1 z1 W g0 g1 m1 n1).mono fun e W' ⟨he, bel⟩ => ?_
  subst he
  exact ⟨_, rfl, _, _, _, [], _, [], hW', trodAll_mk1 (shut_bool Try.underlying4 _), (trodAll_cons_mk (shut_int Try.underlying5 g0) (trodAll_cons_mk (Below.trod laidOut (by kernel_rfl) (of_decide_eq_true (by kernel_rfl)) k1 bel lt1) trodAll_mk0)), rfl, bel.frame _, fun h => by cases h⟩

theorem lawFrameOutputs_over : Rows.frameOutputsRow.holds Try.pinned (OpenSpec.ofChange Rows.frameOutputsSpec) :=
  OpenClaim.holds_of_wide 4 Try.f4 rfl rfl rfl rfl rfl rfl rfl ⟨rfl, rfl, rfl, rfl, rfl⟩ rfl rfl rfl rfl rfl (by kernel_rfl) Try.func4 (by kernel_rfl)
    (of_decide_eq_true (by kernel_rfl)) (by unfold Func.isWrapper; first | (rw [if_pos (by decide +kernel)]; kernel_rfl) | (rw [if_neg (by decide +kernel)]; exact ⟨rfl, rfl⟩))
    (fun os started H enc _ => lawFrameOutputs_lifted os started H enc)

theorem frameOutputs_holds : Rows.FrameOutputsSaid := lawFrameOutputs_over
#print axioms frameOutputs_holds
end
end Go.Proofs.Ytapkjknpoafhjaa
