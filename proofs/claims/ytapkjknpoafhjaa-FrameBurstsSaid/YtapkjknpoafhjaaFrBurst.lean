/- The law FrameBursts: a frame of which only some of 16 neighbouring bits have been changed is refused, for inputs and for outputs. No condition. -/
import Derived.Test.YtapkjknpoafhjaaMem
import Derived.Deep.Slices
import Derived.Deep.Fields
import Derived.ChangeSame
import Derived.ChangeOld
import Derived.Test.YtapkjknpoafhjaaFrIFit
import Derived.ChangeMaps5
import Derived.Test.YtapkjknpoafhjaaCrcFlip
import Derived.Test.YtapkjknpoafhjaaCrcSane
import Derived.Test.YtapkjknpoafhjaaFrOutB
import Derived.Great.BuildSlice
import Derived.Test.YtapkjknpoafhjaaBag
import Derived.Test.YtapkjknpoafhjaaFrOFit
import Derived.Test.YtapkjknpoafhjaaFrSane
namespace Go.Proofs.Ytapkjknpoafhjaa
section
open Go.RowKit Go.ChangeShapes Go.WideShapes Go.Deep


theorem list_of {α : Type} (d : α) (P : Nat → α → Prop) : ∀ n : Nat, (∀ i, i < n → ∃ c, P i c) → ∃ l : List α, l.length = n ∧ ∀ i, i < n → P i (l.getD i d)
  | 0, _ => ⟨[], rfl, fun i hi => absurd hi (by omega)⟩
  | n + 1, h => by
    obtain ⟨l, hl, hp⟩ := list_of d P n (fun i hi => h i (by omega))
    obtain ⟨c, hc⟩ := h n (by omega)
    refine ⟨l ++ [c], by simp [hl], fun i hi => ?_⟩
    rcases Nat.lt_or_ge i n with hlt | hge
    · have := hp i hlt
      rw [List.getD_eq_getElem?_getD] at this ⊢
      rwa [List.getElem?_append_left (by omega)]
    · obtain rfl : i = n := by omega
      rw [List.getD_eq_getElem?_getD, List.getElem?_append_right (by omega), hl]
      simpa using hc

section
variable {H : Type} {enc : TypeId × Value → H} {w : World} {base : Nat} {spare : Nat → Bool} {held : Bool}

theorem open_cars {fuel : Nat} {v : Value} {x : DataW H × List MemPlace} (h : DataW.trod enc Try.prog w base spare held fuel 23 [v] = some x) :
    ∃ (A : Option Addr) (cap : Nat) (cs : List CarD), v = .slice A cs.length cap ∧ CarsAt w w.heap.size A cs ∧ cs.length ≤ 9223372036854775807 := by
  obtain ⟨fs, hfs⟩ : ∃ fs, Try.prog.underlying 106 = some (.struct fs) := ⟨_, Try.underlying106⟩
  rcases open_slice Try.underlying23 h with ⟨hcs, _⟩ | ⟨a, len, cap, m, n, D, Pl, hcs, _, hl, hm, hmm, _, hi⟩
  · simp only [List.cons.injEq, and_true] at hcs
    exact ⟨none, 0, [], hcs, .inl rfl, by simp⟩
  · simp only [List.cons.injEq, and_true] at hcs
    subst hcs
    have hC : Try.prog.cellsOf 106 = 9 := by kernel_rfl
    have hml : len ≤ m := by rw [hmm]; split <;> omega
    have hone : ∀ i, i < len → ∃ c : CarD, ∀ j, j < 9 → w.cell? (a.add (i * 9 + j)) = some (.int .i64 (c.vals.getD j 0)) := by
      intro i hil
      obtain ⟨cs', hc, ht⟩ := hi i (by omega)
      rw [hC] at hc
      obtain ⟨ys, n', _, hy, hlen, hyl, hf⟩ := DataW.trod_struct Try.underlying106 ht
      obtain ⟨_, hcl, hat⟩ := World.cells?_some hc
      have hfield : ∀ j, j < 9 → ∃ z, w.cell? (a.add (i * 9 + j)) = some (.int .i64 z) := by
        intro j hj
        have hcell := hat j hj
        have hcs : cs'[j]? = some (cs'[j]'(by omega)) := List.getElem?_eq_getElem (by omega)
        have hint : ∃ z, cs'[j]'(by omega) = .int .i64 z := by
          have hdrop : (cs'.drop j).take 1 = [cs'[j]'(by omega)] := by
            rw [List.drop_eq_getElem_cons (by omega)]
            rfl
          have hk : Try.prog.cellsOf 3 = 1 := by kernel_rfl
          have key : ∀ f : Field, f.offset = j → f.type = 3 → (∃ y, DataW.trod enc Try.prog w base spare held n' f.type ((cs'.drop f.offset).take (Try.prog.cellsOf f.type)) = some y) → ∃ z, cs'[j]'(by omega) = .int .i64 z := by
            intro f ho ht' ⟨y, hy'⟩
            rw [ho, ht', hk, hdrop] at hy'
            obtain ⟨z, hz, _⟩ := DataW.trod_int Try.underlying3 hy'
            simp only [List.cons.injEq, and_true] at hz
            exact ⟨z, hz⟩
          have hj' : j = 0 ∨ j = 1 ∨ j = 2 ∨ j = 3 ∨ j = 4 ∨ j = 5 ∨ j = 6 ∨ j = 7 ∨ j = 8 := by omega
          rcases hj' with rfl | rfl | rfl | rfl | rfl | rfl | rfl | rfl | rfl
          · exact key _ rfl rfl ⟨_, (hf 0 _ rfl).trans (List.getElem?_eq_getElem (by rw [hyl]; decide))⟩
          · exact key _ rfl rfl ⟨_, (hf 1 _ rfl).trans (List.getElem?_eq_getElem (by rw [hyl]; decide))⟩
          · exact key _ rfl rfl ⟨_, (hf 2 _ rfl).trans (List.getElem?_eq_getElem (by rw [hyl]; decide))⟩
          · exact key _ rfl rfl ⟨_, (hf 3 _ rfl).trans (List.getElem?_eq_getElem (by rw [hyl]; decide))⟩
          · exact key _ rfl rfl ⟨_, (hf 4 _ rfl).trans (List.getElem?_eq_getElem (by rw [hyl]; decide))⟩
          · exact key _ rfl rfl ⟨_, (hf 5 _ rfl).trans (List.getElem?_eq_getElem (by rw [hyl]; decide))⟩
          · exact key _ rfl rfl ⟨_, (hf 6 _ rfl).trans (List.getElem?_eq_getElem (by rw [hyl]; decide))⟩
          · exact key _ rfl rfl ⟨_, (hf 7 _ rfl).trans (List.getElem?_eq_getElem (by rw [hyl]; decide))⟩
          · exact key _ rfl rfl ⟨_, (hf 8 _ rfl).trans (List.getElem?_eq_getElem (by rw [hyl]; decide))⟩
        obtain ⟨z, hz⟩ := hint
        exact ⟨z, by rw [← Go.Deep.add_add, hcell, hcs, hz]⟩
      obtain ⟨c1, h1⟩ := hfield 0 (by omega)
      obtain ⟨c2, h2⟩ := hfield 1 (by omega)
      obtain ⟨c3, h3⟩ := hfield 2 (by omega)
      obtain ⟨c4, h4⟩ := hfield 3 (by omega)
      obtain ⟨c5, h5⟩ := hfield 4 (by omega)
      obtain ⟨c6, h6⟩ := hfield 5 (by omega)
      obtain ⟨c7, h7⟩ := hfield 6 (by omega)
      obtain ⟨c8, h8⟩ := hfield 7 (by omega)
      obtain ⟨c9, h9⟩ := hfield 8 (by omega)
      refine ⟨⟨c1, c2, c3, c4, c5, c6, c7, c8, c9⟩, fun j hj => ?_⟩
      match j, hj with
      | 0, _ => exact h1
      | 1, _ => exact h2
      | 2, _ => exact h3
      | 3, _ => exact h4
      | 4, _ => exact h5
      | 5, _ => exact h6
      | 6, _ => exact h7
      | 7, _ => exact h8
      | 8, _ => exact h9
    obtain ⟨cs, hlen, hcs⟩ := list_of (default : CarD) (fun i c => ∀ j, j < 9 → w.cell? (a.add (i * 9 + j)) = some (.int .i64 (c.vals.getD j 0))) len hone
    refine ⟨some a, cap, cs, by rw [hlen], ?_, by unfold maxLen at hm; omega⟩
    rcases Nat.eq_zero_or_pos len with h0 | h0
    · exact .inl (List.eq_nil_of_length_eq_zero (by omega))
    · obtain ⟨b, off, spot⟩ := a
      have hfirst := hcs 0 h0 0 (by omega)
      have hsp : spot = none := by
        cases spot with
        | none => rfl
        | some s =>
          simp only [Nat.zero_mul, Nat.add_zero, Addr.add, if_true] at hfirst
          unfold World.cell? at hfirst
          split at hfirst <;> simp at hfirst
      subst hsp
      refine .inr ⟨b, off, rfl, ?_, fun i hil j hj => ?_⟩
      · have := World.block_lt_of_cell? w _ hfirst
        simpa [Addr.add] using this
      · have := hcs i (by omega) j hj
        have hadd : (⟨b, off, none⟩ : Addr).add (i * 9 + j) = ⟨b, off + i * 9 + j, none⟩ := by unfold Addr.add; split <;> simp_all; omega
        rw [← hadd]
        exact this

theorem trod_float_bits {fuel : Nat} {v : Value} {x : DataW H × List MemPlace} (h : DataW.trod enc Try.prog w base spare held fuel 22 [v] = some x) : ∃ b, v = .float .f64 b := by
  cases fuel with
  | zero => simp [DataW.trod] at h
  | succ n =>
    simp only [DataW.trod, Try.underlying22] at h
    split at h <;> simp_all

set_option maxRecDepth 100000 in
theorem open_building {r : Reach} {b0 : Nat} {v : Value} {d : DataW H} {p : List MemPlace} (hv : Value.okWide Try.prog w r b0 25 v) (h : DataW.Trod enc Try.prog w base spare held 25 v d p) :
    ∃ (b : BldD) (A : Option Addr) (cap : Nat), v = b.agg A cap ∧ CarsAt w w.heap.size A b.cars ∧ b.cars.length ≤ 9223372036854775807 := by
  obtain ⟨cs, rfl, hsz⟩ := okWide_struct Try.underlying25 hv
  obtain ⟨l⟩ := cs
  have hC : Try.prog.cellsOf 25 = 8 := by kernel_rfl
  match l, hsz.trans hC with
  | [c0, c1, c2, c3, c4, c5, c6, c7], _ =>
    obtain ⟨fuel, hf⟩ := h
    obtain ⟨xs, n, _, hx, _, hlen, hg⟩ := DataW.trod_struct Try.underlying25 hf
    have hki : Try.prog.cellsOf 3 = 1 := by kernel_rfl
    have hkf : Try.prog.cellsOf 22 = 1 := by kernel_rfl
    have hks : Try.prog.cellsOf 23 = 1 := by kernel_rfl
    have hyl : xs.length = 8 := by rw [hlen]; rfl
    have at_ : ∀ j, j < 8 → ∃ y, xs[j]? = some y := fun j hj => ⟨_, List.getElem?_eq_getElem (by omega)⟩
    obtain ⟨y0, e0⟩ := at_ 0 (by omega)
    obtain ⟨y1, e1⟩ := at_ 1 (by omega)
    obtain ⟨y2, e2⟩ := at_ 2 (by omega)
    obtain ⟨y3, e3⟩ := at_ 3 (by omega)
    obtain ⟨y4, e4⟩ := at_ 4 (by omega)
    obtain ⟨y5, e5⟩ := at_ 5 (by omega)
    obtain ⟨y6, e6⟩ := at_ 6 (by omega)
    obtain ⟨y7, e7⟩ := at_ 7 (by omega)
    have i0 := (hg 0 _ rfl).trans e0
    have i1 := (hg 1 _ rfl).trans e1
    have i2 := (hg 2 _ rfl).trans e2
    have i3 := (hg 3 _ rfl).trans e3
    have i4 := (hg 4 _ rfl).trans e4
    have i5 := (hg 5 _ rfl).trans e5
    have i6 := (hg 6 _ rfl).trans e6
    have i7 := (hg 7 _ rfl).trans e7
    simp [Value.cells, hki, hkf, hks] at i0 i1 i2 i3 i4 i5 i6 i7
    obtain ⟨z0, a0, _⟩ := DataW.trod_int Try.underlying3 i0
    obtain ⟨z1, a1, _⟩ := DataW.trod_int Try.underlying3 i1
    obtain ⟨z2, a2, _⟩ := DataW.trod_int Try.underlying3 i2
    obtain ⟨z3, a3, _⟩ := DataW.trod_int Try.underlying3 i3
    obtain ⟨z4, a4⟩ := trod_float_bits i4
    obtain ⟨z5, a5⟩ := trod_float_bits i5
    obtain ⟨z6, a6⟩ := trod_float_bits i6
    obtain ⟨A, cap, cars, a7, hcars⟩ := open_cars i7
    simp only [List.cons.injEq, and_true] at a0 a1 a2 a3
    subst a0 a1 a2 a3 a4 a5 a6 a7
    exact ⟨⟨z0, z1, z2, z3, z4, z5, z6, cars⟩, A, cap, rfl, hcars⟩
end
end

section
open Go Go.RowKit Go.ChangeShapes Go.WideShapes Go.Deep Frm

theorem u8_nat {x : Int} (h : (Lit.int .u8 x).wf = true) : ∃ n : Nat, x = (n : Int) ∧ n < 256 := by
  simp [Lit.wf, IntKind.min, IntKind.max, IntKind.bits, IntKind.signed] at h
  exact ⟨x.toNat, by omega, by omega⟩
theorem u32_nat {x : Int} (h : (Lit.int .u32 x).wf = true) : ∃ n : Nat, x = (n : Int) ∧ n < 4294967296 := by
  simp [Lit.wf, IntKind.min, IntKind.max, IntKind.bits, IntKind.signed] at h
  exact ⟨x.toNat, by omega, by omega⟩
theorem i64_in64 {x : Int} (h : (Lit.int .i64 x).wf = true) : In64 x := by
  simp [Lit.wf, IntKind.min, IntKind.max, IntKind.bits, IntKind.signed] at h
  unfold In64; omega
theorem list_ofCt {α : Type} (P : Nat → α → Prop) : ∀ n : Nat, (∀ i, i < n → ∃ c, P i c) → ∃ l : List α, l.length = n ∧ ∀ i (h : i < l.length), P i l[i]
  | 0, _ => ⟨[], rfl, fun i hi => absurd hi (by simp)⟩
  | n + 1, h => by
    obtain ⟨l, hl, hp⟩ := list_ofCt P n (fun i hi => h i (by omega))
    obtain ⟨c, hc⟩ := h n (by omega)
    refine ⟨l ++ [c], by simp [hl], fun i hi => ?_⟩
    rcases Nat.lt_or_ge i l.length with hlt | hge
    · rw [List.getElem_append_left hlt]; exact hp i hlt
    · have : i = n := by simp at hi; omega
      subst this
      rw [List.getElem_append_right hge]
      simpa [hl] using hc

section
variable {H : Type} {enc : TypeId × Value → H} {w : World} {base : Nat} {spare : Nat → Bool} {held : Bool}
theorem trod_float_wf {fuel : Nat} {cs : List Value} {x : DataW H × List MemPlace} (hc : cs.length = 1) (h : DataW.trod enc Try.prog w base spare held fuel 22 cs = some x) : ∃ b, cs = [.float .f64 b] ∧ b < 18446744073709551616 := by
  match cs, hc with
  | [v], _ =>
    cases fuel with
    | zero => simp [DataW.trod] at h
    | succ n =>
      cases v with
      | float k b =>
        simp only [DataW.trod, Try.underlying22] at h
        split at h
        · rename_i hh
          obtain ⟨rfl, hw⟩ := hh
          exact ⟨b, rfl, by simpa [Lit.wf] using hw⟩
        · cases h
      | _ => simp [DataW.trod, Try.underlying22] at h
set_option maxRecDepth 100000 in
theorem trod_contacts {fuel : Nat} {cs : List Value} {x : DataW H × List MemPlace} (h : DataW.trod enc Try.prog w base spare held fuel 67 cs = some x) : ∃ (a : Nat) (b c d e : Bool), cs = [.int .u32 a, .bool b, .bool c, .bool d, .bool e] ∧ a < 4294967296 := by
  obtain ⟨xs, n, _, _, hlen, hxl, hg⟩ := DataW.trod_struct Try.underlying67 h
  have hC : Try.prog.cellsOf 67 = 5 := by kernel_rfl
  have hkbool : Try.prog.cellsOf 4 = 1 := by kernel_rfl
  have hkuint32 : Try.prog.cellsOf 26 = 1 := by kernel_rfl
  rw [hC] at hlen
  match cs, hlen with
  | [c0, c1, c2, c3, c4], _ =>
    have hyl : xs.length = 5 := by rw [hxl]; rfl
    have i0 := (hg 0 _ rfl).trans (List.getElem?_eq_getElem (by omega : 0 < xs.length))
    have i1 := (hg 1 _ rfl).trans (List.getElem?_eq_getElem (by omega : 1 < xs.length))
    have i2 := (hg 2 _ rfl).trans (List.getElem?_eq_getElem (by omega : 2 < xs.length))
    have i3 := (hg 3 _ rfl).trans (List.getElem?_eq_getElem (by omega : 3 < xs.length))
    have i4 := (hg 4 _ rfl).trans (List.getElem?_eq_getElem (by omega : 4 < xs.length))
    simp [hkbool, hkuint32] at i0 i1 i2 i3 i4
    obtain ⟨z0, a0, _, wf0⟩ := DataW.trod_int Try.underlying26 i0
    obtain ⟨z1, a1, _⟩ := DataW.trod_bool Try.underlying4 i1
    obtain ⟨z2, a2, _⟩ := DataW.trod_bool Try.underlying4 i2
    obtain ⟨z3, a3, _⟩ := DataW.trod_bool Try.underlying4 i3
    obtain ⟨z4, a4, _⟩ := DataW.trod_bool Try.underlying4 i4
    simp only [List.cons.injEq, and_true] at a0 a1 a2 a3 a4
    subst a0 a1 a2 a3 a4
    obtain ⟨n0, rfl, h0⟩ := u32_nat wf0
    exact ⟨n0, z1, z2, z3, z4, rfl, h0⟩
set_option maxRecDepth 100000 in
theorem trod_feedback {fuel : Nat} {cs : List Value} {x : DataW H × List MemPlace} (h : DataW.trod enc Try.prog w base spare held fuel 69 cs = some x) : ∃ (a : Int) (b : Bool) (c : Int) (d : Bool), cs = [.int .i64 a, .bool b, .int .i64 c, .bool d] ∧ In64 a ∧ In64 c := by
  obtain ⟨xs, n, _, _, hlen, hxl, hg⟩ := DataW.trod_struct Try.underlying69 h
  have hC : Try.prog.cellsOf 69 = 4 := by kernel_rfl
  have hkbool : Try.prog.cellsOf 4 = 1 := by kernel_rfl
  have hkint : Try.prog.cellsOf 3 = 1 := by kernel_rfl
  rw [hC] at hlen
  match cs, hlen with
  | [c0, c1, c2, c3], _ =>
    have hyl : xs.length = 4 := by rw [hxl]; rfl
    have i0 := (hg 0 _ rfl).trans (List.getElem?_eq_getElem (by omega : 0 < xs.length))
    have i1 := (hg 1 _ rfl).trans (List.getElem?_eq_getElem (by omega : 1 < xs.length))
    have i2 := (hg 2 _ rfl).trans (List.getElem?_eq_getElem (by omega : 2 < xs.length))
    have i3 := (hg 3 _ rfl).trans (List.getElem?_eq_getElem (by omega : 3 < xs.length))
    simp [hkbool, hkint] at i0 i1 i2 i3
    obtain ⟨z0, a0, _, wf0⟩ := DataW.trod_int Try.underlying3 i0
    obtain ⟨z1, a1, _⟩ := DataW.trod_bool Try.underlying4 i1
    obtain ⟨z2, a2, _, wf2⟩ := DataW.trod_int Try.underlying3 i2
    obtain ⟨z3, a3, _⟩ := DataW.trod_bool Try.underlying4 i3
    simp only [List.cons.injEq, and_true] at a0 a1 a2 a3
    subst a0 a1 a2 a3
    have h0 := i64_in64 wf0
    have h2 := i64_in64 wf2
    exact ⟨z0, z1, z2, z3, rfl, h0, h2⟩
set_option maxRecDepth 100000 in
theorem trod_calls {fuel : Nat} {cs : List Value} {x : DataW H × List MemPlace} (h : DataW.trod enc Try.prog w base spare held fuel 28 cs = some x) : ∃ (a b : Nat), cs = [.int .u32 a, .int .u32 b] ∧ a < 4294967296 ∧ b < 4294967296 := by
  obtain ⟨xs, n, _, _, hlen, hxl, hg⟩ := DataW.trod_struct Try.underlying28 h
  have hC : Try.prog.cellsOf 28 = 2 := by kernel_rfl
  have hkuint32 : Try.prog.cellsOf 26 = 1 := by kernel_rfl
  rw [hC] at hlen
  match cs, hlen with
  | [c0, c1], _ =>
    have hyl : xs.length = 2 := by rw [hxl]; rfl
    have i0 := (hg 0 _ rfl).trans (List.getElem?_eq_getElem (by omega : 0 < xs.length))
    have i1 := (hg 1 _ rfl).trans (List.getElem?_eq_getElem (by omega : 1 < xs.length))
    simp [hkuint32] at i0 i1
    obtain ⟨z0, a0, _, wf0⟩ := DataW.trod_int Try.underlying26 i0
    obtain ⟨z1, a1, _, wf1⟩ := DataW.trod_int Try.underlying26 i1
    simp only [List.cons.injEq, and_true] at a0 a1
    subst a0 a1
    obtain ⟨n0, rfl, h0⟩ := u32_nat wf0
    obtain ⟨n1, rfl, h1⟩ := u32_nat wf1
    exact ⟨n0, n1, rfl, h0, h1⟩
set_option maxRecDepth 100000 in
theorem trod_command {fuel : Nat} {cs : List Value} {x : DataW H × List MemPlace} (h : DataW.trod enc Try.prog w base spare held fuel 30 cs = some x) : ∃ (a b : Int), cs = [.int .i64 a, .int .i64 b] ∧ In64 a ∧ In64 b := by
  obtain ⟨xs, n, _, _, hlen, hxl, hg⟩ := DataW.trod_struct Try.underlying30 h
  have hC : Try.prog.cellsOf 30 = 2 := by kernel_rfl
  have hkint : Try.prog.cellsOf 3 = 1 := by kernel_rfl
  rw [hC] at hlen
  match cs, hlen with
  | [c0, c1], _ =>
    have hyl : xs.length = 2 := by rw [hxl]; rfl
    have i0 := (hg 0 _ rfl).trans (List.getElem?_eq_getElem (by omega : 0 < xs.length))
    have i1 := (hg 1 _ rfl).trans (List.getElem?_eq_getElem (by omega : 1 < xs.length))
    simp [hkint] at i0 i1
    obtain ⟨z0, a0, _, wf0⟩ := DataW.trod_int Try.underlying3 i0
    obtain ⟨z1, a1, _, wf1⟩ := DataW.trod_int Try.underlying3 i1
    simp only [List.cons.injEq, and_true] at a0 a1
    subst a0 a1
    have h0 := i64_in64 wf0
    have h1 := i64_in64 wf1
    exact ⟨z0, z1, rfl, h0, h1⟩
theorem list11 (l : List Value) (h : l.length = 11) : ∃ c0 c1 c2 c3 c4 c5 c6 c7 c8 c9 c10, l = [c0, c1, c2, c3, c4, c5, c6, c7, c8, c9, c10] := by
  match l, h with
  | [c0, c1, c2, c3, c4, c5, c6, c7, c8, c9, c10], _ => exact ⟨c0, c1, c2, c3, c4, c5, c6, c7, c8, c9, c10, rfl⟩
set_option maxRecDepth 100000 in
theorem trod_carin {fuel : Nat} {cs : List Value} {x : DataW H × List MemPlace} (h : DataW.trod enc Try.prog w base spare held fuel 71 cs = some x) : ∃ c : CarIn, cs = carV c ∧ saneCar c := by
  obtain ⟨xs, n, _, _, hlen, hxl, hg⟩ := DataW.trod_struct Try.underlying71 h
  have hC : Try.prog.cellsOf 71 = 11 := by kernel_rfl
  have hk1 : Try.prog.cellsOf 67 = 5 := by kernel_rfl
  have hk2 : Try.prog.cellsOf 69 = 4 := by kernel_rfl
  have hk3 : Try.prog.cellsOf 26 = 1 := by kernel_rfl
  have hk4 : Try.prog.cellsOf 22 = 1 := by kernel_rfl
  rw [hC] at hlen
  obtain ⟨c0, c1, c2, c3, c4, c5, c6, c7, c8, c9, c10, rfl⟩ := list11 cs hlen
  have hyl : xs.length = 4 := by rw [hxl]; rfl
  have i0 := (hg 0 _ rfl).trans (List.getElem?_eq_getElem (by omega : 0 < xs.length))
  have i1 := (hg 1 _ rfl).trans (List.getElem?_eq_getElem (by omega : 1 < xs.length))
  have i2 := (hg 2 _ rfl).trans (List.getElem?_eq_getElem (by omega : 2 < xs.length))
  have i3 := (hg 3 _ rfl).trans (List.getElem?_eq_getElem (by omega : 3 < xs.length))
  simp [hk1, hk2, hk3, hk4] at i0 i1 i2 i3
  obtain ⟨a, b, c, d, e, e0, ha⟩ := trod_contacts i0
  obtain ⟨f, g, i, j, e1, hf, hi⟩ := trod_feedback i1
  obtain ⟨z2, e2, _, wf2⟩ := DataW.trod_int Try.underlying26 i2
  obtain ⟨l, e3, hl⟩ := trod_float_wf rfl i3
  simp only [List.cons.injEq, and_true] at e0 e1 e2 e3
  obtain ⟨rfl, rfl, rfl, rfl, rfl⟩ := e0
  obtain ⟨rfl, rfl, rfl, rfl⟩ := e1
  subst e2 e3
  obtain ⟨m, rfl, hm⟩ := u32_nat wf2
  exact ⟨⟨a, b, c, d, e, f, g, i, j, m, l⟩, rfl, ha, hm, hl, hf, hi⟩
set_option maxRecDepth 100000 in
theorem open_carins {fuel : Nat} {v : Value} {x : DataW H × List MemPlace} (h : DataW.trod enc Try.prog w base spare held fuel 31 [v] = some x) : ∃ (A : Option Addr) (cap : Nat) (l : List CarIn), v = .slice A l.length cap ∧ CarsV w A l ∧ (∀ c ∈ l, saneCar c) ∧ l.length ≤ maxLen := by
  rcases open_slice Try.underlying31 h with ⟨hcs, _⟩ | ⟨a, len, cap, m, n, D, Pl, hcs, _, hl, hm, hmm, _, hi⟩
  · simp only [List.cons.injEq, and_true] at hcs
    exact ⟨none, 0, [], hcs, .inl rfl, by simp, by simp [maxLen]⟩
  · simp only [List.cons.injEq, and_true] at hcs
    subst hcs
    have hC : Try.prog.cellsOf 71 = 11 := by kernel_rfl
    have hml : len ≤ m := by rw [hmm]; split <;> omega
    obtain ⟨l, hll, hp⟩ := list_ofCt (fun i (c : CarIn) => saneCar c ∧ ∀ j v, (carV c)[j]? = some v → w.cell? (a.add (i * 11 + j)) = some v) len (fun i hil => by
      obtain ⟨cs', hc, ht⟩ := hi i (by omega)
      rw [hC] at hc
      obtain ⟨c, hcc, hok⟩ := trod_carin ht
      obtain ⟨_, hcl, hat⟩ := World.cells?_some hc
      refine ⟨c, hok, fun j v hv => ?_⟩
      have hj : j < 11 := by
        rcases Nat.lt_or_ge j 11 with h | h
        · exact h
        · rw [List.getElem?_eq_none (by show 11 ≤ j; exact h)] at hv; cases hv
      rw [← Go.Deep.add_add, hat j hj, hcc]; exact hv)
    refine ⟨some a, cap, l, by rw [hll], ?_, fun c hc => ?_, by omega⟩
    · rcases Nat.eq_zero_or_pos len with h0 | h0
      · exact .inl (List.eq_nil_of_length_eq_zero (by omega))
      · obtain ⟨b, off, spot⟩ := a
        have hfirst := (hp 0 (by omega)).2 0 _ rfl
        have hsp : spot = none := by
          cases spot with
          | none => rfl
          | some s =>
            simp only [Nat.zero_mul, Nat.add_zero, Addr.add, if_true] at hfirst
            unfold World.cell? at hfirst
            split at hfirst <;> simp at hfirst
        subst hsp
        refine .inr ⟨b, off, rfl, fun i hi j v hv => ?_⟩
        have := (hp i hi).2 j v hv
        have hadd : (⟨b, off, none⟩ : Addr).add (i * 11 + j) = ⟨b, off + i * 11 + j, none⟩ := by unfold Addr.add; split <;> simp_all; omega
        rw [← hadd]
        exact this
    · obtain ⟨i, hi', rfl⟩ := List.getElem_of_mem hc
      exact (hp i hi').1
set_option maxRecDepth 100000 in
theorem open_inputs {r : Reach} {b0 : Nat} {v : Value} {d : DataW H} {p : List MemPlace} (hv : Value.okWide Try.prog w r b0 33 v) (h : DataW.Trod enc Try.prog w base spare held 33 v d p) :
    ∃ (y : In) (A : Option Addr) (cp : Nat), v = inAgg y A cp ∧ saneIn y ∧ CarsV w A y.cars ∧ y.cars.length ≤ maxLen := by
  obtain ⟨cs, rfl, hsz⟩ := okWide_struct Try.underlying33 hv
  obtain ⟨l⟩ := cs
  have hC : Try.prog.cellsOf 33 = 5 := by kernel_rfl
  have hk1 : Try.prog.cellsOf 28 = 2 := by kernel_rfl
  have hk2 : Try.prog.cellsOf 30 = 2 := by kernel_rfl
  have hk3 : Try.prog.cellsOf 31 = 1 := by kernel_rfl
  match l, hsz.trans hC with
  | [c0, c1, c2, c3, c4], _ =>
    obtain ⟨fuel, hf⟩ := h
    obtain ⟨xs, n, _, hx, _, hlen, hg⟩ := DataW.trod_struct Try.underlying33 hf
    have hyl : xs.length = 3 := by rw [hlen]; rfl
    have i0 := (hg 0 _ rfl).trans (List.getElem?_eq_getElem (by omega : 0 < xs.length))
    have i1 := (hg 1 _ rfl).trans (List.getElem?_eq_getElem (by omega : 1 < xs.length))
    have i2 := (hg 2 _ rfl).trans (List.getElem?_eq_getElem (by omega : 2 < xs.length))
    simp [Value.cells, hk1, hk2, hk3] at i0 i1 i2
    obtain ⟨a, b, e0, ha, hb⟩ := trod_calls i0
    obtain ⟨c, d, e1, hc, hd⟩ := trod_command i1
    obtain ⟨A, cap, l, e2, hcv, hsn, hml⟩ := open_carins i2
    simp only [List.cons.injEq, and_true] at e0 e1
    obtain ⟨rfl, rfl⟩ := e0
    obtain ⟨rfl, rfl⟩ := e1
    subst e2
    exact ⟨⟨a, b, c, d, l⟩, A, cap, rfl, ⟨ha, hb, hc, hd, hsn⟩, hcv, hml⟩
end
end

section
open Go Go.RowKit Go.ChangeShapes Go.WideShapes Go.Deep Frm

set_option linter.all false
set_option maxRecDepth 100000
theorem u16_natP {x : Int} (h : (Lit.int .u16 x).wf = true) : ∃ n : Nat, x = (n : Int) ∧ n < 65536 := by
  simp [Lit.wf, IntKind.min, IntKind.max, IntKind.bits, IntKind.signed] at h
  exact ⟨x.toNat, by omega, by omega⟩

section
variable {H : Type} {enc : TypeId × Value → H} {w : World} {base : Nat} {spare : Nat → Bool} {held : Bool}
theorem trod_ints {P : Program} {fuel n : Nat} {t e : TypeId} {k : IntKind} {cs : List Value} {x : DataW H × List MemPlace} (ht : P.underlying t = some (.array n e)) (he : P.underlying e = some (.int k)) (hc : P.cellsOf e = 1) (hct : P.cellsOf t = n)
    (h : DataW.trod enc P w base spare held fuel t cs = some x) : ∃ ys : List Int, ys.length = n ∧ cs = (ys.map fun y => (Value.int k y)) ∧ x.1 = .agg (ys.map fun y => (DataW.lit (.int k y))) ∧ ∀ y ∈ ys, (Lit.int k y).wf = true := by
  obtain ⟨xs, m, _, hx, hlen, hxl, hg⟩ := DataW.trod_array ht h
  rw [hct] at hlen
  have hone : ∀ i, i < n → ∃ y : Int, cs[i]? = some (.int k y) ∧ (xs[i]?).map (·.1) = some (.lit (.int k y)) ∧ (Lit.int k y).wf = true := fun i hi => by
    have h1 := (hg i hi).trans (List.getElem?_eq_getElem (by omega : i < xs.length))
    rw [hc, Nat.mul_one, List.drop_eq_getElem_cons (by omega : i < cs.length)] at h1
    have h2 : DataW.trod enc P w base spare held m e [cs[i]'(by omega)] = some (xs[i]'(by omega)) := h1
    obtain ⟨y, hy, hd, hw⟩ := DataW.trod_int he h2
    simp only [List.cons.injEq, and_true] at hy
    exact ⟨y, by rw [List.getElem?_eq_getElem (by omega : i < cs.length), hy], by rw [List.getElem?_eq_getElem (by omega : i < xs.length), hd]; rfl, hw⟩
  obtain ⟨l, hl, hp⟩ := list_ofCt (fun i (y : Int) => cs[i]? = some (.int k y) ∧ (xs[i]?).map (·.1) = some (.lit (.int k y)) ∧ (Lit.int k y).wf = true) n hone
  refine ⟨l, hl, ?_, ?_, ?_⟩
  · apply List.ext_getElem?
    intro i
    rcases Nat.lt_or_ge i n with h | h
    · rw [(hp i (by omega)).1, List.getElem?_map, List.getElem?_eq_getElem (by omega : i < l.length)]; rfl
    · rw [List.getElem?_eq_none (by omega), List.getElem?_eq_none (by rw [List.length_map]; omega)]
  · rw [hx]
    refine congrArg DataW.agg ?_
    apply List.ext_getElem?
    intro i
    rw [List.getElem?_map, List.getElem?_map]
    rcases Nat.lt_or_ge i n with h | h
    · rw [(hp i (by omega)).2.1, List.getElem?_eq_getElem (by omega : i < l.length)]; rfl
    · rw [List.getElem?_eq_none (by omega : xs.length ≤ i), List.getElem?_eq_none (by omega : l.length ≤ i)]; rfl
  · intro y hy
    obtain ⟨i, hi, rfl⟩ := List.getElem_of_mem hy
    exact (hp i hi).2.2

theorem agg_of {T e : TypeId} {n : Nat} {r : Reach} {b0 : Nat} {v : Value} (ht : Try.prog.underlying T = some (.array n e)) (hv : Value.okWide Try.prog w r b0 T v) : ∃ cs, v = .agg cs ∧ cs.size = Try.prog.cellsOf T := by
  simp only [Value.okWide, ht] at hv
  obtain ⟨cs, h1, h2, _⟩ := hv
  exact ⟨cs, h1, h2⟩
theorem open_au16_2 {r : Reach} {b0 : Nat} {v : Value} {d : DataW H} {p : List MemPlace} (hv : Value.okWide Try.prog w r b0 61 v) (h : DataW.Trod enc Try.prog w base spare held 61 v d p) :
    ∃ x y : Nat, v = .agg #[.int .u16 x, .int .u16 y] ∧ x < 65536 ∧ y < 65536 := by
  obtain ⟨⟨l⟩, rfl, hsz⟩ := agg_of Try.underlying61 hv
  obtain ⟨fuel, hf⟩ := h
  obtain ⟨ys, hl, hcs, _, hw⟩ := trod_ints Try.underlying61 Try.underlying60 (by kernel_rfl) (by kernel_rfl) hf
  match ys, hl with
  | [x, y], _ =>
    obtain ⟨m, rfl, hm⟩ := u16_natP (hw x (by simp))
    obtain ⟨n, rfl, hn⟩ := u16_natP (hw y (by simp))
    refine ⟨m, n, ?_, hm, hn⟩
    have : l = [.int .u16 m, .int .u16 n] := by simpa [Value.cells] using hcs
    rw [this]
end
end

section
open Go Go.RowKit Frm

/-- Has one of the first i bits been changed? -/
def chgTo (at_ mask N : Nat) : Nat → Bool
  | 0 => false
  | i + 1 => chgTo at_ mask N i || (mask.testBit i && decide (at_ + i < N))
theorem chgTo_some {at_ mask N : Nat} : ∀ {i : Nat}, chgTo at_ mask N i = true → ∃ j, j < i ∧ mask.testBit j = true ∧ at_ + j < N
  | 0, h => by cases h
  | i + 1, h => by
    simp only [chgTo, Bool.or_eq_true, Bool.and_eq_true, decide_eq_true_iff] at h
    rcases h with h | h
    · obtain ⟨j, h1, h2⟩ := chgTo_some h
      exact ⟨j, by omega, h2⟩
    · exact ⟨i, by omega, h⟩
theorem chg_reg {l : List UInt8} {r at_ mask : Nat} (hr : r < 65536) (hc : chgTo at_ mask (8 * l.length) 16 = true) : Crc.reg 8 0x1021 r (Crc.flips at_ mask 16 l) ≠ Crc.reg 8 0x1021 r l := by
  intro h
  rw [Crc.reg_flips hr l at_ mask 16 (by omega)] at h
  have hd : (0x1021 : Nat) < 2 ^ (15 + 1) := by decide
  have h0 : Crc.shN 16 0x1021 (8 * l.length - at_) (Crc.pat at_ mask (8 * l.length) 16) = 0 := by
    have := congrArg (fun x => Crc.reg 8 0x1021 r l ^^^ x) h
    simpa [Crc.xor_cancel] using this
  have hp := Crc.shN_ne_zero (n := 15) hd (by decide) _ (Crc.pat_lt at_ mask (8 * l.length) 16) h0
  obtain ⟨j, hj, hc⟩ := chgTo_some hc
  have := Crc.pat_bit at_ mask (8 * l.length) 16 (by omega) j hj
  rw [hp] at this
  simp [hc, hj] at this
theorem chg_bad {l : List UInt8} {at_ mask : Nat} (hc : chgTo at_ mask (8 * (sealL l).length) 16 = true) : openOk (Crc.flips at_ mask 16 (sealL l)) = false := by
  have h5 : openE (Crc.flips at_ mask 16 (sealL l)) = 5 := by
    refine openE_bad (by rw [Crc.flips_length, sealL_length]; omega) fun h => ?_
    refine chg_reg (r := 65535) (by omega) hc ?_
    show sum16 _ = sum16 _
    rw [h, sum16_seal]
  cases h : openOk (Crc.flips at_ mask 16 (sealL l))
  · rfl
  · unfold openE at h5
    rw [h] at h5
    split at h5 <;> simp at h5
/-- ReadIn, as its caller sees it: some inputs and a number that is not 0 where the sum does not fit. -/
theorem readIn_seen (x : BldD) (A : Option Addr) (cap : Nat) (s : ByteArray) (w : World) (hxn : x.cars.length ≤ 140737488355328) (hc : CarsAt w w.heap.size A x.cars) (hs : s.size ≤ maxLen) :
    Calls Try.prog 13 #[x.agg A cap, .string s] w fun e w' => Below w.heap.size w w' ∧ ∃ (y : In) (A2 : Option Addr) (cp2 : Nat) (code : Int), e = .returned (.tuple #[inAgg y A2 cp2, .int .i64 code]) ∧ (openOk (bl s) = false → (code == 0) = false) := by
  refine (readInTop_any x A cap s w hxn hc hs).mono ?_
  rintro e w' ⟨hb, ⟨ho, -, g, -, rfl⟩ | ⟨code, -, hne, rfl⟩⟩
  · exact ⟨hb, _, _, _, _, rfl, fun h => by rw [ho.2.2.2] at h; cases h⟩
  · exact ⟨hb, _, _, _, _, rfl, fun _ => beq_eq_false_iff_ne.2 hne⟩
theorem readOut_seen (x : BldD) (A : Option Addr) (cap : Nat) (s : ByteArray) (w : World) (hxn : x.cars.length ≤ 140737488355328) (hc : CarsAt w w.heap.size A x.cars) (hs : s.size ≤ maxLen) :
    Calls Try.prog 18 #[x.agg A cap, .string s] w fun e w' => Below w.heap.size w w' ∧ ∃ (y : Ou) (A2 : Option Addr) (cp2 : Nat) (code : Int), e = .returned (.tuple #[ouAgg y A2 cp2, .int .i64 code]) ∧ (openOk (bl s) = false → (code == 0) = false) := by
  refine (rdOutTop_any x A cap s w hxn hc hs).mono ?_
  rintro e w' ⟨hb, ⟨ho, -, g, -, rfl⟩ | ⟨code, -, hne, rfl⟩⟩
  · exact ⟨hb, _, _, _, _, rfl, fun h => by rw [ho.2.2.2] at h; cases h⟩
  · exact ⟨hb, _, _, _, _, rfl, fun _ => beq_eq_false_iff_ne.2 hne⟩
theorem mask_bit16 (mask k : Nat) (hm : mask < 65536) : bits .and .u16 ((mask : Int) / 2 ^ k) 1 = if mask.testBit k then 1 else 0 := by
  have e : ((mask : Int) / 2 ^ k) = ((mask / 2 ^ k : Nat) : Int) := by simp
  have hle : mask / 2 ^ k ≤ mask := Nat.div_le_self _ _
  rw [e]
  generalize hq : mask / 2 ^ k = q at *
  have h1 := bits_mask .u16 16 (by decide) (fun n h0 h1 => by rw [IntKind.wrap_u16]; omega) 1 (by decide) (q : Int) (by omega) (by omega)
  have h2 : bits .and .u16 (q : Int) 1 = (q : Int) % 2 := h1
  rw [h2, Nat.testBit_eq_decide_div_mod_eq, hq]
  by_cases h : q % 2 = 1
  · simp [h]; omega
  · simp [h]; omega
theorem conv_bytesB (w : World) (l : List UInt8) : ∃ c R fr, (convert 9 55 (.string ⟨l.toArray⟩)).run Try.prog w = .ok (.slice (some ⟨w.heap.size, 0, none⟩) l.length c) (w.drew.alloc (.cells R 5 (fr, fr + 1))) ∧
    FlipRel w w.heap.size l (w.alloc (.cells R 5 (fr, fr + 1))).drew := by
  have hz : (⟨l.toArray⟩ : ByteArray).size = l.length := List.size_toArray ..
  have hconv := run_bytes_of_string (P := Try.prog) w 9 55 5 ⟨l.toArray⟩ (by kernel_rfl) (by kernel_rfl) (by kernel_rfl)
  have hnew := flipRel_new w ⟨l.toArray⟩ 5 (grownCap w (⟨l.toArray⟩ : ByteArray).size 0 5) (bytesRow ⟨l.toArray⟩ (grownCap w (⟨l.toArray⟩ : ByteArray).size 0 5)).size (by simp only [bytesRow, Array.size_append, Array.size_map, Array.size_replicate]; show l.toArray.size ≤ _; simp [ByteArray.size])
  rw [hz] at hconv hnew
  exact ⟨_, _, _, hconv, hnew.1, ((Below.refl _ _).alloc (Nat.le_refl _) _).drew, hnew.2.2⟩
theorem bytes_backB {P : Program} {W W' : World} {g : Nat} {l : List UInt8} (h : BytesAt W g l) (hb : Below W.heap.size W W') (hg : g < W.heap.size) (src dst e : TypeId) (n cap : Nat) (hn : n = l.length)
    (hs : P.underlying src = some (.slice e)) (he : P.underlying e = some (.int .u8)) (hd : P.underlying dst = some .string) :
    (convert src dst (.slice (some ⟨g, 0, none⟩) n cap)).run P W' = .ok (.string ⟨l.toArray⟩) W' := by
  subst hn
  refine run_convert_bytes_back _ _ _ e _ cap l hs he hd fun j hj => ?_
  rw [addr_add, hb.cell (p := ⟨g, j, none⟩) hg, (h j hj).1]
  simp [List.getD, hj]
theorem strInfoB : (Try.prog.info? 9).map (fun i => (i.zero, i.size, i.bytes)) = some (some (.string ⟨#[]⟩), 1, 16) := by kernel_rfl
theorem wpList_two {ops : Array Oper} {rest : List Oper} {o : Oper} {a : Act} {w : World} {Q : Exit → Act → World → Prop} (hg : o.guard = none) (x y : Operand) (ho : o.op = .buildSlice 56 2 #[(0, x), (1, y)]) (s t : ByteArray) (hx : a.eval x = .string s) (hy : a.eval y = .string t)
    (h : wpList Try.prog ops Q rest (a.put o.dst (.slice (some ⟨w.heap.size, 0, none⟩) 2 2)) (w.alloc (.cells #[.string s, .string t] 9))) : wpList Try.prog ops Q (o :: rest) a w := by
  obtain ⟨i, hi, hz, hsz, _⟩ := info_parts strInfoB
  refine wpList_buildSlice hg 56 9 2 _ ho #[.string s, .string t] i _ Try.underlying56 hi hz (by rw [hsz]; decide) (by rw [hsz]; decide) ?_ h
  rw [hsz]
  have e : ((#[(0, x), (1, y)] : Array (Nat × Operand)).map fun (i, x) => (i, a.eval x)).toList = [(0, .string s), (1, .string t)] := by
    simp [hx, hy]
  have er : Array.range (2 * 1) = #[0, 1] := by decide
  rw [e, er]
  simp [Instr.fill, Value.cells]
theorem blk2B (w : World) (A B : Obj) : ((w.alloc A).alloc B).heap[w.heap.size]? = some A ∧ ((w.alloc A).alloc B).heap[w.heap.size + 1]? = some B := by
  have s1 : (w.alloc A).heap.size = w.heap.size + 1 := by simp
  refine ⟨?_, ?_⟩
  · rw [Below.heap_alloc _ _ _ (by omega), heap_alloc_new]
  · rw [← s1, heap_alloc_new]
end

section
namespace GhostV
open Go Go.RowKit Go.Proofs.Ytapkjknpoafhjaa.Bag

abbrev Gh := Nat → Value
abbrev Run := Nat → Bool
def upd (γ : Gh) (i : Nat) (b : Value) : Gh := fun j => if j = i then b else γ j
def mark (L : Run) (i : Nat) : Run := fun j => if j = i then true else L j

section
variable {P : Program} {ops : Array Oper} {I : Gh → Run → World → Prop}

/-- One operation, number i, whose value is 'val' of its ghost. -/
def Step (P : Program) (ops : Array Oper) (I : Gh → Run → World → Prop) (i : Nat) (o : Oper) (A : Gh → Act) (val : Value → Value) : Prop :=
  ((∀ γ, Region.wanted o (yielded ops (A γ).tmps) = false) ∧ (∀ b, val b = undef) ∧ ∀ γ L w, I γ L w → I γ (mark L i) w) ∨
  ((∀ γ, Region.wanted o (yielded ops (A γ).tmps) = true) ∧
    ∀ γ (L : Run) w, L i = false → (∀ j, Region.waitsFor .any ops i j = true → L j = true) → I γ L w → o.wp P (A γ) w (fun a' w' => ∃ b, a' = (A γ).put o.dst (val b) ∧ I (upd γ i b) (mark L i) w') NoEnd)

def walk (P : Program) (ops : Array Oper) (I : Gh → Run → World → Prop) (Q : (Gh → Act) → Prop) : Nat → List Oper → (Gh → Act) → Prop
  | _, [], A => Q A
  | i, o :: rest, A => ∃ val : Value → Value, Step P ops I i o A val ∧ walk P ops I Q (i + 1) rest (fun γ => (A γ).put o.dst (val (γ i)))

theorem walk_acts {Q : (Gh → Act) → Prop} : ∀ (l : List Oper) (i : Nat) (A : Gh → Act), walk P ops I Q i l A → ∃ (Af : Nat → Gh → Act) (val : Nat → Value → Value), Af 0 = A ∧
    (∀ k o, l[k]? = some o → Step P ops I (i + k) o (Af k) (val k) ∧ ∀ γ, Af (k + 1) γ = (Af k γ).put o.dst (val k (γ (i + k)))) ∧ Q (Af l.length)
  | [], _, A, h => ⟨fun _ => A, fun _ _ => undef, rfl, fun k o hk => by simp at hk, h⟩
  | o :: rest, i, A, ⟨v, hs, h⟩ => by
    obtain ⟨Af, val, h0, hst, hQ⟩ := walk_acts rest (i + 1) _ h
    refine ⟨fun n => match n with | 0 => A | n + 1 => Af n, fun n => match n with | 0 => v | n + 1 => val n, rfl, fun k ok hk => ?_, hQ⟩
    cases k with
    | zero =>
      simp only [List.getElem?_cons_zero, Option.some.injEq] at hk
      subst hk
      exact ⟨hs, fun γ => by show Af 0 γ = _; rw [h0]; rfl⟩
    | succ k =>
      have := hst k ok (by simpa using hk)
      rw [show i + 1 + k = i + (k + 1) from by omega] at this
      exact this

structure Seq (ops : Array Oper) (Af : Nat → Gh → Act) (val : Nat → Value → Value) (a0 : Act) : Prop where
  zero : ∀ γ, Af 0 γ = a0
  put : ∀ k o, ops[k]? = some o → ∀ γ, Af (k + 1) γ = (Af k γ).put o.dst (val k (γ k))

variable {Af : Nat → Gh → Act} {val : Nat → Value → Value} {a0 : Act}

theorem Seq.size (h : Seq ops Af val a0) (γ : Gh) : ∀ k, k ≤ ops.size → (Af k γ).tmps.size = a0.tmps.size ∧ (Af k γ).defers = a0.defers
  | 0, _ => by rw [h.zero]; exact ⟨rfl, rfl⟩
  | k + 1, hk => by
    rw [h.put k _ (Array.getElem?_eq_getElem (by omega : k < ops.size)) γ, put_size, put_defers']
    exact h.size γ k (by omega)
theorem Seq.keeps (h : Seq ops Af val a0) (γ : Gh) {s : Tmp} (k : Nat) : ∀ m, k ≤ m → m ≤ ops.size → (∀ j oj, k ≤ j → j < m → ops[j]? = some oj → oj.dst ≠ some s) → (Af m γ).tmps[s]? = (Af k γ).tmps[s]?
  | 0, hm, _, _ => by have : k = 0 := by omega
                      subst this; rfl
  | m + 1, hm, hs, hw => by
    rcases Nat.lt_or_ge m k with hlt | hge
    · have : k = m + 1 := by omega
      subst this; rfl
    · have hmm : m < ops.size := by omega
      have hom := Array.getElem?_eq_getElem hmm
      have ih := h.keeps γ k m hge (by omega) (fun j oj h1 h2 h3 => hw j oj h1 (by omega) h3)
      rw [h.put m _ hom γ, ← ih]
      have hne := hw m _ hge (by omega) hom
      cases hd : ops[m].dst with
      | none => rfl
      | some d => rw [put_get, if_neg (fun e => hne (by rw [hd, e]))]
/-- What stands in a slot behind its operation. -/
theorem Seq.at_ (h : Seq ops Af val a0) (hok : Ok ops) (γ : Gh) {j : Nat} {oj : Oper} {s : Tmp} (hj : ops[j]? = some oj) (hd : oj.dst = some s) {m : Nat} (hm : j < m) (hs : m ≤ ops.size) : (Af m γ).tmps[s]? = if s < a0.tmps.size then some (val j (γ j)) else none := by
  rw [h.keeps γ (j + 1) m (by omega) hs (fun k ok h1 h2 hk hdk => by have := hok.one k ok j oj s hk hj hdk hd; omega), h.put j oj hj γ, hd, put_get, if_pos rfl, (h.size γ j (by omega)).1]

structure Inv (ops : Array Oper) (val : Nat → Value → Value) (a0 : Act) (γ : Gh) (listed : Array Bool) (a : Act) : Prop where
  size : listed.size = ops.size
  closed : ∀ j oj, ops[j]? = some oj → listed.getD j false = true → ∀ e ∈ oj.after, Region.binds .any e = true → listed.getD e.on false = true
  tsize : a.tmps.size = a0.tmps.size
  defers : a.defers = a0.defers
  done : ∀ j oj s, ops[j]? = some oj → oj.dst = some s → listed.getD j false = true → a.tmps[s]? = if s < a0.tmps.size then some (val j (γ j)) else none
  rest : ∀ s, (∀ j oj, ops[j]? = some oj → listed.getD j false = true → oj.dst ≠ some s) → a.tmps[s]? = a0.tmps[s]?

theorem agree (hok : Ok ops) (hseq : Seq ops Af val a0) {γ : Gh} {listed : Array Bool} {a : Act} (inv : Inv ops val a0 γ listed a) {i : Nat} {oi : Oper} (hi : ops[i]? = some oi) (hun : listed.getD i false = false)
    (hrd : ∀ e ∈ oi.after, Region.binds .any e = true → listed.getD e.on false = true) {s : Tmp} (hs : s ∈ oi.looksAt ops) : a.tmps[s]? = (Af i γ).tmps[s]? := by
  have hil := (Array.getElem?_eq_some_iff.1 hi).1
  by_cases hw : ∃ (j : Nat) (oj : Oper), ops[j]? = some oj ∧ oj.dst = some s
  · obtain ⟨j, oj, hj, hd⟩ := hw
    have hjl := (Array.getElem?_eq_some_iff.1 hj).1
    rcases hok.reads i oi j oj s hi hj hd hs with ⟨hlt, hwt⟩ | ⟨hlt, hwt⟩
    · obtain ⟨e, he, hb, hon⟩ := waits_spec hi hwt
      have hl := hrd e he hb
      rw [hon] at hl
      rw [inv.done j oj s hj hd hl, hseq.at_ hok γ hj hd hlt (by omega)]
    · have hjun : listed.getD j false = false := by
        cases hc : listed.getD j false with
        | false => rfl
        | true =>
          obtain ⟨e, he, hb, hon⟩ := waits_spec hj hwt
          have := inv.closed j oj hj hc e he hb
          rw [hon, hun] at this
          cases this
      rw [inv.rest s (fun k ok hk hl hdk => by
        have := hok.one k ok j oj s hk hj hdk hd
        subst this
        rw [hjun] at hl
        cases hl), hseq.keeps γ 0 i (by omega) (by omega) (fun k ok h1 h2 hk hdk => by have := hok.one k ok j oj s hk hj hdk hd; omega), hseq.zero]
  · have hno : ∀ (j : Nat) (oj : Oper), ops[j]? = some oj → oj.dst ≠ some s := fun j oj hj hd => hw ⟨j, oj, hj, hd⟩
    rw [inv.rest s (fun j oj hj _ => hno j oj hj), hseq.keeps γ 0 i (by omega) (by omega) (fun k ok _ _ hk => hno k ok hk), hseq.zero]

theorem inv_next (hok : Ok ops) (hseq : Seq ops Af val a0) {γ : Gh} {listed : Array Bool} {a : Act} (inv : Inv ops val a0 γ listed a) {i : Nat} {oi : Oper} (hi : ops[i]? = some oi)
    (hrd : ∀ e ∈ oi.after, Region.binds .any e = true → listed.getD e.on false = true) {v : Value} {b : Value} (hv : (Af i γ).put oi.dst v = (Af i γ).put oi.dst (val i b)) : Inv ops val a0 (upd γ i b) (listed.setIfInBounds i true) (a.put oi.dst v) := by
  have hil := (Array.getElem?_eq_some_iff.1 hi).1
  have hset : (listed.setIfInBounds i true).getD i false = true := by simp [inv.size, hil]
  have hsz := hseq.size γ i (by omega)
  refine ⟨by simp [inv.size], fun j oj hj hl e he hb => ?_, by rw [put_size]; exact inv.tsize, by rw [put_defers']; exact inv.defers, fun j oj s hj hd hl => ?_, fun s hs => ?_⟩
  · by_cases hij : i = j
    · subst hij
      rw [hi] at hj
      obtain rfl := Option.some.inj hj
      exact getD_set_true (hrd e he hb)
    · rw [getD_set_ne false hij] at hl
      exact getD_set_true (inv.closed j oj hj hl e he hb)
  · by_cases hij : i = j
    · subst hij
      rw [hi] at hj
      obtain rfl := Option.some.inj hj
      have h1 : ((Af i γ).put oi.dst v).tmps[s]? = ((Af i γ).put oi.dst (val i b)).tmps[s]? := by rw [hv]
      rw [hd, put_get, put_get, if_pos rfl, if_pos rfl, hsz.1] at h1
      rw [hd, put_get, if_pos rfl, inv.tsize, h1]
      show _ = if s < a0.tmps.size then some (val i (upd γ i b i)) else none
      unfold upd
      rw [if_pos rfl]
    · rw [getD_set_ne false hij] at hl
      have h1 := inv.done j oj s hj hd hl
      have h2 : upd γ i b j = γ j := by unfold upd; rw [if_neg (fun e => hij e.symm)]
      rw [h2, ← h1]
      cases hdi : oi.dst with
      | none => rfl
      | some d =>
        rw [put_get, if_neg]
        intro e
        subst e
        exact hij (hok.one i oi j oj d hi hj hdi hd)
  · have hne : oi.dst ≠ some s := hs i oi hi hset
    have h2 : a.tmps[s]? = a0.tmps[s]? := inv.rest s (fun j oj hj hl => hs j oj hj (getD_set_true hl))
    rw [← h2]
    cases hdi : oi.dst with
    | none => rfl
    | some d => rw [put_get, if_neg (fun e => hne (by rw [hdi, e]))]

/-- What has run, as a function. -/
def runOf (listed : Array Bool) : Run := fun j => listed.getD j false
theorem runOf_set {listed : Array Bool} {i : Nat} (hi : i < listed.size) : runOf (listed.setIfInBounds i true) = mark (runOf listed) i := by
  funext j
  unfold runOf mark
  by_cases h : j = i
  · subst h; rw [if_pos rfl]; simp [hi]
  · rw [if_neg h, getD_set_ne false (fun e => h e.symm)]

theorem wpOp_of (hok : Ok ops) (hseq : Seq ops Af val a0) (hst : ∀ i o, ops[i]? = some o → Step P ops I i o (Af i) (val i)) {γ : Gh} {listed : Array Bool} {a : Act} {w : World} (inv : Inv ops val a0 γ listed a) (hI : I γ (runOf listed) w) {Q : Exit → Act → World → Prop} {i : Nat} (hr : i ∈ Region.ready .any ops listed)
    {K : Act → World → Prop} (hK : ∀ γ' a' w', Inv ops val a0 γ' (listed.setIfInBounds i true) a' → I γ' (runOf (listed.setIfInBounds i true)) w' → K a' w') : wpOp P ops Q i K a w := by
  obtain ⟨hun, oi, hi, hrd⟩ := mem_ready.1 hr
  have hun' := getD_both hun
  have hil := (Array.getElem?_eq_some_iff.1 hi).1
  obtain ⟨he, hwd⟩ := eval_of_agree (hok.sel i oi · · hi) (fun s hs => agree hok hseq inv hi hun' hrd hs)
  have hset := runOf_set (listed := listed) (i := i) (by rw [inv.size]; exact hil)
  unfold Go.wpOp
  simp only [hi]
  have next : ∀ b v w', (Af i γ).put oi.dst v = (Af i γ).put oi.dst (val i b) → I (upd γ i b) (mark (runOf listed) i) w' → K (a.put oi.dst v) w' := fun b v w' hv hI' => hK _ _ _ (inv_next hok hseq inv hi hrd hv) (by rw [hset]; exact hI')
  rw [hwd]
  rcases hst i oi hi with ⟨hnw, hu, hm⟩ | ⟨hw, hs⟩
  · rw [if_neg (by rw [hnw]; simp)]
    refine next (γ i) undef w (by rw [hu]) ?_
    have e : upd γ i (γ i) = γ := by
      funext j; unfold upd
      by_cases h : j = i
      · rw [if_pos h, h]
      · rw [if_neg h]
    rw [e]
    exact hm _ _ _ hI
  · rw [if_pos (hw γ)]
    refine .inl ?_
    have h := hs γ (runOf listed) w hun' (fun j hj => by obtain ⟨e, he, hb, hon⟩ := waits_spec hi hj; have := hrd e he hb; rw [hon] at this; exact this) hI
    unfold Oper.wp at h ⊢
    rw [he]
    generalize (execOp (Af i γ).eval oi).run P w = r at h
    cases r with
    | ok n w' =>
      cases n with
      | value v => obtain ⟨b, h1, h2⟩ := h; exact next b v w' h1 h2
      | skip => obtain ⟨b, h1, h2⟩ := h; exact next b undef w' h1 h2
      | defer d =>
        exfalso
        obtain ⟨b, h1, _⟩ := h
        have := congrArg Act.defers h1
        rw [put_defers', put_defers'] at this
        exact absurd (congrArg List.length this) (by simp)
      | enter f args =>
        refine Calls.mono h fun e w'' r => ?_
        cases e with
        | returned v => obtain ⟨b, h1, h2⟩ := r; exact next b v w'' h1 h2
        | panicked c => exact r.elim
        | outgrown => obtain ⟨_, _, h⟩ := r; exact h.elim
      | row row args => exact Rows.mono h fun v w'' r => by obtain ⟨b, h1, h2⟩ := r; exact next b v w'' h1 h2
      | _ => exact h.elim
    | halt x w' => cases x <;> exact h.elim

theorem all_listed (hok : Ok ops) {listed : Array Bool} (hr : Region.ready .any ops listed = []) (hsz : listed.size = ops.size) : ∀ n i, i < n → i < ops.size → listed.getD i false = true
  | 0, i, h, _ => absurd h (by omega)
  | n + 1, i, h, hi => by
    rcases Nat.lt_or_ge i n with hlt | hge
    · exact all_listed hok hr hsz n i hlt hi
    · cases hc : listed.getD i false with
      | true => rfl
      | false =>
        exfalso
        have hoi := Array.getElem?_eq_getElem hi
        have hmem : i ∈ Region.ready .any ops listed := mem_ready.2 ⟨getD_in (by omega) hc, _, hoi, fun e he hb => by
          have := hok.back i _ hoi e he hb
          exact all_listed hok hr hsz n e.on (by omega) (by omega)⟩
        rw [hr] at hmem
        cases hmem

theorem final (hok : Ok ops) (hseq : Seq ops Af val a0) {γ : Gh} {listed : Array Bool} {a : Act} (inv : Inv ops val a0 γ listed a) (hr : Region.ready .any ops listed = []) : a = Af ops.size γ := by
  have hall := fun i hi => all_listed hok hr inv.size ops.size i hi hi
  have ht : a.tmps = (Af ops.size γ).tmps := by
    apply Array.ext_getElem?
    intro s
    by_cases hw : ∃ (j : Nat) (oj : Oper), ops[j]? = some oj ∧ oj.dst = some s
    · obtain ⟨j, oj, hj, hd⟩ := hw
      have hjl := (Array.getElem?_eq_some_iff.1 hj).1
      rw [inv.done j oj s hj hd (hall j hjl), hseq.at_ hok γ hj hd hjl (Nat.le_refl _)]
    · have hno : ∀ (j : Nat) (oj : Oper), ops[j]? = some oj → oj.dst ≠ some s := fun j oj hj hd => hw ⟨j, oj, hj, hd⟩
      rw [inv.rest s (fun j oj hj _ => hno j oj hj), hseq.keeps γ 0 ops.size (by omega) (Nat.le_refl _) (fun k ok _ _ hk => hno k ok hk), hseq.zero]
  have hd : a.defers = (Af ops.size γ).defers := by rw [inv.defers, (hseq.size γ ops.size (Nat.le_refl _)).2]
  cases a
  cases h : Af ops.size γ
  rw [h] at ht hd
  simp only at ht hd
  subst ht hd
  rfl

theorem wpAny_of (hok : Ok ops) (hseq : Seq ops Af val a0) (hst : ∀ i o, ops[i]? = some o → Step P ops I i o (Af i) (val i)) {Q : Exit → Act → World → Prop} (hQ : ∀ γ L w, (∀ j, j < ops.size → L j = true) → I γ L w → Q .normal (Af ops.size γ) w) :
    ∀ (fuel : Nat) (γ : Gh) (listed : Array Bool) (a : Act) (w : World), Inv ops val a0 γ listed a → I γ (runOf listed) w → (ops.size ≤ fuel + ((List.range ops.size).filter fun i => listed.getD i false).length) → wpAny P .any ops Q fuel listed a w
  | 0, γ, listed, a, w, inv, hI, hf => by
    have hall : Region.ready .any ops listed = [] := by
      rw [List.eq_nil_iff_forall_not_mem]
      intro i hi
      obtain ⟨hun, oi, ho, _⟩ := mem_ready.1 hi
      have hil := (Array.getElem?_eq_some_iff.1 ho).1
      have hlen : ((List.range ops.size).filter fun i => listed.getD i false).length = (List.range ops.size).length := by
        have := List.length_filter_le (fun i => listed.getD i false) (List.range ops.size)
        rw [List.length_range] at this ⊢
        omega
      have := List.length_filter_eq_length_iff.1 hlen i (List.mem_range.2 hil)
      rw [getD_both hun] at this
      cases this
    exact ⟨hall, by rw [final hok hseq inv hall]; exact hQ γ _ w (fun j hj => all_listed hok hall inv.size ops.size j hj hj) hI⟩
  | fuel + 1, γ, listed, a, w, inv, hI, hf => by
    refine ⟨fun hr => by rw [final hok hseq inv hr]; exact hQ γ _ w (fun j hj => all_listed hok hr inv.size ops.size j hj hj) hI, fun i hi => wpOp_of hok hseq hst inv hI hi fun γ' a' w' inv' hI' => wpAny_of hok hseq hst hQ fuel γ' _ a' w' inv' hI' ?_⟩
    obtain ⟨hun, oi, ho, _⟩ := mem_ready.1 hi
    have hil := (Array.getElem?_eq_some_iff.1 ho).1
    have hlt : ((List.range ops.size).filter fun i => listed.getD i false).length < ((List.range ops.size).filter fun j => (listed.setIfInBounds i true).getD j false).length := by
      rw [← List.countP_eq_length_filter, ← List.countP_eq_length_filter]
      have hsplit := range_split ops.size i hil
      rw [hsplit, List.countP_append, List.countP_append, List.countP_cons, List.countP_cons]
      have h1 : List.countP (fun i => listed.getD i false) (List.range i) ≤ List.countP (fun j => (listed.setIfInBounds i true).getD j false) (List.range i) := List.countP_mono_left fun j _ h => getD_set_true h
      have h2 : List.countP (fun i => listed.getD i false) (List.range' (i + 1) (ops.size - (i + 1))) ≤ List.countP (fun j => (listed.setIfInBounds i true).getD j false) (List.range' (i + 1) (ops.size - (i + 1))) := List.countP_mono_left fun j _ h => getD_set_true h
      have h3 : (listed.setIfInBounds i true).getD i false = true := by simp [inv.size, hil]
      rw [h3, getD_both hun]
      simp
      simp at h1 h2
      omega
    omega

/-- THE LAW. -/
theorem ghost {id : Nat} {l : List Oper} {a : Act} {w : World} {Q : Exit → Act → World → Prop} (I : Gh → Run → World → Prop) (hm : P.follows .mixedOrders = true) (hok : ok l.toArray = true)
    (hI : ∀ γ, I γ (fun _ => false) { w with drawn := w.drawn + 1 }) (h : walk P l.toArray I (fun A => ∀ γ L w', (∀ j, j < l.length → L j = true) → I γ L w' → Q .normal (A γ) w') 0 l (fun _ => a)) : (Code.region id l.toArray true).wp P Q a w := by
  obtain ⟨Af, val, h0, hst, hQ⟩ := walk_acts l 0 _ h
  have hsz : l.toArray.size = l.length := by simp
  have hseq : Seq l.toArray Af val a := ⟨fun γ => by rw [h0], fun k o hk γ => by have := (hst k o (by simpa using hk)).2 γ; rwa [Nat.zero_add] at this⟩
  have hst' : ∀ i o, l.toArray[i]? = some o → Step P l.toArray I i o (Af i) (val i) := fun i o hi => by have := (hst i o (by simpa using hi)).1; rwa [Nat.zero_add] at this
  refine wp_region_any hm (wpAny_of (ok_spec hok) hseq hst' (by rw [hsz]; exact hQ) _ (fun _ => undef) _ a _ ⟨by simp, fun j oj _ hl => (by rw [getD_replicate_false] at hl; cases hl), rfl, rfl, fun j oj s _ _ hl => (by rw [getD_replicate_false] at hl; cases hl), fun s _ => rfl⟩ ?_ (by omega))
  have e : runOf (Array.replicate l.toArray.size false) = fun _ => false := by funext j; unfold runOf; rw [getD_replicate_false]
  rw [e]
  exact hI _

theorem walk_nil {Q : (Gh → Act) → Prop} {A : Gh → Act} {i : Nat} (h : Q A) : walk P ops I Q i [] A := h
theorem walk_no {Q : (Gh → Act) → Prop} {A : Gh → Act} {o : Oper} {rest : List Oper} {i : Nat} (hw : ∀ γ, Region.wanted o (yielded ops (A γ).tmps) = false) (hm : ∀ γ L w, I γ L w → I γ (mark L i) w) (h : walk P ops I Q (i + 1) rest (fun γ => (A γ).put o.dst undef)) : walk P ops I Q i (o :: rest) A :=
  ⟨fun _ => undef, .inl ⟨hw, fun _ => rfl, hm⟩, h⟩
/-- An operation: its value, of its ghost; what it needs to have run before it may be asked by 'kernel_rfl'. -/
theorem walk_yes {Q : (Gh → Act) → Prop} {A : Gh → Act} {o : Oper} {rest : List Oper} {i : Nat} (val : Value → Value) (hw : ∀ γ, Region.wanted o (yielded ops (A γ).tmps) = true)
    (hs : ∀ γ (L : Run) w, L i = false → (∀ j, Region.waitsFor .any ops i j = true → L j = true) → I γ L w → ∀ K : Act → World → Prop, (∀ b w', I (upd γ i b) (mark L i) w' → K ((A γ).put o.dst (val b)) w') → o.wp P (A γ) w K NoEnd)
    (h : walk P ops I Q (i + 1) rest (fun γ => (A γ).put o.dst (val (γ i)))) : walk P ops I Q i (o :: rest) A :=
  ⟨val, .inr ⟨hw, fun γ L w h1 h2 h3 => hs γ L w h1 h2 h3 _ (fun b _ h' => ⟨b, rfl, h'⟩)⟩, h⟩
/-- An operation that gives one value, whatever the ghosts. -/
theorem walk_const {Q : (Gh → Act) → Prop} {A : Gh → Act} {o : Oper} {rest : List Oper} {i : Nat} {v : Value} (hw : ∀ γ, Region.wanted o (yielded ops (A γ).tmps) = true)
    (hs : ∀ γ (L : Run) w, L i = false → (∀ j, Region.waitsFor .any ops i j = true → L j = true) → I γ L w → ∀ K : Act → World → Prop, (∀ w', I (upd γ i undef) (mark L i) w' → K ((A γ).put o.dst v) w') → o.wp P (A γ) w K NoEnd)
    (h : walk P ops I Q (i + 1) rest (fun γ => (A γ).put o.dst v)) : walk P ops I Q i (o :: rest) A :=
  walk_yes (fun _ => v) hw (fun γ L w h1 h2 h3 K hK => hs γ L w h1 h2 h3 K (fun w' h' => hK undef w' h')) h
end
end GhostV
end

section
open Go.RowKit GhostV

/-- What a value is in a world, and goes on being where what lay lies. -/
abbrev Pd := { p : World → Value → Prop // ∀ (w w' : World) (v : Value), p w v → Below w.heap.size w w' → p w' v }
/-- The answers D, each made by the operation of its number. -/
structure GP (W : World) (D : List (Nat × Pd)) (γ : Gh) (L : Run) (wx : World) : Prop where
  below : Below W.heap.size W wx
  row : ∀ d ∈ D, L d.1 = true → d.2.1 wx (γ d.1)
theorem GP.start (W : World) (D : List (Nat × Pd)) (γ : Gh) : GP W D γ (fun _ => false) { W with drawn := W.drawn + 1 } :=
  ⟨(Below.refl _ _).drew, fun _ _ h => absurd h Bool.false_ne_true⟩
theorem GP.no {W wx : World} {D : List (Nat × Pd)} {γ : Gh} {L : Run} {i : Nat} (h : GP W D γ L wx) (hi : (D.all fun d => decide (d.1 ≠ i)) = true) : GP W D γ (GhostV.mark L i) wx := by
  have H : ∀ d ∈ D, d.1 ≠ i := fun d hd => of_decide_eq_true (List.all_eq_true.1 hi d hd)
  refine ⟨h.below, fun d hd hl => h.row d hd ?_⟩
  unfold GhostV.mark at hl
  rwa [if_neg (H d hd)] at hl
theorem GP.next {W wx w' : World} {D : List (Nat × Pd)} {γ : Gh} {L : Run} {i : Nat} (h : GP W D γ L wx) (v : Value) (hi : (D.all fun d => decide (d.1 ≠ i)) = true) (hb : Below wx.heap.size wx w') : GP W D (upd γ i v) (GhostV.mark L i) w' := by
  have H : ∀ d ∈ D, d.1 ≠ i := fun d hd => of_decide_eq_true (List.all_eq_true.1 hi d hd)
  refine ⟨h.below.trans (hb.mono h.below.size), fun d hd hl => ?_⟩
  unfold GhostV.mark at hl
  rw [if_neg (H d hd)] at hl
  unfold upd
  rw [if_neg (H d hd)]
  exact d.2.2 _ _ _ (h.row d hd hl) hb
theorem GP.make {W wx w' : World} {D : List (Nat × Pd)} {γ : Gh} {L : Run} {i : Nat} (h : GP W D γ L wx) {v : Value} (hv : ∀ d ∈ D, d.1 = i → d.2.1 w' v) (hb : Below wx.heap.size wx w') : GP W D (upd γ i v) (GhostV.mark L i) w' := by
  refine ⟨h.below.trans (hb.mono h.below.size), fun d hd hl => ?_⟩
  unfold GhostV.mark at hl
  unfold upd
  by_cases hi : d.1 = i
  · rw [if_pos hi]
    exact hv d hd hi
  · rw [if_neg hi] at hl ⊢
    exact d.2.2 _ _ _ (h.row d hd hl) hb
end

section
open Go Go.RowKit Frm GhostV Go.ChangeShapes Go.WideShapes Go.ChangeAt

def pdIn (y : In) : Pd := ⟨fun w v => ∃ A2 cp2, v = inAgg y A2 cp2 ∧ CarsV w A2 y.cars, fun _ _ _ h hb => by obtain ⟨A2, cp2, hv, hc⟩ := h; exact ⟨A2, cp2, hv, hc.below hb⟩⟩
def pdOu (y : Ou) : Pd := ⟨fun w v => ∃ A2 cp2, v = ouAgg y A2 cp2 ∧ CosV w A2 y.cars, fun _ _ _ h hb => by obtain ⟨A2, cp2, hv, hc⟩ := h; exact ⟨A2, cp2, hv, hc.below hb⟩⟩

set_option linter.unusedVariables false
set_option linter.unusedSimpArgs false
set_option maxRecDepth 100000 in
set_option maxHeartbeats 8000000 in
theorem lawFrameBursts_walk (n : Int) (y : In) (A' : Option Addr) (cp : Nat) (a m : Nat) (w : World) (hn : (Lit.int .u8 n).wf = true) (hy : saneIn y) (hv : CarsV w A' y.cars) (hml : y.cars.length ≤ maxLen) (ha : a < 65536) (hm : m < 65536) :
    Calls Try.prog 7 #[.int .u8 n, inAgg y A' cp, .agg #[.int .u16 a, .int .u16 m]] w fun e w' => e = .returned (.bool true) ∧ Below w.heap.size w w' := by
  obtain ⟨n8, rfl, hn8⟩ := u8_nat hn
  clear hn
  unfold maxLen at hml
  have FS := Lib.hid (fun w => frameSane_any w)
  have HV := Lib.hid hv
  have HY := Lib.hid hy
  clear hv hy
  obtain ⟨F, hF1, hF2, hFF⟩ : ∃ F : Nat, 2 ≤ F ∧ F ≤ 32 ∧ F = 2 + n8 % 31 := ⟨_, by omega, by omega, rfl⟩
  obtain ⟨C, hC1, hC2, hCC⟩ : ∃ C : Nat, 1 ≤ C ∧ C ≤ 8 ∧ C = 1 + n8 / 31 % 8 := ⟨_, by omega, by omega, rfl⟩
  have FBU := Lib.hid (fun w => building_any n8 w hn8)
  rw [← hFF, ← hCC] at FBU
  clear hFF hCC
  have hV := sample_valid (F : Int) C (by omega) (by omega) hC1 hC2
  have hcl : (sampleD (F : Int) C).cars.length = C := sampleCars_length _ _
  by_cases h20 : 20 < y.cars.length
  · clear FBU
    obtain ⟨pu, pd, kind, car, ys⟩ := y
    simp only [BldD.agg, inAgg] at *
    have hd1 : decide (20 < (ys.length : Int)) = true := decide_eq_true (by omega)
    go_enter Try.func7, Try.ntmps7
    go_wp2_with fail
    refine (FS.out _).mono ?_
    rintro e w2 ⟨rfl, hb⟩
    have HB := Lib.hid hb
    clear hb
    go_wp2_with fail
    go_ret
    exact ⟨rfl, (((Below.refl _ w).alloc (Nat.le_refl _) _).alloc (by simp) _).trans (HB.out.mono (by simp; omega))⟩
  by_cases hm0 : m = 0
  · clear FBU
    subst hm0
    obtain ⟨pu, pd, kind, car, ys⟩ := y
    simp only [BldD.agg, inAgg] at *
    have hd1 : decide (20 < (ys.length : Int)) = false := decide_eq_false (by omega)
    go_enter Try.func7, Try.ntmps7
    go_wp2_with fail
    refine (FS.out _).mono ?_
    rintro e w2 ⟨rfl, hb⟩
    have HB := Lib.hid hb
    clear hb
    go_wp2_with fail
    go_ret
    exact ⟨rfl, (((Below.refl _ w).alloc (Nat.le_refl _) _).alloc (by simp) _).trans (HB.out.mono (by simp; omega))⟩
  have hfok := fitIn_ok F C y hF1 hF2 hC1 hC2
  have hfsn := fitIn_sane F C y HY.out hF1 hF2 hC1 hC2
  have hfl : (fitIn F C y).cars.length = C := by show (fitCars F C y.cars).length = C; rw [fitCars_pad, List.length_map, padCars_length]
  have FFT := Lib.hid (fun A cap w (h : CarsV w A' y.cars) => fitted_any F C (sampleD (F : Int) C) A cap y A' cp w hF1 hF2 hC1 hC2 rfl hcl HY.out (by omega) h)
  have hres : inRes (sampleD (F : Int) C) (fitIn F C y) = .tuple #[.string ⟨(inText (sampleD (F : Int) C) (fitIn F C y)).toArray⟩, .int .i64 0] := by unfold inRes; rw [if_pos hfok]
  have FRI : Hid (∀ A cap v wx, CarsAt wx wx.heap.size A (sampleD (F : Int) C).cars → (pdIn (fitIn F C y)).1 wx v → Calls Try.prog 12 #[(sampleD (F : Int) C).agg A cap, v] wx fun e w' => e = .returned (.tuple #[.string ⟨(inText (sampleD (F : Int) C) (fitIn F C y)).toArray⟩, .int .i64 0]) ∧ Below wx.heap.size wx w') := Lib.hid (fun A cap v wx hc hp => by
    obtain ⟨A2, cp2, rfl, hv⟩ := hp
    have h := refIn_res (sampleD (F : Int) C) A cap (fitIn F C y) A2 cp2 wx (by omega) hc (by omega) hfsn hv
    rw [hres] at h
    exact h)
  obtain ⟨y0, hy0⟩ : ∃ y0 : Ou, y0 = ⟨⟨0, 0, y.pu, y.pd, true, false, 0⟩, []⟩ := ⟨_, rfl⟩
  have hs0 : saneOu y0 := by rw [hy0]; exact ⟨⟨⟨(by decide : (0 : Nat) < 4294967296), (by decide : (0 : Nat) < 4294967296)⟩, ⟨HY.out.1, HY.out.2.1⟩, by show In64 0; unfold In64; omega⟩, fun c hc => by cases hc⟩
  have hgok := fitOu_ok F C y0 hF1 hF2 hC1 hC2
  have hgsn := fitOu_sane F C y0 hs0
  have hgl : (fitOu F C y0).cars.length = C := by show (fitCos F C y0.cars).length = C; rw [fitCos_pad, List.length_map, padCos_length]
  have FFO := Lib.hid (fun A cap w => ofitted_any F C (sampleD (F : Int) C) A cap y0 none 0 w hF1 hF2 hC1 hC2 rfl hcl hs0 (by rw [hy0]; exact Nat.zero_le _) (.inl (by rw [hy0])))
  have hreo : ouRes (sampleD (F : Int) C) (fitOu F C y0) = .tuple #[.string ⟨(ouText (sampleD (F : Int) C) (fitOu F C y0)).toArray⟩, .int .i64 0] := by unfold ouRes; rw [if_pos hgok]
  have FRO : Hid (∀ A cap v wx, CarsAt wx wx.heap.size A (sampleD (F : Int) C).cars → (pdOu (fitOu F C y0)).1 wx v → Calls Try.prog 17 #[(sampleD (F : Int) C).agg A cap, v] wx fun e w' => e = .returned (.tuple #[.string ⟨(ouText (sampleD (F : Int) C) (fitOu F C y0)).toArray⟩, .int .i64 0]) ∧ Below wx.heap.size wx w') := Lib.hid (fun A cap v wx hc hp => by
    obtain ⟨A2, cp2, rfl, hv⟩ := hp
    have h := refOut_res (sampleD (F : Int) C) A cap (fitOu F C y0) A2 cp2 wx hV (by omega) hc (by omega) hgsn hv
    rw [hreo] at h
    exact h)
  have HRI := Lib.hid (fun A cap s wx (hc : CarsAt wx wx.heap.size A (sampleD (F : Int) C).cars) hs => readIn_seen (sampleD (F : Int) C) A cap s wx (by omega) hc hs)
  have HRO := Lib.hid (fun A cap s wx (hc : CarsAt wx wx.heap.size A (sampleD (F : Int) C).cars) hs => readOut_seen (sampleD (F : Int) C) A cap s wx (by omega) hc hs)
  obtain ⟨L1, hL1, hz1⟩ : ∃ L1, inText (sampleD (F : Int) C) (fitIn F C y) = sealL L1 ∧ (sealL L1).length ≤ 1000 := by
    have hok := (isIn_iff _ _).1 hfok
    have ho := (frame_read hfsn hok).1.2.1
    refine ⟨_, rfl, ?_⟩
    have h2 : (⟨(inText (sampleD (F : Int) C) (fitIn F C y)).toArray⟩ : ByteArray).size = (inText (sampleD (F : Int) C) (fitIn F C y)).length := List.size_toArray ..
    rw [h2, hcl] at ho
    show (inText (sampleD (F : Int) C) (fitIn F C y)).length ≤ 1000
    omega
  obtain ⟨L2, hL2, hz2⟩ : ∃ L2, ouText (sampleD (F : Int) C) (fitOu F C y0) = sealL L2 ∧ (sealL L2).length ≤ 1000 := by
    have hok := (isOut_iff _ _ hV).1 hgok
    have ho := (frame_readO hgsn hok).1.2.1
    refine ⟨_, rfl, ?_⟩
    have h2 : (⟨(ouText (sampleD (F : Int) C) (fitOu F C y0)).toArray⟩ : ByteArray).size = (ouText (sampleD (F : Int) C) (fitOu F C y0)).length := List.size_toArray ..
    rw [h2, hcl] at ho
    show (ouText (sampleD (F : Int) C) (fitOu F C y0)).length ≤ 1000
    omega
  rw [hL1] at FRI
  rw [hL2] at FRO
  have hb1 := fun at_ mask => chg_bad (l := L1) (at_ := at_) (mask := mask)
  have hb2 := fun at_ mask => chg_bad (l := L2) (at_ := at_) (mask := mask)
  have hp1 : 0 < (sealL L1).length := by rw [sealL_length]; omega
  have hp2 : 0 < (sealL L2).length := by rw [sealL_length]; omega
  have HB1 := Lib.hid hb1
  have HB2 := Lib.hid hb2
  clear hb1 hb2 hL1 hL2 hreo hres hfok hfsn hfl hgok hgsn hgl hs0
  have hsc : (sampleD (F : Int) C).cars = sampleCars (F : Int) C := rfl
  rw [← hsc] at FBU
  clear hsc hcl hV
  generalize sealL L1 = M1 at *
  generalize sealL L2 = M2 at *
  generalize hx : sampleD (F : Int) C = x at *
  generalize fitIn F C y = fy at *
  generalize fitOu F C y0 = fo at *
  clear hx
  subst hy0
  obtain ⟨f, d, r, p, e1, e2, e3, cs⟩ := x
  obtain ⟨pu, pd, kind, car, ys⟩ := y
  simp only [BldD.agg, inAgg, ouAgg, List.length_nil] at FBU FFT FFO FRI FRO HRI HRO h20 HV ⊢
  have hd1 : decide (20 < (ys.length : Int)) = false := decide_eq_false (by omega)
  have hm0b : ((m : Int) == 0) = false := beq_eq_false_iff_ne.2 (by omega)
  go_enter Try.func7, Try.ntmps7
  go_wp2_with fail
  refine (FBU.out _).mono ?_
  rintro e w1 ⟨hb1, A, cap, rfl, hcars⟩
  have hsz0 : ((w.alloc (.cells #[.int .u32 (pu : Int), .int .u32 (pd : Int), .int .i64 kind, .int .i64 car, .slice A' ys.length cp] 33)).alloc (.cells #[.int .u16 (a : Int), .int .u16 (m : Int)] 61)).heap.size = w.heap.size + 2 := by simp
  have hsz1 : w.heap.size + 2 ≤ w1.heap.size := by have := hb1.size; omega
  have I1 := Lib.hid ((hb1.block w.heap.size (by omega)).trans (blk2B w (.cells #[.int .u32 (pu : Int), .int .u32 (pd : Int), .int .i64 kind, .int .i64 car, .slice A' ys.length cp] 33) (.cells #[.int .u16 (a : Int), .int .u16 (m : Int)] 61)).1)
  have P1 := Lib.hid ((hb1.block (w.heap.size + 1) (by omega)).trans (blk2B w (.cells #[.int .u32 (pu : Int), .int .u32 (pd : Int), .int .i64 kind, .int .i64 car, .slice A' ys.length cp] 33) (.cells #[.int .u16 (a : Int), .int .u16 (m : Int)] 61)).2)
  have HB0 := Lib.hid ((((Below.refl _ w).alloc (Nat.le_refl _) (.cells #[.int .u32 (pu : Int), .int .u32 (pd : Int), .int .i64 kind, .int .i64 car, .slice A' ys.length cp] 33)).alloc (by simp) (.cells #[.int .u16 (a : Int), .int .u16 (m : Int)] 61)).trans (hb1.mono (by omega)))
  have HC := Lib.hid hcars
  clear hb1 hcars hsz0
  go_wp2_with fail
  have hbw := (Below.refl w1.heap.size w1).alloc (Nat.le_refl _) (.cells #[.int .i64 f, .int .i64 d, .int .i64 r, .int .i64 p, .float .f64 e1, .float .f64 e2, .float .f64 e3, .slice A cs.length cap] 25)
  have hzw : (w1.alloc (.cells #[.int .i64 f, .int .i64 d, .int .i64 r, .int .i64 p, .float .f64 e1, .float .f64 e2, .float .f64 e3, .slice A cs.length cap] 25)).heap.size = w1.heap.size + 1 := by simp
  have I := Lib.hid ((hbw.block w.heap.size (by omega)).trans I1.out)
  have P := Lib.hid ((hbw.block (w.heap.size + 1) (by omega)).trans P1.out)
  have X := Lib.hid (heap_alloc_new w1 (.cells #[.int .i64 f, .int .i64 d, .int .i64 r, .int .i64 p, .float .f64 e1, .float .f64 e2, .float .f64 e3, .slice A cs.length cap] 25))
  have HBW := Lib.hid (HB0.out.trans (hbw.mono HB0.out.size))
  have HCW := Lib.hid ((HC.out.below hbw).more (show w1.heap.size ≤ (w1.alloc (.cells #[.int .i64 f, .int .i64 d, .int .i64 r, .int .i64 p, .float .f64 e1, .float .f64 e2, .float .f64 e3, .slice A cs.length cap] 25)).heap.size by omega))
  have HVW := Lib.hid (HV.out.below HBW.out)
  clear I1 P1 hbw HB0 HC HV
  generalize (w1.alloc (.cells #[.int .i64 f, .int .i64 d, .int .i64 r, .int .i64 p, .float .f64 e1, .float .f64 e2, .float .f64 e3, .slice A cs.length cap] 25)) = WW at *
  have hlX : w1.heap.size < WW.heap.size := by omega
  have hlI : w.heap.size < WW.heap.size := by omega
  have hlP : w.heap.size + 1 < WW.heap.size := by omega
  refine GhostV.ghost (fun γ L wx => GP (WW) [(3, pdIn fy)] γ L wx) (by kernel_rfl) (by kernel_rfl) (fun γ => GP.start _ _ γ) ?_
  apply GhostV.walk_const (fun γ => by rfl)
  · intro γ L wx h1 h2 hx K hK
    have xx0 := cell_of_row _ _ 0 _ _ (0, 0) ((hx.below.block w1.heap.size hlX).trans X.out)
    have xx1 := cell_of_row _ _ 1 _ _ (0, 0) ((hx.below.block w1.heap.size hlX).trans X.out)
    have xx2 := cell_of_row _ _ 2 _ _ (0, 0) ((hx.below.block w1.heap.size hlX).trans X.out)
    have xx3 := cell_of_row _ _ 3 _ _ (0, 0) ((hx.below.block w1.heap.size hlX).trans X.out)
    have xx4 := cell_of_row _ _ 4 _ _ (0, 0) ((hx.below.block w1.heap.size hlX).trans X.out)
    have xx5 := cell_of_row _ _ 5 _ _ (0, 0) ((hx.below.block w1.heap.size hlX).trans X.out)
    have xx6 := cell_of_row _ _ 6 _ _ (0, 0) ((hx.below.block w1.heap.size hlX).trans X.out)
    have xx7 := cell_of_row _ _ 7 _ _ (0, 0) ((hx.below.block w1.heap.size hlX).trans X.out)
    simp only [List.getElem?_toArray, List.getElem?_cons_zero, List.getElem?_cons_succ] at xx0 xx1 xx2 xx3 xx4 xx5 xx6 xx7
    have ii0 := cell_of_row _ _ 0 _ _ (0, 0) ((hx.below.block w.heap.size hlI).trans I.out)
    have ii1 := cell_of_row _ _ 1 _ _ (0, 0) ((hx.below.block w.heap.size hlI).trans I.out)
    have ii2 := cell_of_row _ _ 2 _ _ (0, 0) ((hx.below.block w.heap.size hlI).trans I.out)
    have ii3 := cell_of_row _ _ 3 _ _ (0, 0) ((hx.below.block w.heap.size hlI).trans I.out)
    have ii4 := cell_of_row _ _ 4 _ _ (0, 0) ((hx.below.block w.heap.size hlI).trans I.out)
    simp only [List.getElem?_toArray, List.getElem?_cons_zero, List.getElem?_cons_succ] at ii0 ii1 ii2 ii3 ii4
    have HK2 := Lib.hid hK
    have HX := Lib.hid hx
    have H2 := Lib.hid h2
    clear hK h1 h2 hx
    go_simp
    first
      | (go_at_call 12; refine (FRI.out A cap (γ 3) wx ((HCW.out.below HX.out.below).more HX.out.below.size) (HX.out.row (3, pdIn fy) (by simp) (H2.out 3 (by kernel_rfl)))).mono ?_; rintro e w' ⟨rfl, hb⟩; exact HK2.out _ (HX.out.next _ (by rfl) hb))
      | exact HK2.out _ (HX.out.next _ (by rfl) (Below.refl _ _))
  try simp only [Act.put, List.setIfInBounds_toArray, List.set_cons_succ, List.set_cons_zero]
  apply GhostV.walk_const (fun γ => by rfl)
  · intro γ L wx h1 h2 hx K hK
    have xx0 := cell_of_row _ _ 0 _ _ (0, 0) ((hx.below.block w1.heap.size hlX).trans X.out)
    have xx1 := cell_of_row _ _ 1 _ _ (0, 0) ((hx.below.block w1.heap.size hlX).trans X.out)
    have xx2 := cell_of_row _ _ 2 _ _ (0, 0) ((hx.below.block w1.heap.size hlX).trans X.out)
    have xx3 := cell_of_row _ _ 3 _ _ (0, 0) ((hx.below.block w1.heap.size hlX).trans X.out)
    have xx4 := cell_of_row _ _ 4 _ _ (0, 0) ((hx.below.block w1.heap.size hlX).trans X.out)
    have xx5 := cell_of_row _ _ 5 _ _ (0, 0) ((hx.below.block w1.heap.size hlX).trans X.out)
    have xx6 := cell_of_row _ _ 6 _ _ (0, 0) ((hx.below.block w1.heap.size hlX).trans X.out)
    have xx7 := cell_of_row _ _ 7 _ _ (0, 0) ((hx.below.block w1.heap.size hlX).trans X.out)
    simp only [List.getElem?_toArray, List.getElem?_cons_zero, List.getElem?_cons_succ] at xx0 xx1 xx2 xx3 xx4 xx5 xx6 xx7
    have ii0 := cell_of_row _ _ 0 _ _ (0, 0) ((hx.below.block w.heap.size hlI).trans I.out)
    have ii1 := cell_of_row _ _ 1 _ _ (0, 0) ((hx.below.block w.heap.size hlI).trans I.out)
    have ii2 := cell_of_row _ _ 2 _ _ (0, 0) ((hx.below.block w.heap.size hlI).trans I.out)
    have ii3 := cell_of_row _ _ 3 _ _ (0, 0) ((hx.below.block w.heap.size hlI).trans I.out)
    have ii4 := cell_of_row _ _ 4 _ _ (0, 0) ((hx.below.block w.heap.size hlI).trans I.out)
    simp only [List.getElem?_toArray, List.getElem?_cons_zero, List.getElem?_cons_succ] at ii0 ii1 ii2 ii3 ii4
    have HK2 := Lib.hid hK
    have HX := Lib.hid hx
    have H2 := Lib.hid h2
    clear hK h1 h2 hx
    go_simp
    first
      | (go_at_call 12; refine (FRI.out A cap (γ 3) wx ((HCW.out.below HX.out.below).more HX.out.below.size) (HX.out.row (3, pdIn fy) (by simp) (H2.out 3 (by kernel_rfl)))).mono ?_; rintro e w' ⟨rfl, hb⟩; exact HK2.out _ (HX.out.next _ (by rfl) hb))
      | exact HK2.out _ (HX.out.next _ (by rfl) (Below.refl _ _))
  try simp only [Act.put, List.setIfInBounds_toArray, List.set_cons_succ, List.set_cons_zero]
  apply GhostV.walk_const (fun γ => by rfl)
  · intro γ L wx h1 h2 hx K hK
    have xx0 := cell_of_row _ _ 0 _ _ (0, 0) ((hx.below.block w1.heap.size hlX).trans X.out)
    have xx1 := cell_of_row _ _ 1 _ _ (0, 0) ((hx.below.block w1.heap.size hlX).trans X.out)
    have xx2 := cell_of_row _ _ 2 _ _ (0, 0) ((hx.below.block w1.heap.size hlX).trans X.out)
    have xx3 := cell_of_row _ _ 3 _ _ (0, 0) ((hx.below.block w1.heap.size hlX).trans X.out)
    have xx4 := cell_of_row _ _ 4 _ _ (0, 0) ((hx.below.block w1.heap.size hlX).trans X.out)
    have xx5 := cell_of_row _ _ 5 _ _ (0, 0) ((hx.below.block w1.heap.size hlX).trans X.out)
    have xx6 := cell_of_row _ _ 6 _ _ (0, 0) ((hx.below.block w1.heap.size hlX).trans X.out)
    have xx7 := cell_of_row _ _ 7 _ _ (0, 0) ((hx.below.block w1.heap.size hlX).trans X.out)
    simp only [List.getElem?_toArray, List.getElem?_cons_zero, List.getElem?_cons_succ] at xx0 xx1 xx2 xx3 xx4 xx5 xx6 xx7
    have ii0 := cell_of_row _ _ 0 _ _ (0, 0) ((hx.below.block w.heap.size hlI).trans I.out)
    have ii1 := cell_of_row _ _ 1 _ _ (0, 0) ((hx.below.block w.heap.size hlI).trans I.out)
    have ii2 := cell_of_row _ _ 2 _ _ (0, 0) ((hx.below.block w.heap.size hlI).trans I.out)
    have ii3 := cell_of_row _ _ 3 _ _ (0, 0) ((hx.below.block w.heap.size hlI).trans I.out)
    have ii4 := cell_of_row _ _ 4 _ _ (0, 0) ((hx.below.block w.heap.size hlI).trans I.out)
    simp only [List.getElem?_toArray, List.getElem?_cons_zero, List.getElem?_cons_succ] at ii0 ii1 ii2 ii3 ii4
    have HK2 := Lib.hid hK
    have HX := Lib.hid hx
    have H2 := Lib.hid h2
    clear hK h1 h2 hx
    go_simp
    first
      | (go_at_call 12; refine (FRI.out A cap (γ 3) wx ((HCW.out.below HX.out.below).more HX.out.below.size) (HX.out.row (3, pdIn fy) (by simp) (H2.out 3 (by kernel_rfl)))).mono ?_; rintro e w' ⟨rfl, hb⟩; exact HK2.out _ (HX.out.next _ (by rfl) hb))
      | exact HK2.out _ (HX.out.next _ (by rfl) (Below.refl _ _))
  try simp only [Act.put, List.setIfInBounds_toArray, List.set_cons_succ, List.set_cons_zero]
  refine GhostV.walk_yes (fun b => b) (fun γ => by rfl) ?_ ?_
  · intro γ L wx h1 h2 hx K hK
    have xx0 := cell_of_row _ _ 0 _ _ (0, 0) ((hx.below.block w1.heap.size hlX).trans X.out)
    have xx1 := cell_of_row _ _ 1 _ _ (0, 0) ((hx.below.block w1.heap.size hlX).trans X.out)
    have xx2 := cell_of_row _ _ 2 _ _ (0, 0) ((hx.below.block w1.heap.size hlX).trans X.out)
    have xx3 := cell_of_row _ _ 3 _ _ (0, 0) ((hx.below.block w1.heap.size hlX).trans X.out)
    have xx4 := cell_of_row _ _ 4 _ _ (0, 0) ((hx.below.block w1.heap.size hlX).trans X.out)
    have xx5 := cell_of_row _ _ 5 _ _ (0, 0) ((hx.below.block w1.heap.size hlX).trans X.out)
    have xx6 := cell_of_row _ _ 6 _ _ (0, 0) ((hx.below.block w1.heap.size hlX).trans X.out)
    have xx7 := cell_of_row _ _ 7 _ _ (0, 0) ((hx.below.block w1.heap.size hlX).trans X.out)
    simp only [List.getElem?_toArray, List.getElem?_cons_zero, List.getElem?_cons_succ] at xx0 xx1 xx2 xx3 xx4 xx5 xx6 xx7
    have ii0 := cell_of_row _ _ 0 _ _ (0, 0) ((hx.below.block w.heap.size hlI).trans I.out)
    have ii1 := cell_of_row _ _ 1 _ _ (0, 0) ((hx.below.block w.heap.size hlI).trans I.out)
    have ii2 := cell_of_row _ _ 2 _ _ (0, 0) ((hx.below.block w.heap.size hlI).trans I.out)
    have ii3 := cell_of_row _ _ 3 _ _ (0, 0) ((hx.below.block w.heap.size hlI).trans I.out)
    have ii4 := cell_of_row _ _ 4 _ _ (0, 0) ((hx.below.block w.heap.size hlI).trans I.out)
    simp only [List.getElem?_toArray, List.getElem?_cons_zero, List.getElem?_cons_succ] at ii0 ii1 ii2 ii3 ii4
    have HK2 := Lib.hid hK
    have HX := Lib.hid hx
    have H2 := Lib.hid h2
    clear hK h1 h2 hx
    go_simp
    (go_at_call 10; refine (FFT.out A cap wx (HVW.out.below HX.out.below)).mono ?_; rintro e w' ⟨hb, A2, cp2, rfl, hcv⟩; exact HK2.out _ _ (HX.out.make (by simp only [List.mem_cons, List.not_mem_nil, or_false]; rintro d rfl h; exact ⟨A2, cp2, rfl, hcv⟩) hb))
  try simp only [Act.put, List.setIfInBounds_toArray, List.set_cons_succ, List.set_cons_zero]
  apply GhostV.walk_const (fun γ => by rfl)
  · intro γ L wx h1 h2 hx K hK
    have xx0 := cell_of_row _ _ 0 _ _ (0, 0) ((hx.below.block w1.heap.size hlX).trans X.out)
    have xx1 := cell_of_row _ _ 1 _ _ (0, 0) ((hx.below.block w1.heap.size hlX).trans X.out)
    have xx2 := cell_of_row _ _ 2 _ _ (0, 0) ((hx.below.block w1.heap.size hlX).trans X.out)
    have xx3 := cell_of_row _ _ 3 _ _ (0, 0) ((hx.below.block w1.heap.size hlX).trans X.out)
    have xx4 := cell_of_row _ _ 4 _ _ (0, 0) ((hx.below.block w1.heap.size hlX).trans X.out)
    have xx5 := cell_of_row _ _ 5 _ _ (0, 0) ((hx.below.block w1.heap.size hlX).trans X.out)
    have xx6 := cell_of_row _ _ 6 _ _ (0, 0) ((hx.below.block w1.heap.size hlX).trans X.out)
    have xx7 := cell_of_row _ _ 7 _ _ (0, 0) ((hx.below.block w1.heap.size hlX).trans X.out)
    simp only [List.getElem?_toArray, List.getElem?_cons_zero, List.getElem?_cons_succ] at xx0 xx1 xx2 xx3 xx4 xx5 xx6 xx7
    have ii0 := cell_of_row _ _ 0 _ _ (0, 0) ((hx.below.block w.heap.size hlI).trans I.out)
    have ii1 := cell_of_row _ _ 1 _ _ (0, 0) ((hx.below.block w.heap.size hlI).trans I.out)
    have ii2 := cell_of_row _ _ 2 _ _ (0, 0) ((hx.below.block w.heap.size hlI).trans I.out)
    have ii3 := cell_of_row _ _ 3 _ _ (0, 0) ((hx.below.block w.heap.size hlI).trans I.out)
    have ii4 := cell_of_row _ _ 4 _ _ (0, 0) ((hx.below.block w.heap.size hlI).trans I.out)
    simp only [List.getElem?_toArray, List.getElem?_cons_zero, List.getElem?_cons_succ] at ii0 ii1 ii2 ii3 ii4
    have HK2 := Lib.hid hK
    have HX := Lib.hid hx
    have H2 := Lib.hid h2
    clear hK h1 h2 hx
    go_simp
    first
      | (go_at_call 12; refine (FRI.out A cap (γ 3) wx ((HCW.out.below HX.out.below).more HX.out.below.size) (HX.out.row (3, pdIn fy) (by simp) (H2.out 3 (by kernel_rfl)))).mono ?_; rintro e w' ⟨rfl, hb⟩; exact HK2.out _ (HX.out.next _ (by rfl) hb))
      | exact HK2.out _ (HX.out.next _ (by rfl) (Below.refl _ _))
  try simp only [Act.put, List.setIfInBounds_toArray, List.set_cons_succ, List.set_cons_zero]
  apply GhostV.walk_const (fun γ => by rfl)
  · intro γ L wx h1 h2 hx K hK
    have xx0 := cell_of_row _ _ 0 _ _ (0, 0) ((hx.below.block w1.heap.size hlX).trans X.out)
    have xx1 := cell_of_row _ _ 1 _ _ (0, 0) ((hx.below.block w1.heap.size hlX).trans X.out)
    have xx2 := cell_of_row _ _ 2 _ _ (0, 0) ((hx.below.block w1.heap.size hlX).trans X.out)
    have xx3 := cell_of_row _ _ 3 _ _ (0, 0) ((hx.below.block w1.heap.size hlX).trans X.out)
    have xx4 := cell_of_row _ _ 4 _ _ (0, 0) ((hx.below.block w1.heap.size hlX).trans X.out)
    have xx5 := cell_of_row _ _ 5 _ _ (0, 0) ((hx.below.block w1.heap.size hlX).trans X.out)
    have xx6 := cell_of_row _ _ 6 _ _ (0, 0) ((hx.below.block w1.heap.size hlX).trans X.out)
    have xx7 := cell_of_row _ _ 7 _ _ (0, 0) ((hx.below.block w1.heap.size hlX).trans X.out)
    simp only [List.getElem?_toArray, List.getElem?_cons_zero, List.getElem?_cons_succ] at xx0 xx1 xx2 xx3 xx4 xx5 xx6 xx7
    have ii0 := cell_of_row _ _ 0 _ _ (0, 0) ((hx.below.block w.heap.size hlI).trans I.out)
    have ii1 := cell_of_row _ _ 1 _ _ (0, 0) ((hx.below.block w.heap.size hlI).trans I.out)
    have ii2 := cell_of_row _ _ 2 _ _ (0, 0) ((hx.below.block w.heap.size hlI).trans I.out)
    have ii3 := cell_of_row _ _ 3 _ _ (0, 0) ((hx.below.block w.heap.size hlI).trans I.out)
    have ii4 := cell_of_row _ _ 4 _ _ (0, 0) ((hx.below.block w.heap.size hlI).trans I.out)
    simp only [List.getElem?_toArray, List.getElem?_cons_zero, List.getElem?_cons_succ] at ii0 ii1 ii2 ii3 ii4
    have HK2 := Lib.hid hK
    have HX := Lib.hid hx
    have H2 := Lib.hid h2
    clear hK h1 h2 hx
    go_simp
    first
      | (go_at_call 12; refine (FRI.out A cap (γ 3) wx ((HCW.out.below HX.out.below).more HX.out.below.size) (HX.out.row (3, pdIn fy) (by simp) (H2.out 3 (by kernel_rfl)))).mono ?_; rintro e w' ⟨rfl, hb⟩; exact HK2.out _ (HX.out.next _ (by rfl) hb))
      | exact HK2.out _ (HX.out.next _ (by rfl) (Below.refl _ _))
  try simp only [Act.put, List.setIfInBounds_toArray, List.set_cons_succ, List.set_cons_zero]
  apply GhostV.walk_const (fun γ => by rfl)
  · intro γ L wx h1 h2 hx K hK
    have xx0 := cell_of_row _ _ 0 _ _ (0, 0) ((hx.below.block w1.heap.size hlX).trans X.out)
    have xx1 := cell_of_row _ _ 1 _ _ (0, 0) ((hx.below.block w1.heap.size hlX).trans X.out)
    have xx2 := cell_of_row _ _ 2 _ _ (0, 0) ((hx.below.block w1.heap.size hlX).trans X.out)
    have xx3 := cell_of_row _ _ 3 _ _ (0, 0) ((hx.below.block w1.heap.size hlX).trans X.out)
    have xx4 := cell_of_row _ _ 4 _ _ (0, 0) ((hx.below.block w1.heap.size hlX).trans X.out)
    have xx5 := cell_of_row _ _ 5 _ _ (0, 0) ((hx.below.block w1.heap.size hlX).trans X.out)
    have xx6 := cell_of_row _ _ 6 _ _ (0, 0) ((hx.below.block w1.heap.size hlX).trans X.out)
    have xx7 := cell_of_row _ _ 7 _ _ (0, 0) ((hx.below.block w1.heap.size hlX).trans X.out)
    simp only [List.getElem?_toArray, List.getElem?_cons_zero, List.getElem?_cons_succ] at xx0 xx1 xx2 xx3 xx4 xx5 xx6 xx7
    have ii0 := cell_of_row _ _ 0 _ _ (0, 0) ((hx.below.block w.heap.size hlI).trans I.out)
    have ii1 := cell_of_row _ _ 1 _ _ (0, 0) ((hx.below.block w.heap.size hlI).trans I.out)
    have ii2 := cell_of_row _ _ 2 _ _ (0, 0) ((hx.below.block w.heap.size hlI).trans I.out)
    have ii3 := cell_of_row _ _ 3 _ _ (0, 0) ((hx.below.block w.heap.size hlI).trans I.out)
    have ii4 := cell_of_row _ _ 4 _ _ (0, 0) ((hx.below.block w.heap.size hlI).trans I.out)
    simp only [List.getElem?_toArray, List.getElem?_cons_zero, List.getElem?_cons_succ] at ii0 ii1 ii2 ii3 ii4
    have HK2 := Lib.hid hK
    have HX := Lib.hid hx
    have H2 := Lib.hid h2
    clear hK h1 h2 hx
    go_simp
    first
      | (go_at_call 12; refine (FRI.out A cap (γ 3) wx ((HCW.out.below HX.out.below).more HX.out.below.size) (HX.out.row (3, pdIn fy) (by simp) (H2.out 3 (by kernel_rfl)))).mono ?_; rintro e w' ⟨rfl, hb⟩; exact HK2.out _ (HX.out.next _ (by rfl) hb))
      | exact HK2.out _ (HX.out.next _ (by rfl) (Below.refl _ _))
  try simp only [Act.put, List.setIfInBounds_toArray, List.set_cons_succ, List.set_cons_zero]
  apply GhostV.walk_const (fun γ => by rfl)
  · intro γ L wx h1 h2 hx K hK
    have xx0 := cell_of_row _ _ 0 _ _ (0, 0) ((hx.below.block w1.heap.size hlX).trans X.out)
    have xx1 := cell_of_row _ _ 1 _ _ (0, 0) ((hx.below.block w1.heap.size hlX).trans X.out)
    have xx2 := cell_of_row _ _ 2 _ _ (0, 0) ((hx.below.block w1.heap.size hlX).trans X.out)
    have xx3 := cell_of_row _ _ 3 _ _ (0, 0) ((hx.below.block w1.heap.size hlX).trans X.out)
    have xx4 := cell_of_row _ _ 4 _ _ (0, 0) ((hx.below.block w1.heap.size hlX).trans X.out)
    have xx5 := cell_of_row _ _ 5 _ _ (0, 0) ((hx.below.block w1.heap.size hlX).trans X.out)
    have xx6 := cell_of_row _ _ 6 _ _ (0, 0) ((hx.below.block w1.heap.size hlX).trans X.out)
    have xx7 := cell_of_row _ _ 7 _ _ (0, 0) ((hx.below.block w1.heap.size hlX).trans X.out)
    simp only [List.getElem?_toArray, List.getElem?_cons_zero, List.getElem?_cons_succ] at xx0 xx1 xx2 xx3 xx4 xx5 xx6 xx7
    have ii0 := cell_of_row _ _ 0 _ _ (0, 0) ((hx.below.block w.heap.size hlI).trans I.out)
    have ii1 := cell_of_row _ _ 1 _ _ (0, 0) ((hx.below.block w.heap.size hlI).trans I.out)
    have ii2 := cell_of_row _ _ 2 _ _ (0, 0) ((hx.below.block w.heap.size hlI).trans I.out)
    have ii3 := cell_of_row _ _ 3 _ _ (0, 0) ((hx.below.block w.heap.size hlI).trans I.out)
    have ii4 := cell_of_row _ _ 4 _ _ (0, 0) ((hx.below.block w.heap.size hlI).trans I.out)
    simp only [List.getElem?_toArray, List.getElem?_cons_zero, List.getElem?_cons_succ] at ii0 ii1 ii2 ii3 ii4
    have HK2 := Lib.hid hK
    have HX := Lib.hid hx
    have H2 := Lib.hid h2
    clear hK h1 h2 hx
    go_simp
    first
      | (go_at_call 12; refine (FRI.out A cap (γ 3) wx ((HCW.out.below HX.out.below).more HX.out.below.size) (HX.out.row (3, pdIn fy) (by simp) (H2.out 3 (by kernel_rfl)))).mono ?_; rintro e w' ⟨rfl, hb⟩; exact HK2.out _ (HX.out.next _ (by rfl) hb))
      | exact HK2.out _ (HX.out.next _ (by rfl) (Below.refl _ _))
  try simp only [Act.put, List.setIfInBounds_toArray, List.set_cons_succ, List.set_cons_zero]
  apply GhostV.walk_const (fun γ => by rfl)
  · intro γ L wx h1 h2 hx K hK
    have xx0 := cell_of_row _ _ 0 _ _ (0, 0) ((hx.below.block w1.heap.size hlX).trans X.out)
    have xx1 := cell_of_row _ _ 1 _ _ (0, 0) ((hx.below.block w1.heap.size hlX).trans X.out)
    have xx2 := cell_of_row _ _ 2 _ _ (0, 0) ((hx.below.block w1.heap.size hlX).trans X.out)
    have xx3 := cell_of_row _ _ 3 _ _ (0, 0) ((hx.below.block w1.heap.size hlX).trans X.out)
    have xx4 := cell_of_row _ _ 4 _ _ (0, 0) ((hx.below.block w1.heap.size hlX).trans X.out)
    have xx5 := cell_of_row _ _ 5 _ _ (0, 0) ((hx.below.block w1.heap.size hlX).trans X.out)
    have xx6 := cell_of_row _ _ 6 _ _ (0, 0) ((hx.below.block w1.heap.size hlX).trans X.out)
    have xx7 := cell_of_row _ _ 7 _ _ (0, 0) ((hx.below.block w1.heap.size hlX).trans X.out)
    simp only [List.getElem?_toArray, List.getElem?_cons_zero, List.getElem?_cons_succ] at xx0 xx1 xx2 xx3 xx4 xx5 xx6 xx7
    have ii0 := cell_of_row _ _ 0 _ _ (0, 0) ((hx.below.block w.heap.size hlI).trans I.out)
    have ii1 := cell_of_row _ _ 1 _ _ (0, 0) ((hx.below.block w.heap.size hlI).trans I.out)
    have ii2 := cell_of_row _ _ 2 _ _ (0, 0) ((hx.below.block w.heap.size hlI).trans I.out)
    have ii3 := cell_of_row _ _ 3 _ _ (0, 0) ((hx.below.block w.heap.size hlI).trans I.out)
    have ii4 := cell_of_row _ _ 4 _ _ (0, 0) ((hx.below.block w.heap.size hlI).trans I.out)
    simp only [List.getElem?_toArray, List.getElem?_cons_zero, List.getElem?_cons_succ] at ii0 ii1 ii2 ii3 ii4
    have HK2 := Lib.hid hK
    have HX := Lib.hid hx
    have H2 := Lib.hid h2
    clear hK h1 h2 hx
    go_simp
    first
      | (go_at_call 12; refine (FRI.out A cap (γ 3) wx ((HCW.out.below HX.out.below).more HX.out.below.size) (HX.out.row (3, pdIn fy) (by simp) (H2.out 3 (by kernel_rfl)))).mono ?_; rintro e w' ⟨rfl, hb⟩; exact HK2.out _ (HX.out.next _ (by rfl) hb))
      | exact HK2.out _ (HX.out.next _ (by rfl) (Below.refl _ _))
  try simp only [Act.put, List.setIfInBounds_toArray, List.set_cons_succ, List.set_cons_zero]
  apply GhostV.walk_const (fun γ => by rfl)
  · intro γ L wx h1 h2 hx K hK
    have xx0 := cell_of_row _ _ 0 _ _ (0, 0) ((hx.below.block w1.heap.size hlX).trans X.out)
    have xx1 := cell_of_row _ _ 1 _ _ (0, 0) ((hx.below.block w1.heap.size hlX).trans X.out)
    have xx2 := cell_of_row _ _ 2 _ _ (0, 0) ((hx.below.block w1.heap.size hlX).trans X.out)
    have xx3 := cell_of_row _ _ 3 _ _ (0, 0) ((hx.below.block w1.heap.size hlX).trans X.out)
    have xx4 := cell_of_row _ _ 4 _ _ (0, 0) ((hx.below.block w1.heap.size hlX).trans X.out)
    have xx5 := cell_of_row _ _ 5 _ _ (0, 0) ((hx.below.block w1.heap.size hlX).trans X.out)
    have xx6 := cell_of_row _ _ 6 _ _ (0, 0) ((hx.below.block w1.heap.size hlX).trans X.out)
    have xx7 := cell_of_row _ _ 7 _ _ (0, 0) ((hx.below.block w1.heap.size hlX).trans X.out)
    simp only [List.getElem?_toArray, List.getElem?_cons_zero, List.getElem?_cons_succ] at xx0 xx1 xx2 xx3 xx4 xx5 xx6 xx7
    have ii0 := cell_of_row _ _ 0 _ _ (0, 0) ((hx.below.block w.heap.size hlI).trans I.out)
    have ii1 := cell_of_row _ _ 1 _ _ (0, 0) ((hx.below.block w.heap.size hlI).trans I.out)
    have ii2 := cell_of_row _ _ 2 _ _ (0, 0) ((hx.below.block w.heap.size hlI).trans I.out)
    have ii3 := cell_of_row _ _ 3 _ _ (0, 0) ((hx.below.block w.heap.size hlI).trans I.out)
    have ii4 := cell_of_row _ _ 4 _ _ (0, 0) ((hx.below.block w.heap.size hlI).trans I.out)
    simp only [List.getElem?_toArray, List.getElem?_cons_zero, List.getElem?_cons_succ] at ii0 ii1 ii2 ii3 ii4
    have HK2 := Lib.hid hK
    have HX := Lib.hid hx
    have H2 := Lib.hid h2
    clear hK h1 h2 hx
    go_simp
    first
      | (go_at_call 12; refine (FRI.out A cap (γ 3) wx ((HCW.out.below HX.out.below).more HX.out.below.size) (HX.out.row (3, pdIn fy) (by simp) (H2.out 3 (by kernel_rfl)))).mono ?_; rintro e w' ⟨rfl, hb⟩; exact HK2.out _ (HX.out.next _ (by rfl) hb))
      | exact HK2.out _ (HX.out.next _ (by rfl) (Below.refl _ _))
  try simp only [Act.put, List.setIfInBounds_toArray, List.set_cons_succ, List.set_cons_zero]
  refine GhostV.walk_nil (fun γ L w3 hall hG3 => ?_)
  have HB3 := Lib.hid hG3.below
  clear hG3 hall
  have X3 := Lib.hid ((HB3.out.block w1.heap.size hlX).trans X.out)
  have I3 := Lib.hid ((HB3.out.block w.heap.size hlI).trans I.out)
  have P3 := Lib.hid ((HB3.out.block (w.heap.size + 1) hlP).trans P.out)
  have hz3 := HB3.out.size
  have HC3 := Lib.hid ((HCW.out.below HB3.out).more hz3)
  have HBW3 := Lib.hid (HBW.out.trans (HB3.out.mono HBW.out.size))
  have mlX : w1.heap.size < w3.heap.size := by omega
  have mlI : w.heap.size < w3.heap.size := by omega
  have mlP : w.heap.size + 1 < w3.heap.size := by omega
  clear X I P HB3 hlX hlI hlP HCW HBW FRI FFT
  go_wp2_with fail
  refine GhostV.ghost (fun γ L wx => GP (w3) [(5, pdOu fo)] γ L wx) (by kernel_rfl) (by kernel_rfl) (fun γ => GP.start _ _ γ) ?_
  apply GhostV.walk_const (fun γ => by rfl)
  · intro γ L wx h1 h2 hx K hK
    have xx0 := cell_of_row _ _ 0 _ _ (0, 0) ((hx.below.block w1.heap.size mlX).trans X3.out)
    have xx1 := cell_of_row _ _ 1 _ _ (0, 0) ((hx.below.block w1.heap.size mlX).trans X3.out)
    have xx2 := cell_of_row _ _ 2 _ _ (0, 0) ((hx.below.block w1.heap.size mlX).trans X3.out)
    have xx3 := cell_of_row _ _ 3 _ _ (0, 0) ((hx.below.block w1.heap.size mlX).trans X3.out)
    have xx4 := cell_of_row _ _ 4 _ _ (0, 0) ((hx.below.block w1.heap.size mlX).trans X3.out)
    have xx5 := cell_of_row _ _ 5 _ _ (0, 0) ((hx.below.block w1.heap.size mlX).trans X3.out)
    have xx6 := cell_of_row _ _ 6 _ _ (0, 0) ((hx.below.block w1.heap.size mlX).trans X3.out)
    have xx7 := cell_of_row _ _ 7 _ _ (0, 0) ((hx.below.block w1.heap.size mlX).trans X3.out)
    simp only [List.getElem?_toArray, List.getElem?_cons_zero, List.getElem?_cons_succ] at xx0 xx1 xx2 xx3 xx4 xx5 xx6 xx7
    have ii0 := cell_of_row _ _ 0 _ _ (0, 0) ((hx.below.block w.heap.size mlI).trans I3.out)
    have ii1 := cell_of_row _ _ 1 _ _ (0, 0) ((hx.below.block w.heap.size mlI).trans I3.out)
    have ii2 := cell_of_row _ _ 2 _ _ (0, 0) ((hx.below.block w.heap.size mlI).trans I3.out)
    have ii3 := cell_of_row _ _ 3 _ _ (0, 0) ((hx.below.block w.heap.size mlI).trans I3.out)
    have ii4 := cell_of_row _ _ 4 _ _ (0, 0) ((hx.below.block w.heap.size mlI).trans I3.out)
    simp only [List.getElem?_toArray, List.getElem?_cons_zero, List.getElem?_cons_succ] at ii0 ii1 ii2 ii3 ii4
    have HK2 := Lib.hid hK
    have HX := Lib.hid hx
    have H2 := Lib.hid h2
    clear hK h1 h2 hx
    go_simp
    first
      | (go_at_call 17; refine (FRO.out A cap (γ 5) wx ((HC3.out.below HX.out.below).more HX.out.below.size) (HX.out.row (5, pdOu fo) (by simp) (H2.out 5 (by kernel_rfl)))).mono ?_; rintro e w' ⟨rfl, hb⟩; exact HK2.out _ (HX.out.next _ (by rfl) hb))
      | exact HK2.out _ (HX.out.next _ (by rfl) (Below.refl _ _))
  try simp only [Act.put, List.setIfInBounds_toArray, List.set_cons_succ, List.set_cons_zero]
  apply GhostV.walk_const (fun γ => by rfl)
  · intro γ L wx h1 h2 hx K hK
    have xx0 := cell_of_row _ _ 0 _ _ (0, 0) ((hx.below.block w1.heap.size mlX).trans X3.out)
    have xx1 := cell_of_row _ _ 1 _ _ (0, 0) ((hx.below.block w1.heap.size mlX).trans X3.out)
    have xx2 := cell_of_row _ _ 2 _ _ (0, 0) ((hx.below.block w1.heap.size mlX).trans X3.out)
    have xx3 := cell_of_row _ _ 3 _ _ (0, 0) ((hx.below.block w1.heap.size mlX).trans X3.out)
    have xx4 := cell_of_row _ _ 4 _ _ (0, 0) ((hx.below.block w1.heap.size mlX).trans X3.out)
    have xx5 := cell_of_row _ _ 5 _ _ (0, 0) ((hx.below.block w1.heap.size mlX).trans X3.out)
    have xx6 := cell_of_row _ _ 6 _ _ (0, 0) ((hx.below.block w1.heap.size mlX).trans X3.out)
    have xx7 := cell_of_row _ _ 7 _ _ (0, 0) ((hx.below.block w1.heap.size mlX).trans X3.out)
    simp only [List.getElem?_toArray, List.getElem?_cons_zero, List.getElem?_cons_succ] at xx0 xx1 xx2 xx3 xx4 xx5 xx6 xx7
    have ii0 := cell_of_row _ _ 0 _ _ (0, 0) ((hx.below.block w.heap.size mlI).trans I3.out)
    have ii1 := cell_of_row _ _ 1 _ _ (0, 0) ((hx.below.block w.heap.size mlI).trans I3.out)
    have ii2 := cell_of_row _ _ 2 _ _ (0, 0) ((hx.below.block w.heap.size mlI).trans I3.out)
    have ii3 := cell_of_row _ _ 3 _ _ (0, 0) ((hx.below.block w.heap.size mlI).trans I3.out)
    have ii4 := cell_of_row _ _ 4 _ _ (0, 0) ((hx.below.block w.heap.size mlI).trans I3.out)
    simp only [List.getElem?_toArray, List.getElem?_cons_zero, List.getElem?_cons_succ] at ii0 ii1 ii2 ii3 ii4
    have HK2 := Lib.hid hK
    have HX := Lib.hid hx
    have H2 := Lib.hid h2
    clear hK h1 h2 hx
    go_simp
    first
      | (go_at_call 17; refine (FRO.out A cap (γ 5) wx ((HC3.out.below HX.out.below).more HX.out.below.size) (HX.out.row (5, pdOu fo) (by simp) (H2.out 5 (by kernel_rfl)))).mono ?_; rintro e w' ⟨rfl, hb⟩; exact HK2.out _ (HX.out.next _ (by rfl) hb))
      | exact HK2.out _ (HX.out.next _ (by rfl) (Below.refl _ _))
  try simp only [Act.put, List.setIfInBounds_toArray, List.set_cons_succ, List.set_cons_zero]
  apply GhostV.walk_const (fun γ => by rfl)
  · intro γ L wx h1 h2 hx K hK
    have xx0 := cell_of_row _ _ 0 _ _ (0, 0) ((hx.below.block w1.heap.size mlX).trans X3.out)
    have xx1 := cell_of_row _ _ 1 _ _ (0, 0) ((hx.below.block w1.heap.size mlX).trans X3.out)
    have xx2 := cell_of_row _ _ 2 _ _ (0, 0) ((hx.below.block w1.heap.size mlX).trans X3.out)
    have xx3 := cell_of_row _ _ 3 _ _ (0, 0) ((hx.below.block w1.heap.size mlX).trans X3.out)
    have xx4 := cell_of_row _ _ 4 _ _ (0, 0) ((hx.below.block w1.heap.size mlX).trans X3.out)
    have xx5 := cell_of_row _ _ 5 _ _ (0, 0) ((hx.below.block w1.heap.size mlX).trans X3.out)
    have xx6 := cell_of_row _ _ 6 _ _ (0, 0) ((hx.below.block w1.heap.size mlX).trans X3.out)
    have xx7 := cell_of_row _ _ 7 _ _ (0, 0) ((hx.below.block w1.heap.size mlX).trans X3.out)
    simp only [List.getElem?_toArray, List.getElem?_cons_zero, List.getElem?_cons_succ] at xx0 xx1 xx2 xx3 xx4 xx5 xx6 xx7
    have ii0 := cell_of_row _ _ 0 _ _ (0, 0) ((hx.below.block w.heap.size mlI).trans I3.out)
    have ii1 := cell_of_row _ _ 1 _ _ (0, 0) ((hx.below.block w.heap.size mlI).trans I3.out)
    have ii2 := cell_of_row _ _ 2 _ _ (0, 0) ((hx.below.block w.heap.size mlI).trans I3.out)
    have ii3 := cell_of_row _ _ 3 _ _ (0, 0) ((hx.below.block w.heap.size mlI).trans I3.out)
    have ii4 := cell_of_row _ _ 4 _ _ (0, 0) ((hx.below.block w.heap.size mlI).trans I3.out)
    simp only [List.getElem?_toArray, List.getElem?_cons_zero, List.getElem?_cons_succ] at ii0 ii1 ii2 ii3 ii4
    have HK2 := Lib.hid hK
    have HX := Lib.hid hx
    have H2 := Lib.hid h2
    clear hK h1 h2 hx
    go_simp
    first
      | (go_at_call 17; refine (FRO.out A cap (γ 5) wx ((HC3.out.below HX.out.below).more HX.out.below.size) (HX.out.row (5, pdOu fo) (by simp) (H2.out 5 (by kernel_rfl)))).mono ?_; rintro e w' ⟨rfl, hb⟩; exact HK2.out _ (HX.out.next _ (by rfl) hb))
      | exact HK2.out _ (HX.out.next _ (by rfl) (Below.refl _ _))
  try simp only [Act.put, List.setIfInBounds_toArray, List.set_cons_succ, List.set_cons_zero]
  apply GhostV.walk_const (fun γ => by rfl)
  · intro γ L wx h1 h2 hx K hK
    have xx0 := cell_of_row _ _ 0 _ _ (0, 0) ((hx.below.block w1.heap.size mlX).trans X3.out)
    have xx1 := cell_of_row _ _ 1 _ _ (0, 0) ((hx.below.block w1.heap.size mlX).trans X3.out)
    have xx2 := cell_of_row _ _ 2 _ _ (0, 0) ((hx.below.block w1.heap.size mlX).trans X3.out)
    have xx3 := cell_of_row _ _ 3 _ _ (0, 0) ((hx.below.block w1.heap.size mlX).trans X3.out)
    have xx4 := cell_of_row _ _ 4 _ _ (0, 0) ((hx.below.block w1.heap.size mlX).trans X3.out)
    have xx5 := cell_of_row _ _ 5 _ _ (0, 0) ((hx.below.block w1.heap.size mlX).trans X3.out)
    have xx6 := cell_of_row _ _ 6 _ _ (0, 0) ((hx.below.block w1.heap.size mlX).trans X3.out)
    have xx7 := cell_of_row _ _ 7 _ _ (0, 0) ((hx.below.block w1.heap.size mlX).trans X3.out)
    simp only [List.getElem?_toArray, List.getElem?_cons_zero, List.getElem?_cons_succ] at xx0 xx1 xx2 xx3 xx4 xx5 xx6 xx7
    have ii0 := cell_of_row _ _ 0 _ _ (0, 0) ((hx.below.block w.heap.size mlI).trans I3.out)
    have ii1 := cell_of_row _ _ 1 _ _ (0, 0) ((hx.below.block w.heap.size mlI).trans I3.out)
    have ii2 := cell_of_row _ _ 2 _ _ (0, 0) ((hx.below.block w.heap.size mlI).trans I3.out)
    have ii3 := cell_of_row _ _ 3 _ _ (0, 0) ((hx.below.block w.heap.size mlI).trans I3.out)
    have ii4 := cell_of_row _ _ 4 _ _ (0, 0) ((hx.below.block w.heap.size mlI).trans I3.out)
    simp only [List.getElem?_toArray, List.getElem?_cons_zero, List.getElem?_cons_succ] at ii0 ii1 ii2 ii3 ii4
    have HK2 := Lib.hid hK
    have HX := Lib.hid hx
    have H2 := Lib.hid h2
    clear hK h1 h2 hx
    go_simp
    first
      | (go_at_call 17; refine (FRO.out A cap (γ 5) wx ((HC3.out.below HX.out.below).more HX.out.below.size) (HX.out.row (5, pdOu fo) (by simp) (H2.out 5 (by kernel_rfl)))).mono ?_; rintro e w' ⟨rfl, hb⟩; exact HK2.out _ (HX.out.next _ (by rfl) hb))
      | exact HK2.out _ (HX.out.next _ (by rfl) (Below.refl _ _))
  try simp only [Act.put, List.setIfInBounds_toArray, List.set_cons_succ, List.set_cons_zero]
  apply GhostV.walk_const (fun γ => by rfl)
  · intro γ L wx h1 h2 hx K hK
    have xx0 := cell_of_row _ _ 0 _ _ (0, 0) ((hx.below.block w1.heap.size mlX).trans X3.out)
    have xx1 := cell_of_row _ _ 1 _ _ (0, 0) ((hx.below.block w1.heap.size mlX).trans X3.out)
    have xx2 := cell_of_row _ _ 2 _ _ (0, 0) ((hx.below.block w1.heap.size mlX).trans X3.out)
    have xx3 := cell_of_row _ _ 3 _ _ (0, 0) ((hx.below.block w1.heap.size mlX).trans X3.out)
    have xx4 := cell_of_row _ _ 4 _ _ (0, 0) ((hx.below.block w1.heap.size mlX).trans X3.out)
    have xx5 := cell_of_row _ _ 5 _ _ (0, 0) ((hx.below.block w1.heap.size mlX).trans X3.out)
    have xx6 := cell_of_row _ _ 6 _ _ (0, 0) ((hx.below.block w1.heap.size mlX).trans X3.out)
    have xx7 := cell_of_row _ _ 7 _ _ (0, 0) ((hx.below.block w1.heap.size mlX).trans X3.out)
    simp only [List.getElem?_toArray, List.getElem?_cons_zero, List.getElem?_cons_succ] at xx0 xx1 xx2 xx3 xx4 xx5 xx6 xx7
    have ii0 := cell_of_row _ _ 0 _ _ (0, 0) ((hx.below.block w.heap.size mlI).trans I3.out)
    have ii1 := cell_of_row _ _ 1 _ _ (0, 0) ((hx.below.block w.heap.size mlI).trans I3.out)
    have ii2 := cell_of_row _ _ 2 _ _ (0, 0) ((hx.below.block w.heap.size mlI).trans I3.out)
    have ii3 := cell_of_row _ _ 3 _ _ (0, 0) ((hx.below.block w.heap.size mlI).trans I3.out)
    have ii4 := cell_of_row _ _ 4 _ _ (0, 0) ((hx.below.block w.heap.size mlI).trans I3.out)
    simp only [List.getElem?_toArray, List.getElem?_cons_zero, List.getElem?_cons_succ] at ii0 ii1 ii2 ii3 ii4
    have HK2 := Lib.hid hK
    have HX := Lib.hid hx
    have H2 := Lib.hid h2
    clear hK h1 h2 hx
    go_simp
    first
      | (go_at_call 17; refine (FRO.out A cap (γ 5) wx ((HC3.out.below HX.out.below).more HX.out.below.size) (HX.out.row (5, pdOu fo) (by simp) (H2.out 5 (by kernel_rfl)))).mono ?_; rintro e w' ⟨rfl, hb⟩; exact HK2.out _ (HX.out.next _ (by rfl) hb))
      | exact HK2.out _ (HX.out.next _ (by rfl) (Below.refl _ _))
  try simp only [Act.put, List.setIfInBounds_toArray, List.set_cons_succ, List.set_cons_zero]
  refine GhostV.walk_yes (fun b => b) (fun γ => by rfl) ?_ ?_
  · intro γ L wx h1 h2 hx K hK
    have xx0 := cell_of_row _ _ 0 _ _ (0, 0) ((hx.below.block w1.heap.size mlX).trans X3.out)
    have xx1 := cell_of_row _ _ 1 _ _ (0, 0) ((hx.below.block w1.heap.size mlX).trans X3.out)
    have xx2 := cell_of_row _ _ 2 _ _ (0, 0) ((hx.below.block w1.heap.size mlX).trans X3.out)
    have xx3 := cell_of_row _ _ 3 _ _ (0, 0) ((hx.below.block w1.heap.size mlX).trans X3.out)
    have xx4 := cell_of_row _ _ 4 _ _ (0, 0) ((hx.below.block w1.heap.size mlX).trans X3.out)
    have xx5 := cell_of_row _ _ 5 _ _ (0, 0) ((hx.below.block w1.heap.size mlX).trans X3.out)
    have xx6 := cell_of_row _ _ 6 _ _ (0, 0) ((hx.below.block w1.heap.size mlX).trans X3.out)
    have xx7 := cell_of_row _ _ 7 _ _ (0, 0) ((hx.below.block w1.heap.size mlX).trans X3.out)
    simp only [List.getElem?_toArray, List.getElem?_cons_zero, List.getElem?_cons_succ] at xx0 xx1 xx2 xx3 xx4 xx5 xx6 xx7
    have ii0 := cell_of_row _ _ 0 _ _ (0, 0) ((hx.below.block w.heap.size mlI).trans I3.out)
    have ii1 := cell_of_row _ _ 1 _ _ (0, 0) ((hx.below.block w.heap.size mlI).trans I3.out)
    have ii2 := cell_of_row _ _ 2 _ _ (0, 0) ((hx.below.block w.heap.size mlI).trans I3.out)
    have ii3 := cell_of_row _ _ 3 _ _ (0, 0) ((hx.below.block w.heap.size mlI).trans I3.out)
    have ii4 := cell_of_row _ _ 4 _ _ (0, 0) ((hx.below.block w.heap.size mlI).trans I3.out)
    simp only [List.getElem?_toArray, List.getElem?_cons_zero, List.getElem?_cons_succ] at ii0 ii1 ii2 ii3 ii4
    have HK2 := Lib.hid hK
    have HX := Lib.hid hx
    have H2 := Lib.hid h2
    clear hK h1 h2 hx
    go_simp
    (go_at_call 15; refine (FFO.out A cap wx).mono ?_; rintro e w' ⟨hb, A2, cp2, rfl, hcv⟩; exact HK2.out _ _ (HX.out.make (by simp only [List.mem_cons, List.not_mem_nil, or_false]; rintro d rfl h; exact ⟨A2, cp2, rfl, hcv⟩) hb))
  try simp only [Act.put, List.setIfInBounds_toArray, List.set_cons_succ, List.set_cons_zero]
  apply GhostV.walk_const (fun γ => by rfl)
  · intro γ L wx h1 h2 hx K hK
    have xx0 := cell_of_row _ _ 0 _ _ (0, 0) ((hx.below.block w1.heap.size mlX).trans X3.out)
    have xx1 := cell_of_row _ _ 1 _ _ (0, 0) ((hx.below.block w1.heap.size mlX).trans X3.out)
    have xx2 := cell_of_row _ _ 2 _ _ (0, 0) ((hx.below.block w1.heap.size mlX).trans X3.out)
    have xx3 := cell_of_row _ _ 3 _ _ (0, 0) ((hx.below.block w1.heap.size mlX).trans X3.out)
    have xx4 := cell_of_row _ _ 4 _ _ (0, 0) ((hx.below.block w1.heap.size mlX).trans X3.out)
    have xx5 := cell_of_row _ _ 5 _ _ (0, 0) ((hx.below.block w1.heap.size mlX).trans X3.out)
    have xx6 := cell_of_row _ _ 6 _ _ (0, 0) ((hx.below.block w1.heap.size mlX).trans X3.out)
    have xx7 := cell_of_row _ _ 7 _ _ (0, 0) ((hx.below.block w1.heap.size mlX).trans X3.out)
    simp only [List.getElem?_toArray, List.getElem?_cons_zero, List.getElem?_cons_succ] at xx0 xx1 xx2 xx3 xx4 xx5 xx6 xx7
    have ii0 := cell_of_row _ _ 0 _ _ (0, 0) ((hx.below.block w.heap.size mlI).trans I3.out)
    have ii1 := cell_of_row _ _ 1 _ _ (0, 0) ((hx.below.block w.heap.size mlI).trans I3.out)
    have ii2 := cell_of_row _ _ 2 _ _ (0, 0) ((hx.below.block w.heap.size mlI).trans I3.out)
    have ii3 := cell_of_row _ _ 3 _ _ (0, 0) ((hx.below.block w.heap.size mlI).trans I3.out)
    have ii4 := cell_of_row _ _ 4 _ _ (0, 0) ((hx.below.block w.heap.size mlI).trans I3.out)
    simp only [List.getElem?_toArray, List.getElem?_cons_zero, List.getElem?_cons_succ] at ii0 ii1 ii2 ii3 ii4
    have HK2 := Lib.hid hK
    have HX := Lib.hid hx
    have H2 := Lib.hid h2
    clear hK h1 h2 hx
    go_simp
    first
      | (go_at_call 17; refine (FRO.out A cap (γ 5) wx ((HC3.out.below HX.out.below).more HX.out.below.size) (HX.out.row (5, pdOu fo) (by simp) (H2.out 5 (by kernel_rfl)))).mono ?_; rintro e w' ⟨rfl, hb⟩; exact HK2.out _ (HX.out.next _ (by rfl) hb))
      | exact HK2.out _ (HX.out.next _ (by rfl) (Below.refl _ _))
  try simp only [Act.put, List.setIfInBounds_toArray, List.set_cons_succ, List.set_cons_zero]
  apply GhostV.walk_const (fun γ => by rfl)
  · intro γ L wx h1 h2 hx K hK
    have xx0 := cell_of_row _ _ 0 _ _ (0, 0) ((hx.below.block w1.heap.size mlX).trans X3.out)
    have xx1 := cell_of_row _ _ 1 _ _ (0, 0) ((hx.below.block w1.heap.size mlX).trans X3.out)
    have xx2 := cell_of_row _ _ 2 _ _ (0, 0) ((hx.below.block w1.heap.size mlX).trans X3.out)
    have xx3 := cell_of_row _ _ 3 _ _ (0, 0) ((hx.below.block w1.heap.size mlX).trans X3.out)
    have xx4 := cell_of_row _ _ 4 _ _ (0, 0) ((hx.below.block w1.heap.size mlX).trans X3.out)
    have xx5 := cell_of_row _ _ 5 _ _ (0, 0) ((hx.below.block w1.heap.size mlX).trans X3.out)
    have xx6 := cell_of_row _ _ 6 _ _ (0, 0) ((hx.below.block w1.heap.size mlX).trans X3.out)
    have xx7 := cell_of_row _ _ 7 _ _ (0, 0) ((hx.below.block w1.heap.size mlX).trans X3.out)
    simp only [List.getElem?_toArray, List.getElem?_cons_zero, List.getElem?_cons_succ] at xx0 xx1 xx2 xx3 xx4 xx5 xx6 xx7
    have ii0 := cell_of_row _ _ 0 _ _ (0, 0) ((hx.below.block w.heap.size mlI).trans I3.out)
    have ii1 := cell_of_row _ _ 1 _ _ (0, 0) ((hx.below.block w.heap.size mlI).trans I3.out)
    have ii2 := cell_of_row _ _ 2 _ _ (0, 0) ((hx.below.block w.heap.size mlI).trans I3.out)
    have ii3 := cell_of_row _ _ 3 _ _ (0, 0) ((hx.below.block w.heap.size mlI).trans I3.out)
    have ii4 := cell_of_row _ _ 4 _ _ (0, 0) ((hx.below.block w.heap.size mlI).trans I3.out)
    simp only [List.getElem?_toArray, List.getElem?_cons_zero, List.getElem?_cons_succ] at ii0 ii1 ii2 ii3 ii4
    have HK2 := Lib.hid hK
    have HX := Lib.hid hx
    have H2 := Lib.hid h2
    clear hK h1 h2 hx
    go_simp
    first
      | (go_at_call 17; refine (FRO.out A cap (γ 5) wx ((HC3.out.below HX.out.below).more HX.out.below.size) (HX.out.row (5, pdOu fo) (by simp) (H2.out 5 (by kernel_rfl)))).mono ?_; rintro e w' ⟨rfl, hb⟩; exact HK2.out _ (HX.out.next _ (by rfl) hb))
      | exact HK2.out _ (HX.out.next _ (by rfl) (Below.refl _ _))
  try simp only [Act.put, List.setIfInBounds_toArray, List.set_cons_succ, List.set_cons_zero]
  apply GhostV.walk_const (fun γ => by rfl)
  · intro γ L wx h1 h2 hx K hK
    have xx0 := cell_of_row _ _ 0 _ _ (0, 0) ((hx.below.block w1.heap.size mlX).trans X3.out)
    have xx1 := cell_of_row _ _ 1 _ _ (0, 0) ((hx.below.block w1.heap.size mlX).trans X3.out)
    have xx2 := cell_of_row _ _ 2 _ _ (0, 0) ((hx.below.block w1.heap.size mlX).trans X3.out)
    have xx3 := cell_of_row _ _ 3 _ _ (0, 0) ((hx.below.block w1.heap.size mlX).trans X3.out)
    have xx4 := cell_of_row _ _ 4 _ _ (0, 0) ((hx.below.block w1.heap.size mlX).trans X3.out)
    have xx5 := cell_of_row _ _ 5 _ _ (0, 0) ((hx.below.block w1.heap.size mlX).trans X3.out)
    have xx6 := cell_of_row _ _ 6 _ _ (0, 0) ((hx.below.block w1.heap.size mlX).trans X3.out)
    have xx7 := cell_of_row _ _ 7 _ _ (0, 0) ((hx.below.block w1.heap.size mlX).trans X3.out)
    simp only [List.getElem?_toArray, List.getElem?_cons_zero, List.getElem?_cons_succ] at xx0 xx1 xx2 xx3 xx4 xx5 xx6 xx7
    have ii0 := cell_of_row _ _ 0 _ _ (0, 0) ((hx.below.block w.heap.size mlI).trans I3.out)
    have ii1 := cell_of_row _ _ 1 _ _ (0, 0) ((hx.below.block w.heap.size mlI).trans I3.out)
    have ii2 := cell_of_row _ _ 2 _ _ (0, 0) ((hx.below.block w.heap.size mlI).trans I3.out)
    have ii3 := cell_of_row _ _ 3 _ _ (0, 0) ((hx.below.block w.heap.size mlI).trans I3.out)
    have ii4 := cell_of_row _ _ 4 _ _ (0, 0) ((hx.below.block w.heap.size mlI).trans I3.out)
    simp only [List.getElem?_toArray, List.getElem?_cons_zero, List.getElem?_cons_succ] at ii0 ii1 ii2 ii3 ii4
    have HK2 := Lib.hid hK
    have HX := Lib.hid hx
    have H2 := Lib.hid h2
    clear hK h1 h2 hx
    go_simp
    first
      | (go_at_call 17; refine (FRO.out A cap (γ 5) wx ((HC3.out.below HX.out.below).more HX.out.below.size) (HX.out.row (5, pdOu fo) (by simp) (H2.out 5 (by kernel_rfl)))).mono ?_; rintro e w' ⟨rfl, hb⟩; exact HK2.out _ (HX.out.next _ (by rfl) hb))
      | exact HK2.out _ (HX.out.next _ (by rfl) (Below.refl _ _))
  try simp only [Act.put, List.setIfInBounds_toArray, List.set_cons_succ, List.set_cons_zero]
  apply GhostV.walk_const (fun γ => by rfl)
  · intro γ L wx h1 h2 hx K hK
    have xx0 := cell_of_row _ _ 0 _ _ (0, 0) ((hx.below.block w1.heap.size mlX).trans X3.out)
    have xx1 := cell_of_row _ _ 1 _ _ (0, 0) ((hx.below.block w1.heap.size mlX).trans X3.out)
    have xx2 := cell_of_row _ _ 2 _ _ (0, 0) ((hx.below.block w1.heap.size mlX).trans X3.out)
    have xx3 := cell_of_row _ _ 3 _ _ (0, 0) ((hx.below.block w1.heap.size mlX).trans X3.out)
    have xx4 := cell_of_row _ _ 4 _ _ (0, 0) ((hx.below.block w1.heap.size mlX).trans X3.out)
    have xx5 := cell_of_row _ _ 5 _ _ (0, 0) ((hx.below.block w1.heap.size mlX).trans X3.out)
    have xx6 := cell_of_row _ _ 6 _ _ (0, 0) ((hx.below.block w1.heap.size mlX).trans X3.out)
    have xx7 := cell_of_row _ _ 7 _ _ (0, 0) ((hx.below.block w1.heap.size mlX).trans X3.out)
    simp only [List.getElem?_toArray, List.getElem?_cons_zero, List.getElem?_cons_succ] at xx0 xx1 xx2 xx3 xx4 xx5 xx6 xx7
    have ii0 := cell_of_row _ _ 0 _ _ (0, 0) ((hx.below.block w.heap.size mlI).trans I3.out)
    have ii1 := cell_of_row _ _ 1 _ _ (0, 0) ((hx.below.block w.heap.size mlI).trans I3.out)
    have ii2 := cell_of_row _ _ 2 _ _ (0, 0) ((hx.below.block w.heap.size mlI).trans I3.out)
    have ii3 := cell_of_row _ _ 3 _ _ (0, 0) ((hx.below.block w.heap.size mlI).trans I3.out)
    have ii4 := cell_of_row _ _ 4 _ _ (0, 0) ((hx.below.block w.heap.size mlI).trans I3.out)
    simp only [List.getElem?_toArray, List.getElem?_cons_zero, List.getElem?_cons_succ] at ii0 ii1 ii2 ii3 ii4
    have HK2 := Lib.hid hK
    have HX := Lib.hid hx
    have H2 := Lib.hid h2
    clear hK h1 h2 hx
    go_simp
    first
      | (go_at_call 17; refine (FRO.out A cap (γ 5) wx ((HC3.out.below HX.out.below).more HX.out.below.size) (HX.out.row (5, pdOu fo) (by simp) (H2.out 5 (by kernel_rfl)))).mono ?_; rintro e w' ⟨rfl, hb⟩; exact HK2.out _ (HX.out.next _ (by rfl) hb))
      | exact HK2.out _ (HX.out.next _ (by rfl) (Below.refl _ _))
  try simp only [Act.put, List.setIfInBounds_toArray, List.set_cons_succ, List.set_cons_zero]
  apply GhostV.walk_const (fun γ => by rfl)
  · intro γ L wx h1 h2 hx K hK
    have xx0 := cell_of_row _ _ 0 _ _ (0, 0) ((hx.below.block w1.heap.size mlX).trans X3.out)
    have xx1 := cell_of_row _ _ 1 _ _ (0, 0) ((hx.below.block w1.heap.size mlX).trans X3.out)
    have xx2 := cell_of_row _ _ 2 _ _ (0, 0) ((hx.below.block w1.heap.size mlX).trans X3.out)
    have xx3 := cell_of_row _ _ 3 _ _ (0, 0) ((hx.below.block w1.heap.size mlX).trans X3.out)
    have xx4 := cell_of_row _ _ 4 _ _ (0, 0) ((hx.below.block w1.heap.size mlX).trans X3.out)
    have xx5 := cell_of_row _ _ 5 _ _ (0, 0) ((hx.below.block w1.heap.size mlX).trans X3.out)
    have xx6 := cell_of_row _ _ 6 _ _ (0, 0) ((hx.below.block w1.heap.size mlX).trans X3.out)
    have xx7 := cell_of_row _ _ 7 _ _ (0, 0) ((hx.below.block w1.heap.size mlX).trans X3.out)
    simp only [List.getElem?_toArray, List.getElem?_cons_zero, List.getElem?_cons_succ] at xx0 xx1 xx2 xx3 xx4 xx5 xx6 xx7
    have ii0 := cell_of_row _ _ 0 _ _ (0, 0) ((hx.below.block w.heap.size mlI).trans I3.out)
    have ii1 := cell_of_row _ _ 1 _ _ (0, 0) ((hx.below.block w.heap.size mlI).trans I3.out)
    have ii2 := cell_of_row _ _ 2 _ _ (0, 0) ((hx.below.block w.heap.size mlI).trans I3.out)
    have ii3 := cell_of_row _ _ 3 _ _ (0, 0) ((hx.below.block w.heap.size mlI).trans I3.out)
    have ii4 := cell_of_row _ _ 4 _ _ (0, 0) ((hx.below.block w.heap.size mlI).trans I3.out)
    simp only [List.getElem?_toArray, List.getElem?_cons_zero, List.getElem?_cons_succ] at ii0 ii1 ii2 ii3 ii4
    have HK2 := Lib.hid hK
    have HX := Lib.hid hx
    have H2 := Lib.hid h2
    clear hK h1 h2 hx
    go_simp
    first
      | (go_at_call 17; refine (FRO.out A cap (γ 5) wx ((HC3.out.below HX.out.below).more HX.out.below.size) (HX.out.row (5, pdOu fo) (by simp) (H2.out 5 (by kernel_rfl)))).mono ?_; rintro e w' ⟨rfl, hb⟩; exact HK2.out _ (HX.out.next _ (by rfl) hb))
      | exact HK2.out _ (HX.out.next _ (by rfl) (Below.refl _ _))
  try simp only [Act.put, List.setIfInBounds_toArray, List.set_cons_succ, List.set_cons_zero]
  apply GhostV.walk_const (fun γ => by rfl)
  · intro γ L wx h1 h2 hx K hK
    have xx0 := cell_of_row _ _ 0 _ _ (0, 0) ((hx.below.block w1.heap.size mlX).trans X3.out)
    have xx1 := cell_of_row _ _ 1 _ _ (0, 0) ((hx.below.block w1.heap.size mlX).trans X3.out)
    have xx2 := cell_of_row _ _ 2 _ _ (0, 0) ((hx.below.block w1.heap.size mlX).trans X3.out)
    have xx3 := cell_of_row _ _ 3 _ _ (0, 0) ((hx.below.block w1.heap.size mlX).trans X3.out)
    have xx4 := cell_of_row _ _ 4 _ _ (0, 0) ((hx.below.block w1.heap.size mlX).trans X3.out)
    have xx5 := cell_of_row _ _ 5 _ _ (0, 0) ((hx.below.block w1.heap.size mlX).trans X3.out)
    have xx6 := cell_of_row _ _ 6 _ _ (0, 0) ((hx.below.block w1.heap.size mlX).trans X3.out)
    have xx7 := cell_of_row _ _ 7 _ _ (0, 0) ((hx.below.block w1.heap.size mlX).trans X3.out)
    simp only [List.getElem?_toArray, List.getElem?_cons_zero, List.getElem?_cons_succ] at xx0 xx1 xx2 xx3 xx4 xx5 xx6 xx7
    have ii0 := cell_of_row _ _ 0 _ _ (0, 0) ((hx.below.block w.heap.size mlI).trans I3.out)
    have ii1 := cell_of_row _ _ 1 _ _ (0, 0) ((hx.below.block w.heap.size mlI).trans I3.out)
    have ii2 := cell_of_row _ _ 2 _ _ (0, 0) ((hx.below.block w.heap.size mlI).trans I3.out)
    have ii3 := cell_of_row _ _ 3 _ _ (0, 0) ((hx.below.block w.heap.size mlI).trans I3.out)
    have ii4 := cell_of_row _ _ 4 _ _ (0, 0) ((hx.below.block w.heap.size mlI).trans I3.out)
    simp only [List.getElem?_toArray, List.getElem?_cons_zero, List.getElem?_cons_succ] at ii0 ii1 ii2 ii3 ii4
    have HK2 := Lib.hid hK
    have HX := Lib.hid hx
    have H2 := Lib.hid h2
    clear hK h1 h2 hx
    go_simp
    first
      | (go_at_call 17; refine (FRO.out A cap (γ 5) wx ((HC3.out.below HX.out.below).more HX.out.below.size) (HX.out.row (5, pdOu fo) (by simp) (H2.out 5 (by kernel_rfl)))).mono ?_; rintro e w' ⟨rfl, hb⟩; exact HK2.out _ (HX.out.next _ (by rfl) hb))
      | exact HK2.out _ (HX.out.next _ (by rfl) (Below.refl _ _))
  try simp only [Act.put, List.setIfInBounds_toArray, List.set_cons_succ, List.set_cons_zero]
  refine GhostV.walk_nil (fun γ L w4 hall hG4 => ?_)
  have HB4 := Lib.hid hG4.below
  clear hG4 hall
  have X4 := Lib.hid ((HB4.out.block w1.heap.size mlX).trans X3.out)
  have P4 := Lib.hid ((HB4.out.block (w.heap.size + 1) mlP).trans P3.out)
  have hz4 := HB4.out.size
  have HC4 := Lib.hid ((HC3.out.below HB4.out).more hz4)
  have HBW4 := Lib.hid (HBW3.out.trans (HB4.out.mono HBW3.out.size))
  have nlX : w1.heap.size < w4.heap.size := by omega
  have nlP : w.heap.size + 1 < w4.heap.size := by omega
  clear X3 I3 P3 HB4 mlX mlI mlP HC3 HBW3 FRO FFO
  go_wp2_with fail
  go_loopw [12] (fun v wr => ∃ k : Nat, k ≤ 2 ∧ v = .int .i64 k ∧ Below w4.heap.size w4 wr) (fun v _ => 2 - (intOf v).toNat)
  case atStart => exact ⟨0, Nat.zero_le _, rfl, Below.refl _ _⟩
  case round =>
    obtain ⟨k, hk, rfl, hbr⟩ := hrel
    have HBR := Lib.hid hbr
    have hzr := hbr.size
    clear hbr
    by_cases hk2 : k = 2
    case pos =>
      subst hk2
      go_wp2_with fail
      refine (FS.out _).mono ?_
      rintro e w5 ⟨rfl, hb⟩
      have HB5 := Lib.hid hb
      clear hb
      go_wp2_with fail
      go_ret
      exact ⟨rfl, HBW4.out.trans ((HBR.out.trans (HB5.out.mono HBR.out.size)).mono HBW4.out.size)⟩
    by_cases hk0 : k = 0
    case pos =>
      subst hk0
      clear hk hk2
      go_wp2_with (with_reducible show wpList _ _ _ (Oper.mk _ (.buildSlice _ _ _) _ _ _ _ :: _) _ _; refine Hid.out ?_)
      refine Lib.hid ?_
      refine wpList_two rfl (.tmp 56) (.tmp 57) rfl ⟨M1.toArray⟩ ⟨M2.toArray⟩ rfl rfl ?_
      try simp only [Act.put, List.setIfInBounds_toArray, List.set_cons_succ, List.set_cons_zero]
      go_wp2_with (with_reducible show wpList _ _ _ (Oper.mk _ (.convert _ _ _) _ _ _ _ :: _) _ _; refine Hid.out ?_)
      have hb9 := HBR.out.alloc hzr (.cells #[.string ⟨M1.toArray⟩, .string ⟨M2.toArray⟩] 9)
      have hz9 : (wr.alloc (.cells #[.string ⟨M1.toArray⟩, .string ⟨M2.toArray⟩] 9)).heap.size = wr.heap.size + 1 := by simp
      have HB9 := Lib.hid hb9
      clear hb9
      generalize wr.alloc (.cells #[.string ⟨M1.toArray⟩, .string ⟨M2.toArray⟩] 9) = W9 at *
      obtain ⟨c9, R9, fr9, hconv, hrel9⟩ := conv_bytesB W9 M1
      have HREL := Lib.hid hrel9
      clear hrel9
      obtain ⟨N, hN⟩ : ∃ N, N = M1.length := ⟨_, rfl⟩
      rw [← hN] at hp1 hz1 hconv
      have HN := Lib.hid hN
      clear hN
      have hat2 : ((a : Nat) : Int) % (8 * (N : Int)) = ((a % (8 * N) : Nat) : Int) := by simp
      have hat1 : ((a : Nat) : Int).tmod (8 * (N : Int)) = ((a % (8 * N) : Nat) : Int) := by rw [Int.tmod_eq_emod_of_nonneg (by omega)]; exact hat2
      have hat3 : a % (8 * N) < 8 * N := Nat.mod_lt _ (by omega)
      have hN0 : ¬ 8 * (N : Int) = 0 := by omega
      have hN1 : ¬ N = 0 := by omega
      have hNw : IntKind.i64.wrap (8 * (N : Int)) = 8 * (N : Int) := by rw [IntKind.wrap_i64]; omega
      generalize a % (8 * N) = at0 at *
      have hnl : w.heap.size + 1 < W9.heap.size := by omega
      have hnn : ¬ w.heap.size + 1 = W9.heap.size := by omega
      have HZ9 := Lib.hid hz9
      clear hz9
      have pp0 := cell_of_row _ _ 0 _ _ (0, 0) ((HB9.out.block (w.heap.size + 1) nlP).trans P4.out)
      have pp1 := cell_of_row _ _ 1 _ _ (0, 0) ((HB9.out.block (w.heap.size + 1) nlP).trans P4.out)
      simp only [List.getElem?_toArray, List.getElem?_cons_zero, List.getElem?_cons_succ] at pp0 pp1
      refine Lib.hid ?_
      go_wp2_with fail
      clear pp0 pp1 hconv hat1 hat2 hN0 hnl hnn
      go_loopw [16, 15] (fun i ch W => ∃ q : Nat, q ≤ 16 ∧ i = .int .i64 q ∧ ch = .bool (chgTo at0 m (8 * N) q) ∧ FlipRel W9 W9.heap.size (Crc.flips at0 m q M1) W) (fun i _ _ => 16 - (intOf i).toNat)
      case atStart => exact ⟨0, Nat.zero_le _, rfl, rfl, HREL.out⟩
      case round =>
        obtain ⟨q, hq, rfl, rfl, hrel⟩ := hrel
        have HBQ := Lib.hid (HB9.out.trans (hrel.2.1.mono HB9.out.size))
        have hgq := hrel.2.2
        have pp0 := cell_of_row _ _ 0 _ _ (0, 0) ((HBQ.out.block (w.heap.size + 1) nlP).trans P4.out)
        have pp1 := cell_of_row _ _ 1 _ _ (0, 0) ((HBQ.out.block (w.heap.size + 1) nlP).trans P4.out)
        simp only [List.getElem?_toArray, List.getElem?_cons_zero, List.getElem?_cons_succ] at pp0 pp1
        clear pp0
        by_cases hlt : q < 16
        case pos =>
          have hlenM : (Crc.flips at0 m q M1).length = N := by rw [Crc.flips_length, HN.out]
          have HCH : Hid (chgTo at0 m (8 * N) (q + 1) = (chgTo at0 m (8 * N) q || (m.testBit q && decide (at0 + q < 8 * N)))) := Lib.hid rfl
          generalize chgTo at0 m (8 * N) q = CQ at *
          by_cases hc : at0 + q < 8 * N
          case pos =>
            have hlen : (at0 + q) / 8 < (Crc.flips at0 m q M1).length := by omega
            have hcell := (hrel.1 ((at0 + q) / 8) hlen).1
            have hfz := (hrel.1 ((at0 + q) / 8) hlen).2
            have HR := Lib.hid hrel
            have HL := Lib.hid hlen
            clear hrel hlen hlenM
            obtain ⟨c, hcd⟩ : ∃ c, c = (Crc.flips at0 m q M1).getD ((at0 + q) / 8) 0 := ⟨_, rfl⟩
            have HC := Lib.hid hcd
            rw [← hcd] at hcell
            clear hcd
            by_cases hbit : m.testBit q = true
            case pos =>
              have hb1 := (mask_bit16 m q hm).trans (if_pos hbit)
              have HB := Lib.hid hbit
              clear hbit
              go_wp2
              go_roundw
              case rel =>
                refine ⟨q + 1, by omega, by go_num, by rw [HCH.out, HB.out, decide_eq_true hc]; simp, ?_⟩
                simp only [Crc.flips]
                rw [if_pos ⟨HB.out, by rw [← HN.out]; exact hc⟩, flip_byte, Crc.flip1, ← HC.out]
                exact flipRel_set HR.out HL.out _
              case measure => simp [intOf]; omega
            have hb1 := (mask_bit16 m q hm).trans (if_neg hbit)
            have HB := Lib.hid hbit
            clear hbit
            go_wp2
            go_roundw
            case rel =>
              refine ⟨q + 1, by omega, by go_num, by rw [HCH.out]; simp [HB.out], ?_⟩
              simp only [Crc.flips]
              rw [if_neg (fun h => HB.out h.1)]
              exact HR.out
            case measure => simp [intOf]; omega
          have HR := Lib.hid hrel
          clear hrel hlenM
          by_cases hbit : m.testBit q = true
          case pos =>
            have hb1 := (mask_bit16 m q hm).trans (if_pos hbit)
            have HB := Lib.hid hbit
            clear hbit
            go_wp2
            go_roundw
            case rel =>
              refine ⟨q + 1, by omega, by go_num, by rw [HCH.out]; simp [hc], ?_⟩
              simp only [Crc.flips]
              rw [if_neg (fun h => hc (by rw [HN.out]; exact h.2))]
              exact HR.out
            case measure => simp [intOf]; omega
          have hb1 := (mask_bit16 m q hm).trans (if_neg hbit)
          have HB := Lib.hid hbit
          clear hbit
          go_wp2
          go_roundw
          case rel =>
            refine ⟨q + 1, by omega, by go_num, by rw [HCH.out]; simp [hc], ?_⟩
            simp only [Crc.flips]
            rw [if_neg (fun h => hc (by rw [HN.out]; exact h.2))]
            exact HR.out
          case measure => simp [intOf]; omega
        obtain rfl : q = 16 := by omega
        clear hq hlt pp1
        have HBACK := Lib.hid (fun W' hb => bytes_backB (P := Try.prog) (W' := W') hrel.1 hb hgq 55 9 5 N c9 (by rw [Crc.flips_length, HN.out]) (by kernel_rfl) (by kernel_rfl) (by kernel_rfl))
        have hbad : chgTo at0 m (8 * N) 16 = true → openOk (Crc.flips at0 m 16 M1) = false := by rw [HN.out]; exact HB1.out at0 m
        have hsz : (⟨(Crc.flips at0 m 16 M1).toArray⟩ : ByteArray).size ≤ maxLen := by show (Crc.flips at0 m 16 M1).toArray.size ≤ maxLen; rw [List.size_toArray, Crc.flips_length, ← HN.out]; unfold maxLen; omega
        have hRI := Lib.hid (fun A cap wx hc => HRI.out A cap ⟨(Crc.flips at0 m 16 M1).toArray⟩ wx hc hsz)
        have hRO := Lib.hid (fun A cap wx hc => HRO.out A cap ⟨(Crc.flips at0 m 16 M1).toArray⟩ wx hc hsz)
        have HBAD : Hid (chgTo at0 m (8 * N) 16 = true → openOk (bl ⟨(Crc.flips at0 m 16 M1).toArray⟩) = false) := Lib.hid hbad
        clear hbad hsz
        have HREL2 := Lib.hid hrel
        clear hrel
        generalize (⟨(Crc.flips at0 m 16 M1).toArray⟩ : ByteArray) = SS at *
        generalize chgTo at0 m (8 * N) 16 = CQ at *
        skip
        have hlX5 := Nat.lt_of_lt_of_le nlX HBQ.out.size
        have xx0 := cell_of_row _ _ 0 _ _ (0, 0) ((HBQ.out.block w1.heap.size nlX).trans X4.out)
        have xx1 := cell_of_row _ _ 1 _ _ (0, 0) ((HBQ.out.block w1.heap.size nlX).trans X4.out)
        have xx2 := cell_of_row _ _ 2 _ _ (0, 0) ((HBQ.out.block w1.heap.size nlX).trans X4.out)
        have xx3 := cell_of_row _ _ 3 _ _ (0, 0) ((HBQ.out.block w1.heap.size nlX).trans X4.out)
        have xx4 := cell_of_row _ _ 4 _ _ (0, 0) ((HBQ.out.block w1.heap.size nlX).trans X4.out)
        have xx5 := cell_of_row _ _ 5 _ _ (0, 0) ((HBQ.out.block w1.heap.size nlX).trans X4.out)
        have xx6 := cell_of_row _ _ 6 _ _ (0, 0) ((HBQ.out.block w1.heap.size nlX).trans X4.out)
        have xx7 := cell_of_row _ _ 7 _ _ (0, 0) ((HBQ.out.block w1.heap.size nlX).trans X4.out)
        simp only [List.getElem?_toArray, List.getElem?_cons_zero, List.getElem?_cons_succ] at xx0 xx1 xx2 xx3 xx4 xx5 xx6 xx7
        go_wp2_with (with_reducible show wpList _ _ _ (Oper.mk _ (.convert _ _ _) _ _ _ _ :: _) _ _; refine Hid.out ?_)
        have hcv := HBACK.out _ (Below.refl _ _)
        refine Lib.hid ?_
        go_wp2_with fail
        clear xx0 xx1 xx2 xx3 xx4 xx5 xx6 xx7
        clear hcv
        refine (hRI.out A cap _ ((HC4.out.below HBQ.out).more HBQ.out.size)).mono ?_
        rintro e w5 ⟨hb5, z, Az, cz, code1, rfl, hcode1⟩
        obtain ⟨z1, z2, z3, z4, z5⟩ := z
        simp only [inAgg]
        have HC1 := Lib.hid hcode1
        have HB5 := Lib.hid (HBQ.out.trans (hb5.mono HBQ.out.size))
        have HBL := Lib.hid (hb5.alloc hb5.size (.cells #[.int .u32 z1, .int .u32 z2, .int .i64 z3, .int .i64 z4, .slice Az z5.length cz] 33))
        clear hcode1 hb5
        have HB6 := Lib.hid (HB5.out.alloc HB5.out.size (.cells #[.int .u32 z1, .int .u32 z2, .int .i64 z3, .int .i64 z4, .slice Az z5.length cz] 33))
        have l5 : w1.heap.size < w5.heap.size := Nat.lt_of_lt_of_le nlX HB5.out.size
        have n5 : ¬ w1.heap.size = w5.heap.size := by omega
        have xx0 := cell_of_row _ _ 0 _ _ (0, 0) ((HB5.out.block w1.heap.size nlX).trans X4.out)
        have xx1 := cell_of_row _ _ 1 _ _ (0, 0) ((HB5.out.block w1.heap.size nlX).trans X4.out)
        have xx2 := cell_of_row _ _ 2 _ _ (0, 0) ((HB5.out.block w1.heap.size nlX).trans X4.out)
        have xx3 := cell_of_row _ _ 3 _ _ (0, 0) ((HB5.out.block w1.heap.size nlX).trans X4.out)
        have xx4 := cell_of_row _ _ 4 _ _ (0, 0) ((HB5.out.block w1.heap.size nlX).trans X4.out)
        have xx5 := cell_of_row _ _ 5 _ _ (0, 0) ((HB5.out.block w1.heap.size nlX).trans X4.out)
        have xx6 := cell_of_row _ _ 6 _ _ (0, 0) ((HB5.out.block w1.heap.size nlX).trans X4.out)
        have xx7 := cell_of_row _ _ 7 _ _ (0, 0) ((HB5.out.block w1.heap.size nlX).trans X4.out)
        simp only [List.getElem?_toArray, List.getElem?_cons_zero, List.getElem?_cons_succ] at xx0 xx1 xx2 xx3 xx4 xx5 xx6 xx7
        go_wp2_with (with_reducible show wpList _ _ _ (Oper.mk _ (.convert _ _ _) _ _ _ _ :: _) _ _; refine Hid.out ?_)
        have hcv := HBACK.out _ HBL.out
        refine Lib.hid ?_
        go_wp2_with fail
        clear xx0 xx1 xx2 xx3 xx4 xx5 xx6 xx7
        clear hcv l5 n5
        refine (hRO.out A cap _ ((HC4.out.below HB6.out).more HB6.out.size)).mono ?_
        rintro e w7 ⟨hb7, oo, Ao, co, code2, rfl, hcode2⟩
        obtain ⟨⟨o1, o2, o3, o4, o5, o6, o7⟩, o8⟩ := oo
        simp only [ouAgg]
        have HC2 := Lib.hid hcode2
        have HB7 := Lib.hid (HB6.out.trans (hb7.mono HB6.out.size))
        clear hcode2 hb7
        have HB8 := Lib.hid (HB7.out.alloc HB7.out.size (.cells #[.int .u32 o1, .int .u32 o2, .int .u32 o3, .int .u32 o4, .bool o5, .bool o6, .int .i64 o7, .slice Ao o8.length co] 46))
        cases CQ
        case true =>
          have t1 := HC1.out (HBAD.out rfl)
          have t2 := HC2.out (HBAD.out rfl)
          clear hRI hRO
          go_wp2_with fail
          go_roundw
          case rel => exact ⟨1, by omega, by go_num, HB8.out⟩
          case measure => simp [intOf]
        go_wp2_with fail
        go_roundw
        case rel => exact ⟨1, by omega, by go_num, HB8.out⟩
        case measure => simp [intOf]
    obtain rfl : k = 1 := by omega
    clear hk hk2 hk0
    go_wp2_with (with_reducible show wpList _ _ _ (Oper.mk _ (.buildSlice _ _ _) _ _ _ _ :: _) _ _; refine Hid.out ?_)
    refine Lib.hid ?_
    refine wpList_two rfl (.tmp 56) (.tmp 57) rfl ⟨M1.toArray⟩ ⟨M2.toArray⟩ rfl rfl ?_
    try simp only [Act.put, List.setIfInBounds_toArray, List.set_cons_succ, List.set_cons_zero]
    go_wp2_with (with_reducible show wpList _ _ _ (Oper.mk _ (.convert _ _ _) _ _ _ _ :: _) _ _; refine Hid.out ?_)
    have hb9 := HBR.out.alloc hzr (.cells #[.string ⟨M1.toArray⟩, .string ⟨M2.toArray⟩] 9)
    have hz9 : (wr.alloc (.cells #[.string ⟨M1.toArray⟩, .string ⟨M2.toArray⟩] 9)).heap.size = wr.heap.size + 1 := by simp
    have HB9 := Lib.hid hb9
    clear hb9
    generalize wr.alloc (.cells #[.string ⟨M1.toArray⟩, .string ⟨M2.toArray⟩] 9) = W9 at *
    obtain ⟨c9, R9, fr9, hconv, hrel9⟩ := conv_bytesB W9 M2
    have HREL := Lib.hid hrel9
    clear hrel9
    obtain ⟨N, hN⟩ : ∃ N, N = M2.length := ⟨_, rfl⟩
    rw [← hN] at hp2 hz2 hconv
    have HN := Lib.hid hN
    clear hN
    have hat2 : ((a : Nat) : Int) % (8 * (N : Int)) = ((a % (8 * N) : Nat) : Int) := by simp
    have hat1 : ((a : Nat) : Int).tmod (8 * (N : Int)) = ((a % (8 * N) : Nat) : Int) := by rw [Int.tmod_eq_emod_of_nonneg (by omega)]; exact hat2
    have hat3 : a % (8 * N) < 8 * N := Nat.mod_lt _ (by omega)
    have hN0 : ¬ 8 * (N : Int) = 0 := by omega
    have hN1 : ¬ N = 0 := by omega
    have hNw : IntKind.i64.wrap (8 * (N : Int)) = 8 * (N : Int) := by rw [IntKind.wrap_i64]; omega
    generalize a % (8 * N) = at0 at *
    have hnl : w.heap.size + 1 < W9.heap.size := by omega
    have hnn : ¬ w.heap.size + 1 = W9.heap.size := by omega
    have HZ9 := Lib.hid hz9
    clear hz9
    have pp0 := cell_of_row _ _ 0 _ _ (0, 0) ((HB9.out.block (w.heap.size + 1) nlP).trans P4.out)
    have pp1 := cell_of_row _ _ 1 _ _ (0, 0) ((HB9.out.block (w.heap.size + 1) nlP).trans P4.out)
    simp only [List.getElem?_toArray, List.getElem?_cons_zero, List.getElem?_cons_succ] at pp0 pp1
    refine Lib.hid ?_
    go_wp2_with fail
    clear pp0 pp1 hconv hat1 hat2 hN0 hnl hnn
    go_loopw [16, 15] (fun i ch W => ∃ q : Nat, q ≤ 16 ∧ i = .int .i64 q ∧ ch = .bool (chgTo at0 m (8 * N) q) ∧ FlipRel W9 W9.heap.size (Crc.flips at0 m q M2) W) (fun i _ _ => 16 - (intOf i).toNat)
    case atStart => exact ⟨0, Nat.zero_le _, rfl, rfl, HREL.out⟩
    case round =>
      obtain ⟨q, hq, rfl, rfl, hrel⟩ := hrel
      have HBQ := Lib.hid (HB9.out.trans (hrel.2.1.mono HB9.out.size))
      have hgq := hrel.2.2
      have pp0 := cell_of_row _ _ 0 _ _ (0, 0) ((HBQ.out.block (w.heap.size + 1) nlP).trans P4.out)
      have pp1 := cell_of_row _ _ 1 _ _ (0, 0) ((HBQ.out.block (w.heap.size + 1) nlP).trans P4.out)
      simp only [List.getElem?_toArray, List.getElem?_cons_zero, List.getElem?_cons_succ] at pp0 pp1
      clear pp0
      by_cases hlt : q < 16
      case pos =>
        have hlenM : (Crc.flips at0 m q M2).length = N := by rw [Crc.flips_length, HN.out]
        have HCH : Hid (chgTo at0 m (8 * N) (q + 1) = (chgTo at0 m (8 * N) q || (m.testBit q && decide (at0 + q < 8 * N)))) := Lib.hid rfl
        generalize chgTo at0 m (8 * N) q = CQ at *
        by_cases hc : at0 + q < 8 * N
        case pos =>
          have hlen : (at0 + q) / 8 < (Crc.flips at0 m q M2).length := by omega
          have hcell := (hrel.1 ((at0 + q) / 8) hlen).1
          have hfz := (hrel.1 ((at0 + q) / 8) hlen).2
          have HR := Lib.hid hrel
          have HL := Lib.hid hlen
          clear hrel hlen hlenM
          obtain ⟨c, hcd⟩ : ∃ c, c = (Crc.flips at0 m q M2).getD ((at0 + q) / 8) 0 := ⟨_, rfl⟩
          have HC := Lib.hid hcd
          rw [← hcd] at hcell
          clear hcd
          by_cases hbit : m.testBit q = true
          case pos =>
            have hb1 := (mask_bit16 m q hm).trans (if_pos hbit)
            have HB := Lib.hid hbit
            clear hbit
            go_wp2
            go_roundw
            case rel =>
              refine ⟨q + 1, by omega, by go_num, by rw [HCH.out, HB.out, decide_eq_true hc]; simp, ?_⟩
              simp only [Crc.flips]
              rw [if_pos ⟨HB.out, by rw [← HN.out]; exact hc⟩, flip_byte, Crc.flip1, ← HC.out]
              exact flipRel_set HR.out HL.out _
            case measure => simp [intOf]; omega
          have hb1 := (mask_bit16 m q hm).trans (if_neg hbit)
          have HB := Lib.hid hbit
          clear hbit
          go_wp2
          go_roundw
          case rel =>
            refine ⟨q + 1, by omega, by go_num, by rw [HCH.out]; simp [HB.out], ?_⟩
            simp only [Crc.flips]
            rw [if_neg (fun h => HB.out h.1)]
            exact HR.out
          case measure => simp [intOf]; omega
        have HR := Lib.hid hrel
        clear hrel hlenM
        by_cases hbit : m.testBit q = true
        case pos =>
          have hb1 := (mask_bit16 m q hm).trans (if_pos hbit)
          have HB := Lib.hid hbit
          clear hbit
          go_wp2
          go_roundw
          case rel =>
            refine ⟨q + 1, by omega, by go_num, by rw [HCH.out]; simp [hc], ?_⟩
            simp only [Crc.flips]
            rw [if_neg (fun h => hc (by rw [HN.out]; exact h.2))]
            exact HR.out
          case measure => simp [intOf]; omega
        have hb1 := (mask_bit16 m q hm).trans (if_neg hbit)
        have HB := Lib.hid hbit
        clear hbit
        go_wp2
        go_roundw
        case rel =>
          refine ⟨q + 1, by omega, by go_num, by rw [HCH.out]; simp [hc], ?_⟩
          simp only [Crc.flips]
          rw [if_neg (fun h => hc (by rw [HN.out]; exact h.2))]
          exact HR.out
        case measure => simp [intOf]; omega
      obtain rfl : q = 16 := by omega
      clear hq hlt pp1
      have HBACK := Lib.hid (fun W' hb => bytes_backB (P := Try.prog) (W' := W') hrel.1 hb hgq 55 9 5 N c9 (by rw [Crc.flips_length, HN.out]) (by kernel_rfl) (by kernel_rfl) (by kernel_rfl))
      have hbad : chgTo at0 m (8 * N) 16 = true → openOk (Crc.flips at0 m 16 M2) = false := by rw [HN.out]; exact HB2.out at0 m
      have hsz : (⟨(Crc.flips at0 m 16 M2).toArray⟩ : ByteArray).size ≤ maxLen := by show (Crc.flips at0 m 16 M2).toArray.size ≤ maxLen; rw [List.size_toArray, Crc.flips_length, ← HN.out]; unfold maxLen; omega
      have hRI := Lib.hid (fun A cap wx hc => HRI.out A cap ⟨(Crc.flips at0 m 16 M2).toArray⟩ wx hc hsz)
      have hRO := Lib.hid (fun A cap wx hc => HRO.out A cap ⟨(Crc.flips at0 m 16 M2).toArray⟩ wx hc hsz)
      have HBAD : Hid (chgTo at0 m (8 * N) 16 = true → openOk (bl ⟨(Crc.flips at0 m 16 M2).toArray⟩) = false) := Lib.hid hbad
      clear hbad hsz
      have HREL2 := Lib.hid hrel
      clear hrel
      generalize (⟨(Crc.flips at0 m 16 M2).toArray⟩ : ByteArray) = SS at *
      generalize chgTo at0 m (8 * N) 16 = CQ at *
      skip
      have hlX5 := Nat.lt_of_lt_of_le nlX HBQ.out.size
      have xx0 := cell_of_row _ _ 0 _ _ (0, 0) ((HBQ.out.block w1.heap.size nlX).trans X4.out)
      have xx1 := cell_of_row _ _ 1 _ _ (0, 0) ((HBQ.out.block w1.heap.size nlX).trans X4.out)
      have xx2 := cell_of_row _ _ 2 _ _ (0, 0) ((HBQ.out.block w1.heap.size nlX).trans X4.out)
      have xx3 := cell_of_row _ _ 3 _ _ (0, 0) ((HBQ.out.block w1.heap.size nlX).trans X4.out)
      have xx4 := cell_of_row _ _ 4 _ _ (0, 0) ((HBQ.out.block w1.heap.size nlX).trans X4.out)
      have xx5 := cell_of_row _ _ 5 _ _ (0, 0) ((HBQ.out.block w1.heap.size nlX).trans X4.out)
      have xx6 := cell_of_row _ _ 6 _ _ (0, 0) ((HBQ.out.block w1.heap.size nlX).trans X4.out)
      have xx7 := cell_of_row _ _ 7 _ _ (0, 0) ((HBQ.out.block w1.heap.size nlX).trans X4.out)
      simp only [List.getElem?_toArray, List.getElem?_cons_zero, List.getElem?_cons_succ] at xx0 xx1 xx2 xx3 xx4 xx5 xx6 xx7
      go_wp2_with (with_reducible show wpList _ _ _ (Oper.mk _ (.convert _ _ _) _ _ _ _ :: _) _ _; refine Hid.out ?_)
      have hcv := HBACK.out _ (Below.refl _ _)
      refine Lib.hid ?_
      go_wp2_with fail
      clear xx0 xx1 xx2 xx3 xx4 xx5 xx6 xx7
      clear hcv
      refine (hRI.out A cap _ ((HC4.out.below HBQ.out).more HBQ.out.size)).mono ?_
      rintro e w5 ⟨hb5, z, Az, cz, code1, rfl, hcode1⟩
      obtain ⟨z1, z2, z3, z4, z5⟩ := z
      simp only [inAgg]
      have HC1 := Lib.hid hcode1
      have HB5 := Lib.hid (HBQ.out.trans (hb5.mono HBQ.out.size))
      have HBL := Lib.hid (hb5.alloc hb5.size (.cells #[.int .u32 z1, .int .u32 z2, .int .i64 z3, .int .i64 z4, .slice Az z5.length cz] 33))
      clear hcode1 hb5
      have HB6 := Lib.hid (HB5.out.alloc HB5.out.size (.cells #[.int .u32 z1, .int .u32 z2, .int .i64 z3, .int .i64 z4, .slice Az z5.length cz] 33))
      have l5 : w1.heap.size < w5.heap.size := Nat.lt_of_lt_of_le nlX HB5.out.size
      have n5 : ¬ w1.heap.size = w5.heap.size := by omega
      have xx0 := cell_of_row _ _ 0 _ _ (0, 0) ((HB5.out.block w1.heap.size nlX).trans X4.out)
      have xx1 := cell_of_row _ _ 1 _ _ (0, 0) ((HB5.out.block w1.heap.size nlX).trans X4.out)
      have xx2 := cell_of_row _ _ 2 _ _ (0, 0) ((HB5.out.block w1.heap.size nlX).trans X4.out)
      have xx3 := cell_of_row _ _ 3 _ _ (0, 0) ((HB5.out.block w1.heap.size nlX).trans X4.out)
      have xx4 := cell_of_row _ _ 4 _ _ (0, 0) ((HB5.out.block w1.heap.size nlX).trans X4.out)
      have xx5 := cell_of_row _ _ 5 _ _ (0, 0) ((HB5.out.block w1.heap.size nlX).trans X4.out)
      have xx6 := cell_of_row _ _ 6 _ _ (0, 0) ((HB5.out.block w1.heap.size nlX).trans X4.out)
      have xx7 := cell_of_row _ _ 7 _ _ (0, 0) ((HB5.out.block w1.heap.size nlX).trans X4.out)
      simp only [List.getElem?_toArray, List.getElem?_cons_zero, List.getElem?_cons_succ] at xx0 xx1 xx2 xx3 xx4 xx5 xx6 xx7
      go_wp2_with (with_reducible show wpList _ _ _ (Oper.mk _ (.convert _ _ _) _ _ _ _ :: _) _ _; refine Hid.out ?_)
      have hcv := HBACK.out _ HBL.out
      refine Lib.hid ?_
      go_wp2_with fail
      clear xx0 xx1 xx2 xx3 xx4 xx5 xx6 xx7
      clear hcv l5 n5
      refine (hRO.out A cap _ ((HC4.out.below HB6.out).more HB6.out.size)).mono ?_
      rintro e w7 ⟨hb7, oo, Ao, co, code2, rfl, hcode2⟩
      obtain ⟨⟨o1, o2, o3, o4, o5, o6, o7⟩, o8⟩ := oo
      simp only [ouAgg]
      have HC2 := Lib.hid hcode2
      have HB7 := Lib.hid (HB6.out.trans (hb7.mono HB6.out.size))
      clear hcode2 hb7
      have HB8 := Lib.hid (HB7.out.alloc HB7.out.size (.cells #[.int .u32 o1, .int .u32 o2, .int .u32 o3, .int .u32 o4, .bool o5, .bool o6, .int .i64 o7, .slice Ao o8.length co] 46))
      cases CQ
      case true =>
        have t1 := HC1.out (HBAD.out rfl)
        have t2 := HC2.out (HBAD.out rfl)
        clear hRI hRO
        go_wp2_with fail
        go_roundw
        case rel => exact ⟨2, by omega, by go_num, HB8.out⟩
        case measure => simp [intOf]
      go_wp2_with fail
      go_roundw
      case rel => exact ⟨2, by omega, by go_num, HB8.out⟩
      case measure => simp [intOf]
end

section
open Go Go.RowKit Frm Go.ChangeShapes Go.WideShapes Go.ChangeAt

set_option maxRecDepth 100000 in
theorem lawFrameBursts_lifted (os : Os) (started : os.Started) (H : Type) (enc : TypeId × Value → H) :
    ReturnsInHanded {} Try.checked os 7 .any (Rows.frameBurstsSpec.pre6 enc Try.prog Try.f7 Rows.frameBurstsRow.domain false) (Rows.frameBurstsSpec.post enc Try.prog Try.f7 false true false false) := by
  refine returnsInHanded_of_change (C := Try.checked) own started (by kernel_rfl) Try.func7
    (ChangeSpec.witness6 (enc := enc) (C := Try.checked) false ⟨#[], #[.int .u8 0, .agg #[.int .u32 0, .int .u32 0, .int .i64 0, .int .i64 0, .slice none 0 0], .agg #[.int .u16 0, .int .u16 0]], []⟩ 8 (by kernel_rfl) (by kernel_rfl) (by kernel_rfl) (by kernel_rfl)) ?_
  intro W base args ds gs before hval0 hW hcnd _
  have hval : ∀ (j : Nat) t v, Try.f7.params[j]? = some t → args[j]? = some v → Value.okWide Try.prog W .any base t v := hval0
  have hW' := hW
  obtain ⟨p, q, hA0, hV, rfl, hfz, hnd⟩ := hW
  have hA : DataW.TrodAll enc Try.prog W 0 (fun _ => true) true Try.f7.params.toList args.toList ds p := hA0
  rw [Try.params7] at hA hval
  obtain ⟨v0, vs0, d0, ds0, p0, q0, hargs, rfl, rfl, h0, r0⟩ := trodAll_cons hA
  obtain ⟨v1, vs1, d1, ds1, p1, q1, rfl, rfl, rfl, h1, r1⟩ := trodAll_cons r0
  obtain ⟨v2, vs2, d2, ds2, p2, q2, rfl, rfl, rfl, h2, r2⟩ := trodAll_cons r1
  obtain ⟨rfl, rfl, rfl⟩ := trodAll_nil r2
  obtain rfl : args = #[v0, v1, v2] := by cases args; simp_all
  obtain ⟨rfl, rfl⟩ := trodVars_none hV
  obtain ⟨x0, rfl, rfl, rfl, g0⟩ := open_int Try.underlying5 (hval 0 5 v0 rfl rfl) h0
  have k1 := h1
  have lt1 : ∀ x ∈ p1, x.block < W.heap.size := by obtain ⟨m, hm⟩ := k1; exact DataW.trod_lt m _ _ _ hm
  obtain ⟨x1, y1, z1, rfl, g1, m1, n1⟩ := open_inputs (hval 1 33 v1 rfl rfl) h1
  have k2 := h2
  have lt2 : ∀ x ∈ p2, x.block < W.heap.size := by obtain ⟨m, hm⟩ := k2; exact DataW.trod_lt m _ _ _ hm
  obtain ⟨x2, y2, rfl, g2, m2⟩ := open_au16_2 (hval 2 61 v2 rfl rfl) h2
  clear hA0 hval0
  refine (lawFrameBursts_walk x0 x1 y1 z1 x2 y2 W g0 g1 m1 n1 g2 m2).mono fun e W' ⟨he, bel⟩ => ?_
  subst he
  exact ⟨_, rfl, _, _, _, [], _, [], hW', trodAll_mk1 (shut_bool Try.underlying4 _), (trodAll_cons_mk (shut_int Try.underlying5 g0) (trodAll_cons_mk (Below.trod laidOut (by kernel_rfl) (of_decide_eq_true (by kernel_rfl)) k1 bel lt1) (trodAll_cons_mk (Below.trod laidOut (by kernel_rfl) (of_decide_eq_true (by kernel_rfl)) k2 bel lt2) trodAll_mk0))), rfl, bel.frame _, fun h => by cases h⟩

theorem lawFrameBursts_over : Rows.frameBurstsRow.holds Try.pinned (OpenSpec.ofChange Rows.frameBurstsSpec) :=
  OpenClaim.holds_of_wide 7 Try.f7 rfl rfl rfl rfl rfl rfl rfl ⟨rfl, rfl, rfl, rfl, rfl⟩ rfl rfl rfl rfl rfl (by kernel_rfl) Try.func7 (by kernel_rfl)
    (of_decide_eq_true (by kernel_rfl)) (by unfold Func.isWrapper; first | (rw [if_pos (by decide +kernel)]; kernel_rfl) | (rw [if_neg (by decide +kernel)]; exact ⟨rfl, rfl⟩))
    (fun os started H enc _ => lawFrameBursts_lifted os started H enc)

theorem frameBursts_holds : Rows.FrameBurstsSaid := lawFrameBursts_over
#print axioms frameBursts_holds
end
end Go.Proofs.Ytapkjknpoafhjaa
