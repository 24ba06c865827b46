/- The law FrameInputs: the frame of arbitrary inputs, and of valid ones, or the error; valid ones are read back. No condition. (Several texts in one.) -/
import Derived.Test.YtcggngggkngbjaaMem
import Derived.Deep.Slices
import Derived.Deep.Fields
import Derived.ChangeSame
import Derived.ChangeOld
import Derived.Test.YtcggngggkngbjaaFitted
import Derived.ChangeMaps5
import Derived.Test.YtcggngggkngbjaaReadBack
import Derived.Test.YtcggngggkngbjaaWriteBack
import Derived.Test.YtcggngggkngbjaaFrameSane
namespace Go.Proofs.Ytcggngggkngbjaa
section
open Go.RowKit Go.ChangeShapes Go.WideShapes Go.Deep


theorem list_of {α : Type} (d : α) (P : Nat → α → Prop) : ∀ n : Nat, (∀ i, i < n → ∃ c, P i c) → ∃ l : List α, l.length = n ∧ ∀ i, i < n → P i (l.getD i d)
  | 0, _ => ⟨[], rfl, fun i hi => absurd hi (by omega)⟩
  | n + 1, h => by
    obtain ⟨l, hl, hp⟩ := list_of d P n (fun i hi => h i (by omega))
    obtain ⟨c, hc⟩ := h n (by omega)
    refine ⟨l ++ [c], by simp [hl], fun i hi => ?_⟩
    rcases Nat.lt_or_ge i n with hlt | hge
    · have := hp i hlt
      rw [List.getD_eq_getElem?_getD] at this ⊢
      rwa [List.getElem?_append_left (by omega)]
    · obtain rfl : i = n := by omega
      rw [List.getD_eq_getElem?_getD, List.getElem?_append_right (by omega), hl]
      simpa using hc

section
variable {H : Type} {enc : TypeId × Value → H} {w : World} {base : Nat} {spare : Nat → Bool} {held : Bool}

theorem open_cars {fuel : Nat} {v : Value} {x : DataW H × List MemPlace} (h : DataW.trod enc Try.prog w base spare held fuel 23 [v] = some x) :
    ∃ (A : Option Addr) (cap : Nat) (cs : List CarD), v = .slice A cs.length cap ∧ CarsAt w w.heap.size A cs ∧ cs.length ≤ 9223372036854775807 := by
  obtain ⟨fs, hfs⟩ : ∃ fs, Try.prog.underlying 106 = some (.struct fs) := ⟨_, Try.underlying106⟩
  rcases open_slice Try.underlying23 h with ⟨hcs, _⟩ | ⟨a, len, cap, m, n, D, Pl, hcs, _, hl, hm, hmm, _, hi⟩
  · simp only [List.cons.injEq, and_true] at hcs
    exact ⟨none, 0, [], hcs, .inl rfl, by simp⟩
  · simp only [List.cons.injEq, and_true] at hcs
    subst hcs
    have hC : Try.prog.cellsOf 106 = 9 := by kernel_rfl
    have hml : len ≤ m := by rw [hmm]; split <;> omega
    have hone : ∀ i, i < len → ∃ c : CarD, ∀ j, j < 9 → w.cell? (a.add (i * 9 + j)) = some (.int .i64 (c.vals.getD j 0)) := by
      intro i hil
      obtain ⟨cs', hc, ht⟩ := hi i (by omega)
      rw [hC] at hc
      obtain ⟨ys, n', _, hy, hlen, hyl, hf⟩ := DataW.trod_struct Try.underlying106 ht
      obtain ⟨_, hcl, hat⟩ := World.cells?_some hc
      have hfield : ∀ j, j < 9 → ∃ z, w.cell? (a.add (i * 9 + j)) = some (.int .i64 z) := by
        intro j hj
        have hcell := hat j hj
        have hcs : cs'[j]? = some (cs'[j]'(by omega)) := List.getElem?_eq_getElem (by omega)
        have hint : ∃ z, cs'[j]'(by omega) = .int .i64 z := by
          have hdrop : (cs'.drop j).take 1 = [cs'[j]'(by omega)] := by
            rw [List.drop_eq_getElem_cons (by omega)]
            rfl
          have hk : Try.prog.cellsOf 3 = 1 := by kernel_rfl
          have key : ∀ f : Field, f.offset = j → f.type = 3 → (∃ y, DataW.trod enc Try.prog w base spare held n' f.type ((cs'.drop f.offset).take (Try.prog.cellsOf f.type)) = some y) → ∃ z, cs'[j]'(by omega) = .int .i64 z := by
            intro f ho ht' ⟨y, hy'⟩
            rw [ho, ht', hk, hdrop] at hy'
            obtain ⟨z, hz, _⟩ := DataW.trod_int Try.underlying3 hy'
            simp only [List.cons.injEq, and_true] at hz
            exact ⟨z, hz⟩
          have hj' : j = 0 ∨ j = 1 ∨ j = 2 ∨ j = 3 ∨ j = 4 ∨ j = 5 ∨ j = 6 ∨ j = 7 ∨ j = 8 := by omega
          rcases hj' with rfl | rfl | rfl | rfl | rfl | rfl | rfl | rfl | rfl
          · exact key _ rfl rfl ⟨_, (hf 0 _ rfl).trans (List.getElem?_eq_getElem (by rw [hyl]; decide))⟩
          · exact key _ rfl rfl ⟨_, (hf 1 _ rfl).trans (List.getElem?_eq_getElem (by rw [hyl]; decide))⟩
          · exact key _ rfl rfl ⟨_, (hf 2 _ rfl).trans (List.getElem?_eq_getElem (by rw [hyl]; decide))⟩
          · exact key _ rfl rfl ⟨_, (hf 3 _ rfl).trans (List.getElem?_eq_getElem (by rw [hyl]; decide))⟩
          · exact key _ rfl rfl ⟨_, (hf 4 _ rfl).trans (List.getElem?_eq_getElem (by rw [hyl]; decide))⟩
          · exact key _ rfl rfl ⟨_, (hf 5 _ rfl).trans (List.getElem?_eq_getElem (by rw [hyl]; decide))⟩
          · exact key _ rfl rfl ⟨_, (hf 6 _ rfl).trans (List.getElem?_eq_getElem (by rw [hyl]; decide))⟩
          · exact key _ rfl rfl ⟨_, (hf 7 _ rfl).trans (List.getElem?_eq_getElem (by rw [hyl]; decide))⟩
          · exact key _ rfl rfl ⟨_, (hf 8 _ rfl).trans (List.getElem?_eq_getElem (by rw [hyl]; decide))⟩
        obtain ⟨z, hz⟩ := hint
        exact ⟨z, by rw [← Go.Deep.add_add, hcell, hcs, hz]⟩
      obtain ⟨c1, h1⟩ := hfield 0 (by omega)
      obtain ⟨c2, h2⟩ := hfield 1 (by omega)
      obtain ⟨c3, h3⟩ := hfield 2 (by omega)
      obtain ⟨c4, h4⟩ := hfield 3 (by omega)
      obtain ⟨c5, h5⟩ := hfield 4 (by omega)
      obtain ⟨c6, h6⟩ := hfield 5 (by omega)
      obtain ⟨c7, h7⟩ := hfield 6 (by omega)
      obtain ⟨c8, h8⟩ := hfield 7 (by omega)
      obtain ⟨c9, h9⟩ := hfield 8 (by omega)
      refine ⟨⟨c1, c2, c3, c4, c5, c6, c7, c8, c9⟩, fun j hj => ?_⟩
      match j, hj with
      | 0, _ => exact h1
      | 1, _ => exact h2
      | 2, _ => exact h3
      | 3, _ => exact h4
      | 4, _ => exact h5
      | 5, _ => exact h6
      | 6, _ => exact h7
      | 7, _ => exact h8
      | 8, _ => exact h9
    obtain ⟨cs, hlen, hcs⟩ := list_of (default : CarD) (fun i c => ∀ j, j < 9 → w.cell? (a.add (i * 9 + j)) = some (.int .i64 (c.vals.getD j 0))) len hone
    refine ⟨some a, cap, cs, by rw [hlen], ?_, by unfold maxLen at hm; omega⟩
    rcases Nat.eq_zero_or_pos len with h0 | h0
    · exact .inl (List.eq_nil_of_length_eq_zero (by omega))
    · obtain ⟨b, off, spot⟩ := a
      have hfirst := hcs 0 h0 0 (by omega)
      have hsp : spot = none := by
        cases spot with
        | none => rfl
        | some s =>
          simp only [Nat.zero_mul, Nat.add_zero, Addr.add, if_true] at hfirst
          unfold World.cell? at hfirst
          split at hfirst <;> simp at hfirst
      subst hsp
      refine .inr ⟨b, off, rfl, ?_, fun i hil j hj => ?_⟩
      · have := World.block_lt_of_cell? w _ hfirst
        simpa [Addr.add] using this
      · have := hcs i (by omega) j hj
        have hadd : (⟨b, off, none⟩ : Addr).add (i * 9 + j) = ⟨b, off + i * 9 + j, none⟩ := by unfold Addr.add; split <;> simp_all; omega
        rw [← hadd]
        exact this

theorem trod_float_bits {fuel : Nat} {v : Value} {x : DataW H × List MemPlace} (h : DataW.trod enc Try.prog w base spare held fuel 22 [v] = some x) : ∃ b, v = .float .f64 b := by
  cases fuel with
  | zero => simp [DataW.trod] at h
  | succ n =>
    simp only [DataW.trod, Try.underlying22] at h
    split at h <;> simp_all

set_option maxRecDepth 100000 in
theorem open_building {r : Reach} {b0 : Nat} {v : Value} {d : DataW H} {p : List MemPlace} (hv : Value.okWide Try.prog w r b0 25 v) (h : DataW.Trod enc Try.prog w base spare held 25 v d p) :
    ∃ (b : BldD) (A : Option Addr) (cap : Nat), v = b.agg A cap ∧ CarsAt w w.heap.size A b.cars ∧ b.cars.length ≤ 9223372036854775807 := by
  obtain ⟨cs, rfl, hsz⟩ := okWide_struct Try.underlying25 hv
  obtain ⟨l⟩ := cs
  have hC : Try.prog.cellsOf 25 = 8 := by kernel_rfl
  match l, hsz.trans hC with
  | [c0, c1, c2, c3, c4, c5, c6, c7], _ =>
    obtain ⟨fuel, hf⟩ := h
    obtain ⟨xs, n, _, hx, _, hlen, hg⟩ := DataW.trod_struct Try.underlying25 hf
    have hki : Try.prog.cellsOf 3 = 1 := by kernel_rfl
    have hkf : Try.prog.cellsOf 22 = 1 := by kernel_rfl
    have hks : Try.prog.cellsOf 23 = 1 := by kernel_rfl
    have hyl : xs.length = 8 := by rw [hlen]; rfl
    have at_ : ∀ j, j < 8 → ∃ y, xs[j]? = some y := fun j hj => ⟨_, List.getElem?_eq_getElem (by omega)⟩
    obtain ⟨y0, e0⟩ := at_ 0 (by omega)
    obtain ⟨y1, e1⟩ := at_ 1 (by omega)
    obtain ⟨y2, e2⟩ := at_ 2 (by omega)
    obtain ⟨y3, e3⟩ := at_ 3 (by omega)
    obtain ⟨y4, e4⟩ := at_ 4 (by omega)
    obtain ⟨y5, e5⟩ := at_ 5 (by omega)
    obtain ⟨y6, e6⟩ := at_ 6 (by omega)
    obtain ⟨y7, e7⟩ := at_ 7 (by omega)
    have i0 := (hg 0 _ rfl).trans e0
    have i1 := (hg 1 _ rfl).trans e1
    have i2 := (hg 2 _ rfl).trans e2
    have i3 := (hg 3 _ rfl).trans e3
    have i4 := (hg 4 _ rfl).trans e4
    have i5 := (hg 5 _ rfl).trans e5
    have i6 := (hg 6 _ rfl).trans e6
    have i7 := (hg 7 _ rfl).trans e7
    simp [Value.cells, hki, hkf, hks] at i0 i1 i2 i3 i4 i5 i6 i7
    obtain ⟨z0, a0, _⟩ := DataW.trod_int Try.underlying3 i0
    obtain ⟨z1, a1, _⟩ := DataW.trod_int Try.underlying3 i1
    obtain ⟨z2, a2, _⟩ := DataW.trod_int Try.underlying3 i2
    obtain ⟨z3, a3, _⟩ := DataW.trod_int Try.underlying3 i3
    obtain ⟨z4, a4⟩ := trod_float_bits i4
    obtain ⟨z5, a5⟩ := trod_float_bits i5
    obtain ⟨z6, a6⟩ := trod_float_bits i6
    obtain ⟨A, cap, cars, a7, hcars⟩ := open_cars i7
    simp only [List.cons.injEq, and_true] at a0 a1 a2 a3
    subst a0 a1 a2 a3 a4 a5 a6 a7
    exact ⟨⟨z0, z1, z2, z3, z4, z5, z6, cars⟩, A, cap, rfl, hcars⟩
end
end

section
open Go Go.RowKit Go.ChangeShapes Go.WideShapes Go.Deep Frm

theorem u8_nat {x : Int} (h : (Lit.int .u8 x).wf = true) : ∃ n : Nat, x = (n : Int) ∧ n < 256 := by
  simp [Lit.wf, IntKind.min, IntKind.max, IntKind.bits, IntKind.signed] at h
  exact ⟨x.toNat, by omega, by omega⟩
theorem u32_nat {x : Int} (h : (Lit.int .u32 x).wf = true) : ∃ n : Nat, x = (n : Int) ∧ n < 4294967296 := by
  simp [Lit.wf, IntKind.min, IntKind.max, IntKind.bits, IntKind.signed] at h
  exact ⟨x.toNat, by omega, by omega⟩
theorem i64_in64 {x : Int} (h : (Lit.int .i64 x).wf = true) : In64 x := by
  simp [Lit.wf, IntKind.min, IntKind.max, IntKind.bits, IntKind.signed] at h
  unfold In64; omega
theorem list_ofCt {α : Type} (P : Nat → α → Prop) : ∀ n : Nat, (∀ i, i < n → ∃ c, P i c) → ∃ l : List α, l.length = n ∧ ∀ i (h : i < l.length), P i l[i]
  | 0, _ => ⟨[], rfl, fun i hi => absurd hi (by simp)⟩
  | n + 1, h => by
    obtain ⟨l, hl, hp⟩ := list_ofCt P n (fun i hi => h i (by omega))
    obtain ⟨c, hc⟩ := h n (by omega)
    refine ⟨l ++ [c], by simp [hl], fun i hi => ?_⟩
    rcases Nat.lt_or_ge i l.length with hlt | hge
    · rw [List.getElem_append_left hlt]; exact hp i hlt
    · have : i = n := by simp at hi; omega
      subst this
      rw [List.getElem_append_right hge]
      simpa [hl] using hc

section
variable {H : Type} {enc : TypeId × Value → H} {w : World} {base : Nat} {spare : Nat → Bool} {held : Bool}
theorem trod_float_wf {fuel : Nat} {cs : List Value} {x : DataW H × List MemPlace} (hc : cs.length = 1) (h : DataW.trod enc Try.prog w base spare held fuel 22 cs = some x) : ∃ b, cs = [.float .f64 b] ∧ b < 18446744073709551616 := by
  match cs, hc with
  | [v], _ =>
    cases fuel with
    | zero => simp [DataW.trod] at h
    | succ n =>
      cases v with
      | float k b =>
        simp only [DataW.trod, Try.underlying22] at h
        split at h
        · rename_i hh
          obtain ⟨rfl, hw⟩ := hh
          exact ⟨b, rfl, by simpa [Lit.wf] using hw⟩
        · cases h
      | _ => simp [DataW.trod, Try.underlying22] at h
set_option maxRecDepth 100000 in
theorem trod_contacts {fuel : Nat} {cs : List Value} {x : DataW H × List MemPlace} (h : DataW.trod enc Try.prog w base spare held fuel 67 cs = some x) : ∃ (a : Nat) (b c d e : Bool), cs = [.int .u32 a, .bool b, .bool c, .bool d, .bool e] ∧ a < 4294967296 := by
  obtain ⟨xs, n, _, _, hlen, hxl, hg⟩ := DataW.trod_struct Try.underlying67 h
  have hC : Try.prog.cellsOf 67 = 5 := by kernel_rfl
  have hkbool : Try.prog.cellsOf 4 = 1 := by kernel_rfl
  have hkuint32 : Try.prog.cellsOf 26 = 1 := by kernel_rfl
  rw [hC] at hlen
  match cs, hlen with
  | [c0, c1, c2, c3, c4], _ =>
    have hyl : xs.length = 5 := by rw [hxl]; rfl
    have i0 := (hg 0 _ rfl).trans (List.getElem?_eq_getElem (by omega : 0 < xs.length))
    have i1 := (hg 1 _ rfl).trans (List.getElem?_eq_getElem (by omega : 1 < xs.length))
    have i2 := (hg 2 _ rfl).trans (List.getElem?_eq_getElem (by omega : 2 < xs.length))
    have i3 := (hg 3 _ rfl).trans (List.getElem?_eq_getElem (by omega : 3 < xs.length))
    have i4 := (hg 4 _ rfl).trans (List.getElem?_eq_getElem (by omega : 4 < xs.length))
    simp [hkbool, hkuint32] at i0 i1 i2 i3 i4
    obtain ⟨z0, a0, _, wf0⟩ := DataW.trod_int Try.underlying26 i0
    obtain ⟨z1, a1, _⟩ := DataW.trod_bool Try.underlying4 i1
    obtain ⟨z2, a2, _⟩ := DataW.trod_bool Try.underlying4 i2
    obtain ⟨z3, a3, _⟩ := DataW.trod_bool Try.underlying4 i3
    obtain ⟨z4, a4, _⟩ := DataW.trod_bool Try.underlying4 i4
    simp only [List.cons.injEq, and_true] at a0 a1 a2 a3 a4
    subst a0 a1 a2 a3 a4
    obtain ⟨n0, rfl, h0⟩ := u32_nat wf0
    exact ⟨n0, z1, z2, z3, z4, rfl, h0⟩
set_option maxRecDepth 100000 in
theorem trod_feedback {fuel : Nat} {cs : List Value} {x : DataW H × List MemPlace} (h : DataW.trod enc Try.prog w base spare held fuel 69 cs = some x) : ∃ (a : Int) (b : Bool) (c : Int) (d : Bool), cs = [.int .i64 a, .bool b, .int .i64 c, .bool d] ∧ In64 a ∧ In64 c := by
  obtain ⟨xs, n, _, _, hlen, hxl, hg⟩ := DataW.trod_struct Try.underlying69 h
  have hC : Try.prog.cellsOf 69 = 4 := by kernel_rfl
  have hkbool : Try.prog.cellsOf 4 = 1 := by kernel_rfl
  have hkint : Try.prog.cellsOf 3 = 1 := by kernel_rfl
  rw [hC] at hlen
  match cs, hlen with
  | [c0, c1, c2, c3], _ =>
    have hyl : xs.length = 4 := by rw [hxl]; rfl
    have i0 := (hg 0 _ rfl).trans (List.getElem?_eq_getElem (by omega : 0 < xs.length))
    have i1 := (hg 1 _ rfl).trans (List.getElem?_eq_getElem (by omega : 1 < xs.length))
    have i2 := (hg 2 _ rfl).trans (List.getElem?_eq_getElem (by omega : 2 < xs.length))
    have i3 := (hg 3 _ rfl).trans (List.getElem?_eq_getElem (by omega : 3 < xs.length))
    simp [hkbool, hkint] at i0 i1 i2 i3
    obtain ⟨z0, a0, _, wf0⟩ := DataW.trod_int Try.underlying3 i0
    obtain ⟨z1, a1, _⟩ := DataW.trod_bool Try.underlying4 i1
    obtain ⟨z2, a2, _, wf2⟩ := DataW.trod_int Try.underlying3 i2
    obtain ⟨z3, a3, _⟩ := DataW.trod_bool Try.underlying4 i3
    simp only [List.cons.injEq, and_true] at a0 a1 a2 a3
    subst a0 a1 a2 a3
    have h0 := i64_in64 wf0
    have h2 := i64_in64 wf2
    exact ⟨z0, z1, z2, z3, rfl, h0, h2⟩
set_option maxRecDepth 100000 in
theorem trod_calls {fuel : Nat} {cs : List Value} {x : DataW H × List MemPlace} (h : DataW.trod enc Try.prog w base spare held fuel 28 cs = some x) : ∃ (a b : Nat), cs = [.int .u32 a, .int .u32 b] ∧ a < 4294967296 ∧ b < 4294967296 := by
  obtain ⟨xs, n, _, _, hlen, hxl, hg⟩ := DataW.trod_struct Try.underlying28 h
  have hC : Try.prog.cellsOf 28 = 2 := by kernel_rfl
  have hkuint32 : Try.prog.cellsOf 26 = 1 := by kernel_rfl
  rw [hC] at hlen
  match cs, hlen with
  | [c0, c1], _ =>
    have hyl : xs.length = 2 := by rw [hxl]; rfl
    have i0 := (hg 0 _ rfl).trans (List.getElem?_eq_getElem (by omega : 0 < xs.length))
    have i1 := (hg 1 _ rfl).trans (List.getElem?_eq_getElem (by omega : 1 < xs.length))
    simp [hkuint32] at i0 i1
    obtain ⟨z0, a0, _, wf0⟩ := DataW.trod_int Try.underlying26 i0
    obtain ⟨z1, a1, _, wf1⟩ := DataW.trod_int Try.underlying26 i1
    simp only [List.cons.injEq, and_true] at a0 a1
    subst a0 a1
    obtain ⟨n0, rfl, h0⟩ := u32_nat wf0
    obtain ⟨n1, rfl, h1⟩ := u32_nat wf1
    exact ⟨n0, n1, rfl, h0, h1⟩
set_option maxRecDepth 100000 in
theorem trod_command {fuel : Nat} {cs : List Value} {x : DataW H × List MemPlace} (h : DataW.trod enc Try.prog w base spare held fuel 30 cs = some x) : ∃ (a b : Int), cs = [.int .i64 a, .int .i64 b] ∧ In64 a ∧ In64 b := by
  obtain ⟨xs, n, _, _, hlen, hxl, hg⟩ := DataW.trod_struct Try.underlying30 h
  have hC : Try.prog.cellsOf 30 = 2 := by kernel_rfl
  have hkint : Try.prog.cellsOf 3 = 1 := by kernel_rfl
  rw [hC] at hlen
  match cs, hlen with
  | [c0, c1], _ =>
    have hyl : xs.length = 2 := by rw [hxl]; rfl
    have i0 := (hg 0 _ rfl).trans (List.getElem?_eq_getElem (by omega : 0 < xs.length))
    have i1 := (hg 1 _ rfl).trans (List.getElem?_eq_getElem (by omega : 1 < xs.length))
    simp [hkint] at i0 i1
    obtain ⟨z0, a0, _, wf0⟩ := DataW.trod_int Try.underlying3 i0
    obtain ⟨z1, a1, _, wf1⟩ := DataW.trod_int Try.underlying3 i1
    simp only [List.cons.injEq, and_true] at a0 a1
    subst a0 a1
    have h0 := i64_in64 wf0
    have h1 := i64_in64 wf1
    exact ⟨z0, z1, rfl, h0, h1⟩
theorem list11 (l : List Value) (h : l.length = 11) : ∃ c0 c1 c2 c3 c4 c5 c6 c7 c8 c9 c10, l = [c0, c1, c2, c3, c4, c5, c6, c7, c8, c9, c10] := by
  match l, h with
  | [c0, c1, c2, c3, c4, c5, c6, c7, c8, c9, c10], _ => exact ⟨c0, c1, c2, c3, c4, c5, c6, c7, c8, c9, c10, rfl⟩
set_option maxRecDepth 100000 in
theorem trod_carin {fuel : Nat} {cs : List Value} {x : DataW H × List MemPlace} (h : DataW.trod enc Try.prog w base spare held fuel 71 cs = some x) : ∃ c : CarIn, cs = carV c ∧ saneCar c := by
  obtain ⟨xs, n, _, _, hlen, hxl, hg⟩ := DataW.trod_struct Try.underlying71 h
  have hC : Try.prog.cellsOf 71 = 11 := by kernel_rfl
  have hk1 : Try.prog.cellsOf 67 = 5 := by kernel_rfl
  have hk2 : Try.prog.cellsOf 69 = 4 := by kernel_rfl
  have hk3 : Try.prog.cellsOf 26 = 1 := by kernel_rfl
  have hk4 : Try.prog.cellsOf 22 = 1 := by kernel_rfl
  rw [hC] at hlen
  obtain ⟨c0, c1, c2, c3, c4, c5, c6, c7, c8, c9, c10, rfl⟩ := list11 cs hlen
  have hyl : xs.length = 4 := by rw [hxl]; rfl
  have i0 := (hg 0 _ rfl).trans (List.getElem?_eq_getElem (by omega : 0 < xs.length))
  have i1 := (hg 1 _ rfl).trans (List.getElem?_eq_getElem (by omega : 1 < xs.length))
  have i2 := (hg 2 _ rfl).trans (List.getElem?_eq_getElem (by omega : 2 < xs.length))
  have i3 := (hg 3 _ rfl).trans (List.getElem?_eq_getElem (by omega : 3 < xs.length))
  simp [hk1, hk2, hk3, hk4] at i0 i1 i2 i3
  obtain ⟨a, b, c, d, e, e0, ha⟩ := trod_contacts i0
  obtain ⟨f, g, i, j, e1, hf, hi⟩ := trod_feedback i1
  obtain ⟨z2, e2, _, wf2⟩ := DataW.trod_int Try.underlying26 i2
  obtain ⟨l, e3, hl⟩ := trod_float_wf rfl i3
  simp only [List.cons.injEq, and_true] at e0 e1 e2 e3
  obtain ⟨rfl, rfl, rfl, rfl, rfl⟩ := e0
  obtain ⟨rfl, rfl, rfl, rfl⟩ := e1
  subst e2 e3
  obtain ⟨m, rfl, hm⟩ := u32_nat wf2
  exact ⟨⟨a, b, c, d, e, f, g, i, j, m, l⟩, rfl, ha, hm, hl, hf, hi⟩
set_option maxRecDepth 100000 in
theorem open_carins {fuel : Nat} {v : Value} {x : DataW H × List MemPlace} (h : DataW.trod enc Try.prog w base spare held fuel 31 [v] = some x) : ∃ (A : Option Addr) (cap : Nat) (l : List CarIn), v = .slice A l.length cap ∧ CarsV w A l ∧ (∀ c ∈ l, saneCar c) ∧ l.length ≤ maxLen := by
  rcases open_slice Try.underlying31 h with ⟨hcs, _⟩ | ⟨a, len, cap, m, n, D, Pl, hcs, _, hl, hm, hmm, _, hi⟩
  · simp only [List.cons.injEq, and_true] at hcs
    exact ⟨none, 0, [], hcs, .inl rfl, by simp, by simp [maxLen]⟩
  · simp only [List.cons.injEq, and_true] at hcs
    subst hcs
    have hC : Try.prog.cellsOf 71 = 11 := by kernel_rfl
    have hml : len ≤ m := by rw [hmm]; split <;> omega
    obtain ⟨l, hll, hp⟩ := list_ofCt (fun i (c : CarIn) => saneCar c ∧ ∀ j v, (carV c)[j]? = some v → w.cell? (a.add (i * 11 + j)) = some v) len (fun i hil => by
      obtain ⟨cs', hc, ht⟩ := hi i (by omega)
      rw [hC] at hc
      obtain ⟨c, hcc, hok⟩ := trod_carin ht
      obtain ⟨_, hcl, hat⟩ := World.cells?_some hc
      refine ⟨c, hok, fun j v hv => ?_⟩
      have hj : j < 11 := by
        rcases Nat.lt_or_ge j 11 with h | h
        · exact h
        · rw [List.getElem?_eq_none (by show 11 ≤ j; exact h)] at hv; cases hv
      rw [← Go.Deep.add_add, hat j hj, hcc]; exact hv)
    refine ⟨some a, cap, l, by rw [hll], ?_, fun c hc => ?_, by omega⟩
    · rcases Nat.eq_zero_or_pos len with h0 | h0
      · exact .inl (List.eq_nil_of_length_eq_zero (by omega))
      · obtain ⟨b, off, spot⟩ := a
        have hfirst := (hp 0 (by omega)).2 0 _ rfl
        have hsp : spot = none := by
          cases spot with
          | none => rfl
          | some s =>
            simp only [Nat.zero_mul, Nat.add_zero, Addr.add, if_true] at hfirst
            unfold World.cell? at hfirst
            split at hfirst <;> simp at hfirst
        subst hsp
        refine .inr ⟨b, off, rfl, fun i hi j v hv => ?_⟩
        have := (hp i hi).2 j v hv
        have hadd : (⟨b, off, none⟩ : Addr).add (i * 11 + j) = ⟨b, off + i * 11 + j, none⟩ := by unfold Addr.add; split <;> simp_all; omega
        rw [← hadd]
        exact this
    · obtain ⟨i, hi', rfl⟩ := List.getElem_of_mem hc
      exact (hp i hi').1
set_option maxRecDepth 100000 in
theorem open_inputs {r : Reach} {b0 : Nat} {v : Value} {d : DataW H} {p : List MemPlace} (hv : Value.okWide Try.prog w r b0 33 v) (h : DataW.Trod enc Try.prog w base spare held 33 v d p) :
    ∃ (y : In) (A : Option Addr) (cp : Nat), v = inAgg y A cp ∧ saneIn y ∧ CarsV w A y.cars ∧ y.cars.length ≤ maxLen := by
  obtain ⟨cs, rfl, hsz⟩ := okWide_struct Try.underlying33 hv
  obtain ⟨l⟩ := cs
  have hC : Try.prog.cellsOf 33 = 5 := by kernel_rfl
  have hk1 : Try.prog.cellsOf 28 = 2 := by kernel_rfl
  have hk2 : Try.prog.cellsOf 30 = 2 := by kernel_rfl
  have hk3 : Try.prog.cellsOf 31 = 1 := by kernel_rfl
  match l, hsz.trans hC with
  | [c0, c1, c2, c3, c4], _ =>
    obtain ⟨fuel, hf⟩ := h
    obtain ⟨xs, n, _, hx, _, hlen, hg⟩ := DataW.trod_struct Try.underlying33 hf
    have hyl : xs.length = 3 := by rw [hlen]; rfl
    have i0 := (hg 0 _ rfl).trans (List.getElem?_eq_getElem (by omega : 0 < xs.length))
    have i1 := (hg 1 _ rfl).trans (List.getElem?_eq_getElem (by omega : 1 < xs.length))
    have i2 := (hg 2 _ rfl).trans (List.getElem?_eq_getElem (by omega : 2 < xs.length))
    simp [Value.cells, hk1, hk2, hk3] at i0 i1 i2
    obtain ⟨a, b, e0, ha, hb⟩ := trod_calls i0
    obtain ⟨c, d, e1, hc, hd⟩ := trod_command i1
    obtain ⟨A, cap, l, e2, hcv, hsn, hml⟩ := open_carins i2
    simp only [List.cons.injEq, and_true] at e0 e1
    obtain ⟨rfl, rfl⟩ := e0
    obtain ⟨rfl, rfl⟩ := e1
    subst e2
    exact ⟨⟨a, b, c, d, l⟩, A, cap, rfl, ⟨ha, hb, hc, hd, hsn⟩, hcv, hml⟩
end
end

section
open Go Go.RowKit Frm Go.ChangeShapes Go.WideShapes Go.ChangeAt

theorem blk2 (w : World) (A B : Obj) : ((w.alloc A).alloc B).heap[w.heap.size]? = some A ∧ ((w.alloc A).alloc B).heap[w.heap.size + 1]? = some B := by
  have s1 : (w.alloc A).heap.size = w.heap.size + 1 := by simp
  refine ⟨?_, ?_⟩
  · rw [Below.heap_alloc _ _ _ (by omega), heap_alloc_new]
  · rw [← s1, heap_alloc_new]
theorem inRes_parts (x : BldD) (y : In) : ∃ (S : ByteArray) (c : Int), inRes x y = .tuple #[.string S, .int .i64 c] := by
  unfold inRes
  split
  · exact ⟨_, _, rfl⟩
  · exact ⟨_, _, rfl⟩

set_option linter.unusedVariables false
set_option linter.unusedSimpArgs false
set_option maxRecDepth 100000 in
set_option maxHeartbeats 8000000 in
theorem lawFrameInputs_walk (n : Int) (rb : BldD) (RA : Option Addr) (rcap : Nat) (y : In) (A' : Option Addr) (cp : Nat) (w : World) (hn : (Lit.int .u8 n).wf = true) (hrc : CarsAt w w.heap.size RA rb.cars) (_ : rb.cars.length ≤ 9223372036854775807) (hy : saneIn y) (hv : CarsV w A' y.cars) (hml : y.cars.length ≤ maxLen) :
    Calls Try.prog 3 #[.int .u8 n, rb.agg RA rcap, inAgg y A' cp] w fun e w' => e = .returned (.bool true) ∧ Below w.heap.size w w' := by
  obtain ⟨m, rfl, hm⟩ := u8_nat hn
  clear hn
  unfold maxLen at hml
  have FS := Lib.hid (fun w => frameSane_any w)
  have HRC := Lib.hid hrc
  have HV := Lib.hid hv
  have HY := Lib.hid hy
  clear hrc hv hy
  obtain ⟨F, hF1, hF2, hFF⟩ : ∃ F : Nat, 2 ≤ F ∧ F ≤ 32 ∧ F = 2 + m % 31 := ⟨_, by omega, by omega, rfl⟩
  obtain ⟨C, hC1, hC2, hCC⟩ : ∃ C : Nat, 1 ≤ C ∧ C ≤ 8 ∧ C = 1 + m / 31 % 8 := ⟨_, by omega, by omega, rfl⟩
  have FBU := Lib.hid (fun w => building_any m w hm)
  rw [← hFF, ← hCC] at FBU
  clear hFF hCC
  have hV := sample_valid (F : Int) C (by omega) (by omega) hC1 hC2
  have hcl : (sampleD (F : Int) C).cars.length = C := sampleCars_length _ _
  by_cases h20 : 20 < y.cars.length
  · clear FBU
    obtain ⟨pu, pd, kind, car, ys⟩ := y
    obtain ⟨rf, rd, rr, rp, r1, r2, r3, rcs⟩ := rb
    simp only [BldD.agg, inAgg] at *
    go_enter Try.func3, Try.ntmps3
    go_wp2_with fail
    refine (FS.out _).mono ?_
    rintro e w2 ⟨rfl, hb⟩
    have HB := Lib.hid hb
    clear hb
    go_wp2_with fail
    go_ret
    exact ⟨rfl, (((Below.refl _ w).alloc (Nat.le_refl _) _).alloc (by simp) _).trans (HB.out.mono (by simp; omega))⟩
  by_cases hr20 : 20 < rb.cars.length
  · clear FBU
    obtain ⟨pu, pd, kind, car, ys⟩ := y
    obtain ⟨rf, rd, rr, rp, r1, r2, r3, rcs⟩ := rb
    simp only [BldD.agg, inAgg] at *
    have hd1 : decide (20 < (ys.length : Int)) = false := decide_eq_false (by omega)
    go_enter Try.func3, Try.ntmps3
    go_wp2_with fail
    refine (FS.out _).mono ?_
    rintro e w2 ⟨rfl, hb⟩
    have HB := Lib.hid hb
    clear hb
    go_wp2_with fail
    go_ret
    exact ⟨rfl, (((Below.refl _ w).alloc (Nat.le_refl _) _).alloc (by simp) _).trans (HB.out.mono (by simp; omega))⟩
  have hfok := fitIn_ok F C y hF1 hF2 hC1 hC2
  have hfsn := fitIn_sane F C y HY.out hF1 hF2 hC1 hC2
  have hfl : (fitIn F C y).cars.length = C := by show (fitCars F C y.cars).length = C; rw [fitCars_pad, List.length_map, padCars_length]
  have FFT := Lib.hid (fun A cap w (h : CarsV w A' y.cars) => fitted_any F C (sampleD (F : Int) C) A cap y A' cp w hF1 hF2 hC1 hC2 rfl hcl HY.out (by omega) h)
  have FIN := Lib.hid (fun A cap A2 cp2 wx (hc : CarsAt wx wx.heap.size A (sampleD (F : Int) C).cars) (hv : CarsV wx A2 (fitIn F C y).cars) => in_res (sampleD (F : Int) C) A cap (fitIn F C y) A2 cp2 wx (by omega) hc (by omega) hfsn hv)
  have FRI := Lib.hid (fun A cap A2 cp2 wx (hc : CarsAt wx wx.heap.size A (sampleD (F : Int) C).cars) (hv : CarsV wx A2 (fitIn F C y).cars) => refIn_res (sampleD (F : Int) C) A cap (fitIn F C y) A2 cp2 wx (by omega) hc (by omega) hfsn hv)
  have hres : inRes (sampleD (F : Int) C) (fitIn F C y) = .tuple #[.string ⟨(inText (sampleD (F : Int) C) (fitIn F C y)).toArray⟩, .int .i64 0] := by unfold inRes; rw [if_pos hfok]
  rw [hres] at FIN FRI
  have hok := (isIn_iff _ _).1 hfok
  obtain ⟨ho1, ho2, ho3⟩ := frame_read hfsn hok
  have hno := fun code => ReadE_no (code := code) ho1 ho2
  have hsl : (⟨(inText (sampleD (F : Int) C) (fitIn F C y)).toArray⟩ : ByteArray).size ≤ maxLen := by
    have h := ho1.2.1
    unfold maxLen; omega
  have FRD := Lib.hid (fun A cap wx (hc : CarsAt wx wx.heap.size A (sampleD (F : Int) C).cars) => readInTop_any (sampleD (F : Int) C) A cap ⟨(inText (sampleD (F : Int) C) (fitIn F C y)).toArray⟩ wx (by omega) hc hsl)
  rw [ho3] at FRD
  have FI2 := Lib.hid (fun A cap wx (hc : CarsAt wx wx.heap.size A (sampleD (F : Int) C).cars) (hv : CarsV wx A' y.cars) => in_res (sampleD (F : Int) C) A cap y A' cp wx (by omega) hc (by omega) HY.out hv)
  have FR2 := Lib.hid (fun A cap wx (hc : CarsAt wx wx.heap.size A (sampleD (F : Int) C).cars) (hv : CarsV wx A' y.cars) => refIn_res (sampleD (F : Int) C) A cap y A' cp wx (by omega) hc (by omega) HY.out hv)
  have FI3 := Lib.hid (fun wx (hc : CarsAt wx wx.heap.size RA rb.cars) (hv : CarsV wx A' y.cars) => in_res rb RA rcap y A' cp wx (by omega) hc (by omega) HY.out hv)
  have FR3 := Lib.hid (fun wx (hc : CarsAt wx wx.heap.size RA rb.cars) (hv : CarsV wx A' y.cars) => refIn_res rb RA rcap y A' cp wx (by omega) hc (by omega) HY.out hv)
  have FSA := Lib.hid (fun A2 A3 cp2 cp3 wx (h1 : CarsV wx A2 (fitIn F C y).cars) (h2 : CarsV wx A3 (fitIn F C y).cars) => sameIn_any (fitIn F C y) A2 A3 cp2 cp3 wx (by omega) h1 h2)
  obtain ⟨S2, k2, hS2⟩ := inRes_parts (sampleD (F : Int) C) y
  obtain ⟨S3, k3, hS3⟩ := inRes_parts rb y
  rw [hS2] at FI2 FR2
  rw [hS3] at FI3 FR3
  clear hS2 hS3 hres ho3 hok hfok hfsn hsl
  have HNO := Lib.hid hno
  clear hno ho1 ho2 hV
  have hsc : (sampleD (F : Int) C).cars = sampleCars (F : Int) C := rfl
  rw [← hsc] at FBU
  clear hsc
  generalize (⟨(inText (sampleD (F : Int) C) (fitIn F C y)).toArray⟩ : ByteArray) = S1 at *
  generalize hx : sampleD (F : Int) C = x at *
  generalize fitIn F C y = fy at *
  clear hx
  obtain ⟨f, d, r, p, e1, e2, e3, cs⟩ := x
  obtain ⟨pu, pd, kind, car, ys⟩ := y
  obtain ⟨rf, rd, rr, rp, r1, r2, r3, rcs⟩ := rb
  obtain ⟨qu, qd, qk, qc, qs⟩ := fy
  simp only [BldD.agg, inAgg] at FBU FFT FIN FRI FRD FI2 FR2 FI3 FR3 FSA hcl hfl h20 hr20 HRC HV ⊢
  have HCL := Lib.hid (And.intro hcl hfl)
  clear hcl hfl
  have hd1 : decide (20 < (ys.length : Int)) = false := decide_eq_false (by omega)
  have hd2 : decide (20 < (rcs.length : Int)) = false := decide_eq_false (by omega)
  go_enter Try.func3, Try.ntmps3
  go_wp2_with fail
  refine (FBU.out _).mono ?_
  rintro e w1 ⟨hb1, A, cap, rfl, hcars⟩
  have hsz0 : ((w.alloc (.cells #[.int .i64 rf, .int .i64 rd, .int .i64 rr, .int .i64 rp, .float .f64 r1, .float .f64 r2, .float .f64 r3, .slice RA rcs.length rcap] 25)).alloc (.cells #[.int .u32 (pu : Int), .int .u32 (pd : Int), .int .i64 kind, .int .i64 car, .slice A' ys.length cp] 33)).heap.size = w.heap.size + 2 := by simp
  have hsz1 : w.heap.size + 2 ≤ w1.heap.size := by have := hb1.size; omega
  have R1 := Lib.hid ((hb1.block w.heap.size (by omega)).trans (blk2 w (.cells #[.int .i64 rf, .int .i64 rd, .int .i64 rr, .int .i64 rp, .float .f64 r1, .float .f64 r2, .float .f64 r3, .slice RA rcs.length rcap] 25) (.cells #[.int .u32 (pu : Int), .int .u32 (pd : Int), .int .i64 kind, .int .i64 car, .slice A' ys.length cp] 33)).1)
  have Y1 := Lib.hid ((hb1.block (w.heap.size + 1) (by omega)).trans (blk2 w (.cells #[.int .i64 rf, .int .i64 rd, .int .i64 rr, .int .i64 rp, .float .f64 r1, .float .f64 r2, .float .f64 r3, .slice RA rcs.length rcap] 25) (.cells #[.int .u32 (pu : Int), .int .u32 (pd : Int), .int .i64 kind, .int .i64 car, .slice A' ys.length cp] 33)).2)
  have HB1 := Lib.hid ((((Below.refl _ w).alloc (Nat.le_refl _) (.cells #[.int .i64 rf, .int .i64 rd, .int .i64 rr, .int .i64 rp, .float .f64 r1, .float .f64 r2, .float .f64 r3, .slice RA rcs.length rcap] 25)).alloc (by simp) (.cells #[.int .u32 (pu : Int), .int .u32 (pd : Int), .int .i64 kind, .int .i64 car, .slice A' ys.length cp] 33)).trans (hb1.mono (by omega)))
  have HC := Lib.hid hcars
  clear hb1 hcars hsz0
  have l0 : w.heap.size < w1.heap.size := by omega
  have l1 : w.heap.size + 1 < w1.heap.size := by omega
  have n0 : ¬ w.heap.size = w1.heap.size := by omega
  have n1 : ¬ w.heap.size + 1 = w1.heap.size := by omega
  have yy0 := cell_of_row _ _ 0 _ _ (0, 0) Y1.out
  have yy1 := cell_of_row _ _ 1 _ _ (0, 0) Y1.out
  have yy2 := cell_of_row _ _ 2 _ _ (0, 0) Y1.out
  have yy3 := cell_of_row _ _ 3 _ _ (0, 0) Y1.out
  have yy4 := cell_of_row _ _ 4 _ _ (0, 0) Y1.out
  simp only [List.getElem?_toArray, List.getElem?_cons_zero, List.getElem?_cons_succ] at yy0 yy1 yy2 yy3 yy4
  go_wp2_with fail
  have HBW1 := Lib.hid (HB1.out.alloc HB1.out.size (.cells #[.int .i64 f, .int .i64 d, .int .i64 r, .int .i64 p, .float .f64 e1, .float .f64 e2, .float .f64 e3, .slice A cs.length cap] 25))
  refine (FFT.out A cap _ (HV.out.below HBW1.out)).mono ?_
  rintro e w2 ⟨hb2, A2, cp2, rfl, hcv2⟩
  clear yy0 yy1 yy2 yy3 yy4
  have hs1 : (w1.alloc (.cells #[.int .i64 f, .int .i64 d, .int .i64 r, .int .i64 p, .float .f64 e1, .float .f64 e2, .float .f64 e3, .slice A cs.length cap] 25)).heap.size = w1.heap.size + 1 := by simp
  have hsz2 : w1.heap.size + 1 ≤ w2.heap.size := by have := hb2.size; omega
  have R2 := Lib.hid (((hb2.block w.heap.size (by omega)).trans (Below.heap_alloc w1 _ _ l0)).trans R1.out)
  have Y2 := Lib.hid (((hb2.block (w.heap.size + 1) (by omega)).trans (Below.heap_alloc w1 _ _ l1)).trans Y1.out)
  have X2 := Lib.hid ((hb2.block w1.heap.size (by omega)).trans (heap_alloc_new w1 (.cells #[.int .i64 f, .int .i64 d, .int .i64 r, .int .i64 p, .float .f64 e1, .float .f64 e2, .float .f64 e3, .slice A cs.length cap] 25)))
  have HB12 := Lib.hid (((Below.refl w1.heap.size w1).alloc (Nat.le_refl _) (.cells #[.int .i64 f, .int .i64 d, .int .i64 r, .int .i64 p, .float .f64 e1, .float .f64 e2, .float .f64 e3, .slice A cs.length cap] 25)).trans (hb2.mono (by omega)))
  have HCV2 := Lib.hid hcv2
  clear hb2 hcv2 hs1 l0 l1 n0 n1 R1 Y1
  have l2 : w1.heap.size < w2.heap.size := by omega
  have n2 : ¬ w1.heap.size = w2.heap.size := by omega
  have xx0 := cell_of_row _ _ 0 _ _ (0, 0) X2.out
  have xx1 := cell_of_row _ _ 1 _ _ (0, 0) X2.out
  have xx2 := cell_of_row _ _ 2 _ _ (0, 0) X2.out
  have xx3 := cell_of_row _ _ 3 _ _ (0, 0) X2.out
  have xx4 := cell_of_row _ _ 4 _ _ (0, 0) X2.out
  have xx5 := cell_of_row _ _ 5 _ _ (0, 0) X2.out
  have xx6 := cell_of_row _ _ 6 _ _ (0, 0) X2.out
  have xx7 := cell_of_row _ _ 7 _ _ (0, 0) X2.out
  simp only [List.getElem?_toArray, List.getElem?_cons_zero, List.getElem?_cons_succ] at xx0 xx1 xx2 xx3 xx4 xx5 xx6 xx7
  go_wp2_with fail
  have hb22 := (Below.refl w2.heap.size w2).alloc (Nat.le_refl _) (.cells #[.int .u32 (qu : Int), .int .u32 (qd : Int), .int .i64 qk, .int .i64 qc, .slice A2 qs.length cp2] 33)
  have hs2 : (w2.alloc (.cells #[.int .u32 (qu : Int), .int .u32 (qd : Int), .int .i64 qk, .int .i64 qc, .slice A2 qs.length cp2] 33)).heap.size = w2.heap.size + 1 := by simp
  have HC2 := Lib.hid ((HC.out.below (HB12.out.trans (hb22.mono (by omega)))).more (show w1.heap.size ≤ (w2.alloc (.cells #[.int .u32 (qu : Int), .int .u32 (qd : Int), .int .i64 qk, .int .i64 qc, .slice A2 qs.length cp2] 33)).heap.size by rw [hs2]; omega))
  have HV2 := Lib.hid (HCV2.out.below hb22)
  have HW2 := Lib.hid (HB1.out.trans ((HB12.out.trans (hb22.mono (by omega))).mono HB1.out.size))
  have R := Lib.hid ((hb22.block w.heap.size (by omega)).trans R2.out)
  have Y := Lib.hid ((hb22.block (w.heap.size + 1) (by omega)).trans Y2.out)
  have X := Lib.hid ((hb22.block w1.heap.size (by omega)).trans X2.out)
  have Q := Lib.hid (heap_alloc_new w2 (.cells #[.int .u32 (qu : Int), .int .u32 (qd : Int), .int .i64 qk, .int .i64 qc, .slice A2 qs.length cp2] 33))
  clear hb22 l2 n2 R2 Y2 X2 xx0 xx1 xx2 xx3 xx4 xx5 xx6 xx7
  refine (FIN.out A cap A2 cp2 _ HC2.out HV2.out).mono ?_
  rintro e w3 ⟨rfl, hb3⟩
  generalize (w2.alloc (.cells #[.int .u32 (qu : Int), .int .u32 (qd : Int), .int .i64 qk, .int .i64 qc, .slice A2 qs.length cp2] 33)) = WW at *
  have B3 := Lib.hid hb3
  clear hb3
  skip
  have xx0 := cell_of_row _ _ 0 _ _ (0, 0) ((B3.out.block (w1.heap.size) (by omega)).trans X.out)
  have xx1 := cell_of_row _ _ 1 _ _ (0, 0) ((B3.out.block (w1.heap.size) (by omega)).trans X.out)
  have xx2 := cell_of_row _ _ 2 _ _ (0, 0) ((B3.out.block (w1.heap.size) (by omega)).trans X.out)
  have xx3 := cell_of_row _ _ 3 _ _ (0, 0) ((B3.out.block (w1.heap.size) (by omega)).trans X.out)
  have xx4 := cell_of_row _ _ 4 _ _ (0, 0) ((B3.out.block (w1.heap.size) (by omega)).trans X.out)
  have xx5 := cell_of_row _ _ 5 _ _ (0, 0) ((B3.out.block (w1.heap.size) (by omega)).trans X.out)
  have xx6 := cell_of_row _ _ 6 _ _ (0, 0) ((B3.out.block (w1.heap.size) (by omega)).trans X.out)
  have xx7 := cell_of_row _ _ 7 _ _ (0, 0) ((B3.out.block (w1.heap.size) (by omega)).trans X.out)
  simp only [List.getElem?_toArray, List.getElem?_cons_zero, List.getElem?_cons_succ] at xx0 xx1 xx2 xx3 xx4 xx5 xx6 xx7
  have qq0 := cell_of_row _ _ 0 _ _ (0, 0) ((B3.out.block (w2.heap.size) (by omega)).trans Q.out)
  have qq1 := cell_of_row _ _ 1 _ _ (0, 0) ((B3.out.block (w2.heap.size) (by omega)).trans Q.out)
  have qq2 := cell_of_row _ _ 2 _ _ (0, 0) ((B3.out.block (w2.heap.size) (by omega)).trans Q.out)
  have qq3 := cell_of_row _ _ 3 _ _ (0, 0) ((B3.out.block (w2.heap.size) (by omega)).trans Q.out)
  have qq4 := cell_of_row _ _ 4 _ _ (0, 0) ((B3.out.block (w2.heap.size) (by omega)).trans Q.out)
  simp only [List.getElem?_toArray, List.getElem?_cons_zero, List.getElem?_cons_succ] at qq0 qq1 qq2 qq3 qq4
  go_wp2_with fail
  clear xx0 xx1 xx2 xx3 xx4 xx5 xx6 xx7 qq0 qq1 qq2 qq3 qq4
  refine (FRI.out A cap A2 cp2 _ ((HC2.out.below B3.out).more B3.out.size) (HV2.out.below B3.out)).mono ?_
  rintro e w4 ⟨rfl, hb4⟩
  have B4 := Lib.hid (B3.out.trans (hb4.mono B3.out.size))
  clear hb4
  have xx0 := cell_of_row _ _ 0 _ _ (0, 0) ((B4.out.block (w1.heap.size) (by omega)).trans X.out)
  have xx1 := cell_of_row _ _ 1 _ _ (0, 0) ((B4.out.block (w1.heap.size) (by omega)).trans X.out)
  have xx2 := cell_of_row _ _ 2 _ _ (0, 0) ((B4.out.block (w1.heap.size) (by omega)).trans X.out)
  have xx3 := cell_of_row _ _ 3 _ _ (0, 0) ((B4.out.block (w1.heap.size) (by omega)).trans X.out)
  have xx4 := cell_of_row _ _ 4 _ _ (0, 0) ((B4.out.block (w1.heap.size) (by omega)).trans X.out)
  have xx5 := cell_of_row _ _ 5 _ _ (0, 0) ((B4.out.block (w1.heap.size) (by omega)).trans X.out)
  have xx6 := cell_of_row _ _ 6 _ _ (0, 0) ((B4.out.block (w1.heap.size) (by omega)).trans X.out)
  have xx7 := cell_of_row _ _ 7 _ _ (0, 0) ((B4.out.block (w1.heap.size) (by omega)).trans X.out)
  simp only [List.getElem?_toArray, List.getElem?_cons_zero, List.getElem?_cons_succ] at xx0 xx1 xx2 xx3 xx4 xx5 xx6 xx7
  go_wp2_with fail
  clear xx0 xx1 xx2 xx3 xx4 xx5 xx6 xx7
  refine (FRD.out A cap _ ((HC2.out.below B4.out).more B4.out.size)).mono ?_
  rintro e w5 ⟨hb5, ⟨-, -, gz, hcz, rfl⟩ | ⟨code, h, -, rfl⟩⟩
  case inr => exact absurd h (HNO.out code)
  have B5 := Lib.hid (B4.out.trans (hb5.mono B4.out.size))
  have HCZ := Lib.hid hcz
  clear hb5 hcz
  have hs5 := B5.out.size
  have l0 : w.heap.size < w5.heap.size := by omega
  have l1 : w.heap.size + 1 < w5.heap.size := by omega
  have l2 : w1.heap.size < w5.heap.size := by omega
  have n0 : ¬ w.heap.size = w5.heap.size := by omega
  have n1 : ¬ w.heap.size + 1 = w5.heap.size := by omega
  have n2 : ¬ w1.heap.size = w5.heap.size := by omega
  have xx0 := cell_of_row _ _ 0 _ _ (0, 0) ((B5.out.block (w1.heap.size) (by omega)).trans X.out)
  have xx1 := cell_of_row _ _ 1 _ _ (0, 0) ((B5.out.block (w1.heap.size) (by omega)).trans X.out)
  have xx2 := cell_of_row _ _ 2 _ _ (0, 0) ((B5.out.block (w1.heap.size) (by omega)).trans X.out)
  have xx3 := cell_of_row _ _ 3 _ _ (0, 0) ((B5.out.block (w1.heap.size) (by omega)).trans X.out)
  have xx4 := cell_of_row _ _ 4 _ _ (0, 0) ((B5.out.block (w1.heap.size) (by omega)).trans X.out)
  have xx5 := cell_of_row _ _ 5 _ _ (0, 0) ((B5.out.block (w1.heap.size) (by omega)).trans X.out)
  have xx6 := cell_of_row _ _ 6 _ _ (0, 0) ((B5.out.block (w1.heap.size) (by omega)).trans X.out)
  have xx7 := cell_of_row _ _ 7 _ _ (0, 0) ((B5.out.block (w1.heap.size) (by omega)).trans X.out)
  simp only [List.getElem?_toArray, List.getElem?_cons_zero, List.getElem?_cons_succ] at xx0 xx1 xx2 xx3 xx4 xx5 xx6 xx7
  have yy0 := cell_of_row _ _ 0 _ _ (0, 0) ((B5.out.block (w.heap.size + 1) (by omega)).trans Y.out)
  have yy1 := cell_of_row _ _ 1 _ _ (0, 0) ((B5.out.block (w.heap.size + 1) (by omega)).trans Y.out)
  have yy2 := cell_of_row _ _ 2 _ _ (0, 0) ((B5.out.block (w.heap.size + 1) (by omega)).trans Y.out)
  have yy3 := cell_of_row _ _ 3 _ _ (0, 0) ((B5.out.block (w.heap.size + 1) (by omega)).trans Y.out)
  have yy4 := cell_of_row _ _ 4 _ _ (0, 0) ((B5.out.block (w.heap.size + 1) (by omega)).trans Y.out)
  simp only [List.getElem?_toArray, List.getElem?_cons_zero, List.getElem?_cons_succ] at yy0 yy1 yy2 yy3 yy4
  go_wp2_with fail
  clear xx0 xx1 xx2 xx3 xx4 xx5 xx6 xx7 yy0 yy1 yy2 yy3 yy4 l0 l1 l2 n0 n1 n2
  have hb55 := (Below.refl w5.heap.size w5).alloc (Nat.le_refl _) (.cells #[.int .u32 (qu : Int), .int .u32 (qd : Int), .int .i64 qk, .int .i64 qc, .slice (some ⟨gz, 0, none⟩) qs.length cs.length] 33)
  have Z := Lib.hid (heap_alloc_new w5 (.cells #[.int .u32 (qu : Int), .int .u32 (qd : Int), .int .i64 qk, .int .i64 qc, .slice (some ⟨gz, 0, none⟩) qs.length cs.length] 33))
  have hz5 : (w5.alloc (.cells #[.int .u32 (qu : Int), .int .u32 (qd : Int), .int .i64 qk, .int .i64 qc, .slice (some ⟨gz, 0, none⟩) qs.length cs.length] 33)).heap.size = w5.heap.size + 1 := by simp
  have B55 := Lib.hid (B5.out.trans (hb55.mono B5.out.size))
  have HCZ5 := Lib.hid (HCZ.out.below hb55)
  clear hb55
  have HVW := Lib.hid (HV.out.below HW2.out)
  refine (FI2.out A cap _ ((HC2.out.below B55.out).more B55.out.size) (HVW.out.below B55.out)).mono ?_
  rintro e w6 ⟨rfl, hb6⟩
  generalize w5.alloc (.cells #[.int .u32 (qu : Int), .int .u32 (qd : Int), .int .i64 qk, .int .i64 qc, .slice (some ⟨gz, 0, none⟩) qs.length cs.length] 33) = W5 at *
  have B6 := Lib.hid (B55.out.trans (hb6.mono B55.out.size))
  have D6 := Lib.hid hb6
  clear hb6
  have xx0 := cell_of_row _ _ 0 _ _ (0, 0) ((B6.out.block (w1.heap.size) (by omega)).trans X.out)
  have xx1 := cell_of_row _ _ 1 _ _ (0, 0) ((B6.out.block (w1.heap.size) (by omega)).trans X.out)
  have xx2 := cell_of_row _ _ 2 _ _ (0, 0) ((B6.out.block (w1.heap.size) (by omega)).trans X.out)
  have xx3 := cell_of_row _ _ 3 _ _ (0, 0) ((B6.out.block (w1.heap.size) (by omega)).trans X.out)
  have xx4 := cell_of_row _ _ 4 _ _ (0, 0) ((B6.out.block (w1.heap.size) (by omega)).trans X.out)
  have xx5 := cell_of_row _ _ 5 _ _ (0, 0) ((B6.out.block (w1.heap.size) (by omega)).trans X.out)
  have xx6 := cell_of_row _ _ 6 _ _ (0, 0) ((B6.out.block (w1.heap.size) (by omega)).trans X.out)
  have xx7 := cell_of_row _ _ 7 _ _ (0, 0) ((B6.out.block (w1.heap.size) (by omega)).trans X.out)
  simp only [List.getElem?_toArray, List.getElem?_cons_zero, List.getElem?_cons_succ] at xx0 xx1 xx2 xx3 xx4 xx5 xx6 xx7
  have yy0 := cell_of_row _ _ 0 _ _ (0, 0) ((B6.out.block (w.heap.size + 1) (by omega)).trans Y.out)
  have yy1 := cell_of_row _ _ 1 _ _ (0, 0) ((B6.out.block (w.heap.size + 1) (by omega)).trans Y.out)
  have yy2 := cell_of_row _ _ 2 _ _ (0, 0) ((B6.out.block (w.heap.size + 1) (by omega)).trans Y.out)
  have yy3 := cell_of_row _ _ 3 _ _ (0, 0) ((B6.out.block (w.heap.size + 1) (by omega)).trans Y.out)
  have yy4 := cell_of_row _ _ 4 _ _ (0, 0) ((B6.out.block (w.heap.size + 1) (by omega)).trans Y.out)
  simp only [List.getElem?_toArray, List.getElem?_cons_zero, List.getElem?_cons_succ] at yy0 yy1 yy2 yy3 yy4
  go_wp2_with fail
  clear xx0 xx1 xx2 xx3 xx4 xx5 xx6 xx7 yy0 yy1 yy2 yy3 yy4
  refine (FR2.out A cap _ ((HC2.out.below B6.out).more B6.out.size) (HVW.out.below B6.out)).mono ?_
  rintro e w7 ⟨rfl, hb⟩
  have B7 := Lib.hid (B6.out.trans (hb.mono B6.out.size))
  have D7 := Lib.hid (D6.out.trans (hb.mono D6.out.size))
  clear hb
  have rr0 := cell_of_row _ _ 0 _ _ (0, 0) ((B7.out.block (w.heap.size) (by omega)).trans R.out)
  have rr1 := cell_of_row _ _ 1 _ _ (0, 0) ((B7.out.block (w.heap.size) (by omega)).trans R.out)
  have rr2 := cell_of_row _ _ 2 _ _ (0, 0) ((B7.out.block (w.heap.size) (by omega)).trans R.out)
  have rr3 := cell_of_row _ _ 3 _ _ (0, 0) ((B7.out.block (w.heap.size) (by omega)).trans R.out)
  have rr4 := cell_of_row _ _ 4 _ _ (0, 0) ((B7.out.block (w.heap.size) (by omega)).trans R.out)
  have rr5 := cell_of_row _ _ 5 _ _ (0, 0) ((B7.out.block (w.heap.size) (by omega)).trans R.out)
  have rr6 := cell_of_row _ _ 6 _ _ (0, 0) ((B7.out.block (w.heap.size) (by omega)).trans R.out)
  have rr7 := cell_of_row _ _ 7 _ _ (0, 0) ((B7.out.block (w.heap.size) (by omega)).trans R.out)
  simp only [List.getElem?_toArray, List.getElem?_cons_zero, List.getElem?_cons_succ] at rr0 rr1 rr2 rr3 rr4 rr5 rr6 rr7
  have yy0 := cell_of_row _ _ 0 _ _ (0, 0) ((B7.out.block (w.heap.size + 1) (by omega)).trans Y.out)
  have yy1 := cell_of_row _ _ 1 _ _ (0, 0) ((B7.out.block (w.heap.size + 1) (by omega)).trans Y.out)
  have yy2 := cell_of_row _ _ 2 _ _ (0, 0) ((B7.out.block (w.heap.size + 1) (by omega)).trans Y.out)
  have yy3 := cell_of_row _ _ 3 _ _ (0, 0) ((B7.out.block (w.heap.size + 1) (by omega)).trans Y.out)
  have yy4 := cell_of_row _ _ 4 _ _ (0, 0) ((B7.out.block (w.heap.size + 1) (by omega)).trans Y.out)
  simp only [List.getElem?_toArray, List.getElem?_cons_zero, List.getElem?_cons_succ] at yy0 yy1 yy2 yy3 yy4
  go_wp2_with fail
  clear rr0 rr1 rr2 rr3 rr4 rr5 rr6 rr7 yy0 yy1 yy2 yy3 yy4
  refine (FI3.out _ ((HRC.out.below (HW2.out.trans (B7.out.mono HW2.out.size))).more (HW2.out.trans (B7.out.mono HW2.out.size)).size) (HVW.out.below B7.out)).mono ?_
  rintro e w8 ⟨rfl, hb⟩
  have B8 := Lib.hid (B7.out.trans (hb.mono B7.out.size))
  have D8 := Lib.hid (D7.out.trans (hb.mono D7.out.size))
  clear hb
  have rr0 := cell_of_row _ _ 0 _ _ (0, 0) ((B8.out.block (w.heap.size) (by omega)).trans R.out)
  have rr1 := cell_of_row _ _ 1 _ _ (0, 0) ((B8.out.block (w.heap.size) (by omega)).trans R.out)
  have rr2 := cell_of_row _ _ 2 _ _ (0, 0) ((B8.out.block (w.heap.size) (by omega)).trans R.out)
  have rr3 := cell_of_row _ _ 3 _ _ (0, 0) ((B8.out.block (w.heap.size) (by omega)).trans R.out)
  have rr4 := cell_of_row _ _ 4 _ _ (0, 0) ((B8.out.block (w.heap.size) (by omega)).trans R.out)
  have rr5 := cell_of_row _ _ 5 _ _ (0, 0) ((B8.out.block (w.heap.size) (by omega)).trans R.out)
  have rr6 := cell_of_row _ _ 6 _ _ (0, 0) ((B8.out.block (w.heap.size) (by omega)).trans R.out)
  have rr7 := cell_of_row _ _ 7 _ _ (0, 0) ((B8.out.block (w.heap.size) (by omega)).trans R.out)
  simp only [List.getElem?_toArray, List.getElem?_cons_zero, List.getElem?_cons_succ] at rr0 rr1 rr2 rr3 rr4 rr5 rr6 rr7
  have yy0 := cell_of_row _ _ 0 _ _ (0, 0) ((B8.out.block (w.heap.size + 1) (by omega)).trans Y.out)
  have yy1 := cell_of_row _ _ 1 _ _ (0, 0) ((B8.out.block (w.heap.size + 1) (by omega)).trans Y.out)
  have yy2 := cell_of_row _ _ 2 _ _ (0, 0) ((B8.out.block (w.heap.size + 1) (by omega)).trans Y.out)
  have yy3 := cell_of_row _ _ 3 _ _ (0, 0) ((B8.out.block (w.heap.size + 1) (by omega)).trans Y.out)
  have yy4 := cell_of_row _ _ 4 _ _ (0, 0) ((B8.out.block (w.heap.size + 1) (by omega)).trans Y.out)
  simp only [List.getElem?_toArray, List.getElem?_cons_zero, List.getElem?_cons_succ] at yy0 yy1 yy2 yy3 yy4
  go_wp2_with fail
  clear rr0 rr1 rr2 rr3 rr4 rr5 rr6 rr7 yy0 yy1 yy2 yy3 yy4
  refine (FR3.out _ ((HRC.out.below (HW2.out.trans (B8.out.mono HW2.out.size))).more (HW2.out.trans (B8.out.mono HW2.out.size)).size) (HVW.out.below B8.out)).mono ?_
  rintro e w9 ⟨rfl, hb⟩
  have B9 := Lib.hid (B8.out.trans (hb.mono B8.out.size))
  have D9 := Lib.hid (D8.out.trans (hb.mono D8.out.size))
  clear hb
  have qq0 := cell_of_row _ _ 0 _ _ (0, 0) ((B9.out.block (w2.heap.size) (by omega)).trans Q.out)
  have qq1 := cell_of_row _ _ 1 _ _ (0, 0) ((B9.out.block (w2.heap.size) (by omega)).trans Q.out)
  have qq2 := cell_of_row _ _ 2 _ _ (0, 0) ((B9.out.block (w2.heap.size) (by omega)).trans Q.out)
  have qq3 := cell_of_row _ _ 3 _ _ (0, 0) ((B9.out.block (w2.heap.size) (by omega)).trans Q.out)
  have qq4 := cell_of_row _ _ 4 _ _ (0, 0) ((B9.out.block (w2.heap.size) (by omega)).trans Q.out)
  simp only [List.getElem?_toArray, List.getElem?_cons_zero, List.getElem?_cons_succ] at qq0 qq1 qq2 qq3 qq4
  have zz0 := cell_of_row _ _ 0 _ _ (0, 0) ((D9.out.block w5.heap.size (by omega)).trans Z.out)
  have zz1 := cell_of_row _ _ 1 _ _ (0, 0) ((D9.out.block w5.heap.size (by omega)).trans Z.out)
  have zz2 := cell_of_row _ _ 2 _ _ (0, 0) ((D9.out.block w5.heap.size (by omega)).trans Z.out)
  have zz3 := cell_of_row _ _ 3 _ _ (0, 0) ((D9.out.block w5.heap.size (by omega)).trans Z.out)
  have zz4 := cell_of_row _ _ 4 _ _ (0, 0) ((D9.out.block w5.heap.size (by omega)).trans Z.out)
  simp only [List.getElem?_toArray, List.getElem?_cons_zero, List.getElem?_cons_succ] at zz0 zz1 zz2 zz3 zz4
  go_wp2_with fail
  clear qq0 qq1 qq2 qq3 qq4
  clear zz0 zz1 zz2 zz3 zz4
  refine (FSA.out A2 (some ⟨gz, 0, none⟩) cp2 cs.length _ (HV2.out.below B9.out) (HCZ5.out.below D9.out)).mono ?_
  rintro e w10 ⟨rfl, hb⟩
  have B10 := Lib.hid (B9.out.trans (hb.mono B9.out.size))
  clear hb
  go_wp2_with fail
  refine (FS.out _).mono ?_
  rintro e w11 ⟨rfl, hb⟩
  have B11 := Lib.hid (B10.out.trans (hb.mono B10.out.size))
  clear hb
  go_wp2_with fail
  go_ret
  exact ⟨rfl, HW2.out.trans (B11.out.mono HW2.out.size)⟩
set_option maxRecDepth 100000 in
theorem lawFrameInputs_lifted (os : Os) (started : os.Started) (H : Type) (enc : TypeId × Value → H) :
    ReturnsInHanded {} Try.checked os 3 .any (Rows.frameInputsSpec.pre6 enc Try.prog Try.f3 Rows.frameInputsRow.domain false) (Rows.frameInputsSpec.post enc Try.prog Try.f3 false true false false) := by
  refine returnsInHanded_of_change (C := Try.checked) own started (by kernel_rfl) Try.func3
    (ChangeSpec.witness6 (enc := enc) (C := Try.checked) false ⟨#[], #[.int .u8 0, .agg #[.int .i64 0, .int .i64 0, .int .i64 0, .int .i64 0, .float .f64 0, .float .f64 0, .float .f64 0, .slice none 0 0], .agg #[.int .u32 0, .int .u32 0, .int .i64 0, .int .i64 0, .slice none 0 0]], []⟩ 8 (by kernel_rfl) (by kernel_rfl) (by kernel_rfl) (by kernel_rfl)) ?_
  intro W base args ds gs before hval0 hW hcnd _
  have hval : ∀ (j : Nat) t v, Try.f3.params[j]? = some t → args[j]? = some v → Value.okWide Try.prog W .any base t v := hval0
  have hW' := hW
  obtain ⟨p, q, hA0, hV, rfl, hfz, hnd⟩ := hW
  have hA : DataW.TrodAll enc Try.prog W 0 (fun _ => true) true Try.f3.params.toList args.toList ds p := hA0
  rw [Try.params3] at hA hval
  obtain ⟨v0, vs0, d0, ds0, p0, q0, hargs, rfl, rfl, h0, r0⟩ := trodAll_cons hA
  obtain ⟨v1, vs1, d1, ds1, p1, q1, rfl, rfl, rfl, h1, r1⟩ := trodAll_cons r0
  obtain ⟨v2, vs2, d2, ds2, p2, q2, rfl, rfl, rfl, h2, r2⟩ := trodAll_cons r1
  obtain ⟨rfl, rfl, rfl⟩ := trodAll_nil r2
  obtain rfl : args = #[v0, v1, v2] := by cases args; simp_all
  obtain ⟨rfl, rfl⟩ := trodVars_none hV
  obtain ⟨x0, rfl, rfl, rfl, g0⟩ := open_int Try.underlying5 (hval 0 5 v0 rfl rfl) h0
  have k1 := h1
  have lt1 : ∀ x ∈ p1, x.block < W.heap.size := by obtain ⟨m, hm⟩ := k1; exact DataW.trod_lt m _ _ _ hm
  obtain ⟨x1, y1, z1, rfl, g1, m1⟩ := open_building (hval 1 25 v1 rfl rfl) h1
  have k2 := h2
  have lt2 : ∀ x ∈ p2, x.block < W.heap.size := by obtain ⟨m, hm⟩ := k2; exact DataW.trod_lt m _ _ _ hm
  obtain ⟨x2, y2, z2, rfl, g2, m2, n2⟩ := open_inputs (hval 2 33 v2 rfl rfl) h2
  clear hA0 hval0
  refine (lawFrameInputs_walk x0 x1 y1 z1 x2 y2 z2 W g0 g1 m1 g2 m2 n2).mono fun e W' ⟨he, bel⟩ => ?_
  subst he
  exact ⟨_, rfl, _, _, _, [], _, [], hW', trodAll_mk1 (shut_bool Try.underlying4 _), (trodAll_cons_mk (shut_int Try.underlying5 g0) (trodAll_cons_mk (Below.trod laidOut (by kernel_rfl) (of_decide_eq_true (by kernel_rfl)) k1 bel lt1) (trodAll_cons_mk (Below.trod laidOut (by kernel_rfl) (of_decide_eq_true (by kernel_rfl)) k2 bel lt2) trodAll_mk0))), rfl, bel.frame _, fun h => by cases h⟩

theorem lawFrameInputs_over : Rows.frameInputsRow.holds Try.pinned (OpenSpec.ofChange Rows.frameInputsSpec) :=
  OpenClaim.holds_of_wide 3 Try.f3 rfl rfl rfl rfl rfl rfl rfl ⟨rfl, rfl, rfl, rfl, rfl⟩ rfl rfl rfl rfl rfl (by kernel_rfl) Try.func3 (by kernel_rfl)
    (of_decide_eq_true (by kernel_rfl)) (by unfold Func.isWrapper; first | (rw [if_pos (by decide +kernel)]; kernel_rfl) | (rw [if_neg (by decide +kernel)]; exact ⟨rfl, rfl⟩))
    (fun os started H enc _ => lawFrameInputs_lifted os started H enc)

theorem frameInputs_holds : Rows.FrameInputsSaid := lawFrameInputs_over
#print axioms frameInputs_holds
end
end Go.Proofs.Ytcggngggkngbjaa
