/- A building that came in as an argument: its value, and its cars in memory. -/
import Derived.Test.YtgfejleemacabaaMem
import Derived.Deep.Slices
import Derived.Deep.Fields
import Derived.ChangeSame
import Derived.ChangeOld
namespace Go.Proofs.Ytgfejleemacabaa
open Go.RowKit Go.ChangeShapes Go.WideShapes Go.Deep

theorem laidOut : laidOutB Try.prog = true := by kernel_rfl
theorem own : ownKnob Try.prog.godebug = none := by kernel_rfl

theorem list_of {α : Type} (d : α) (P : Nat → α → Prop) : ∀ n : Nat, (∀ i, i < n → ∃ c, P i c) → ∃ l : List α, l.length = n ∧ ∀ i, i < n → P i (l.getD i d)
  | 0, _ => ⟨[], rfl, fun i hi => absurd hi (by omega)⟩
  | n + 1, h => by
    obtain ⟨l, hl, hp⟩ := list_of d P n (fun i hi => h i (by omega))
    obtain ⟨c, hc⟩ := h n (by omega)
    refine ⟨l ++ [c], by simp [hl], fun i hi => ?_⟩
    rcases Nat.lt_or_ge i n with hlt | hge
    · have := hp i hlt
      rw [List.getD_eq_getElem?_getD] at this ⊢
      rwa [List.getElem?_append_left (by omega)]
    · obtain rfl : i = n := by omega
      rw [List.getD_eq_getElem?_getD, List.getElem?_append_right (by omega), hl]
      simpa using hc

section
variable {H : Type} {enc : TypeId × Value → H} {w : World} {base : Nat} {spare : Nat → Bool} {held : Bool}

theorem open_cars {fuel : Nat} {v : Value} {x : DataW H × List MemPlace} (h : DataW.trod enc Try.prog w base spare held fuel 23 [v] = some x) :
    ∃ (A : Option Addr) (cap : Nat) (cs : List CarD), v = .slice A cs.length cap ∧ CarsAt w w.heap.size A cs ∧ cs.length ≤ 9223372036854775807 := by
  obtain ⟨fs, hfs⟩ : ∃ fs, Try.prog.underlying 33 = some (.struct fs) := ⟨_, Try.underlying33⟩
  rcases open_slice Try.underlying23 h with ⟨hcs, _⟩ | ⟨a, len, cap, m, n, D, Pl, hcs, _, hl, hm, hmm, _, hi⟩
  · simp only [List.cons.injEq, and_true] at hcs
    exact ⟨none, 0, [], hcs, .inl rfl, by simp⟩
  · simp only [List.cons.injEq, and_true] at hcs
    subst hcs
    have hC : Try.prog.cellsOf 33 = 9 := by kernel_rfl
    have hml : len ≤ m := by rw [hmm]; split <;> omega
    have hone : ∀ i, i < len → ∃ c : CarD, ∀ j, j < 9 → w.cell? (a.add (i * 9 + j)) = some (.int .i64 (c.vals.getD j 0)) := by
      intro i hil
      obtain ⟨cs', hc, ht⟩ := hi i (by omega)
      rw [hC] at hc
      obtain ⟨ys, n', _, hy, hlen, hyl, hf⟩ := DataW.trod_struct Try.underlying33 ht
      obtain ⟨_, hcl, hat⟩ := World.cells?_some hc
      have hfield : ∀ j, j < 9 → ∃ z, w.cell? (a.add (i * 9 + j)) = some (.int .i64 z) := by
        intro j hj
        have hcell := hat j hj
        have hcs : cs'[j]? = some (cs'[j]'(by omega)) := List.getElem?_eq_getElem (by omega)
        have hint : ∃ z, cs'[j]'(by omega) = .int .i64 z := by
          have hdrop : (cs'.drop j).take 1 = [cs'[j]'(by omega)] := by
            rw [List.drop_eq_getElem_cons (by omega)]
            rfl
          have hk : Try.prog.cellsOf 3 = 1 := by kernel_rfl
          have key : ∀ f : Field, f.offset = j → f.type = 3 → (∃ y, DataW.trod enc Try.prog w base spare held n' f.type ((cs'.drop f.offset).take (Try.prog.cellsOf f.type)) = some y) → ∃ z, cs'[j]'(by omega) = .int .i64 z := by
            intro f ho ht' ⟨y, hy'⟩
            rw [ho, ht', hk, hdrop] at hy'
            obtain ⟨z, hz, _⟩ := DataW.trod_int Try.underlying3 hy'
            simp only [List.cons.injEq, and_true] at hz
            exact ⟨z, hz⟩
          have hj' : j = 0 ∨ j = 1 ∨ j = 2 ∨ j = 3 ∨ j = 4 ∨ j = 5 ∨ j = 6 ∨ j = 7 ∨ j = 8 := by omega
          rcases hj' with rfl | rfl | rfl | rfl | rfl | rfl | rfl | rfl | rfl
          · exact key _ rfl rfl ⟨_, (hf 0 _ rfl).trans (List.getElem?_eq_getElem (by rw [hyl]; decide))⟩
          · exact key _ rfl rfl ⟨_, (hf 1 _ rfl).trans (List.getElem?_eq_getElem (by rw [hyl]; decide))⟩
          · exact key _ rfl rfl ⟨_, (hf 2 _ rfl).trans (List.getElem?_eq_getElem (by rw [hyl]; decide))⟩
          · exact key _ rfl rfl ⟨_, (hf 3 _ rfl).trans (List.getElem?_eq_getElem (by rw [hyl]; decide))⟩
          · exact key _ rfl rfl ⟨_, (hf 4 _ rfl).trans (List.getElem?_eq_getElem (by rw [hyl]; decide))⟩
          · exact key _ rfl rfl ⟨_, (hf 5 _ rfl).trans (List.getElem?_eq_getElem (by rw [hyl]; decide))⟩
          · exact key _ rfl rfl ⟨_, (hf 6 _ rfl).trans (List.getElem?_eq_getElem (by rw [hyl]; decide))⟩
          · exact key _ rfl rfl ⟨_, (hf 7 _ rfl).trans (List.getElem?_eq_getElem (by rw [hyl]; decide))⟩
          · exact key _ rfl rfl ⟨_, (hf 8 _ rfl).trans (List.getElem?_eq_getElem (by rw [hyl]; decide))⟩
        obtain ⟨z, hz⟩ := hint
        exact ⟨z, by rw [← Go.Deep.add_add, hcell, hcs, hz]⟩
      obtain ⟨c1, h1⟩ := hfield 0 (by omega)
      obtain ⟨c2, h2⟩ := hfield 1 (by omega)
      obtain ⟨c3, h3⟩ := hfield 2 (by omega)
      obtain ⟨c4, h4⟩ := hfield 3 (by omega)
      obtain ⟨c5, h5⟩ := hfield 4 (by omega)
      obtain ⟨c6, h6⟩ := hfield 5 (by omega)
      obtain ⟨c7, h7⟩ := hfield 6 (by omega)
      obtain ⟨c8, h8⟩ := hfield 7 (by omega)
      obtain ⟨c9, h9⟩ := hfield 8 (by omega)
      refine ⟨⟨c1, c2, c3, c4, c5, c6, c7, c8, c9⟩, fun j hj => ?_⟩
      match j, hj with
      | 0, _ => exact h1
      | 1, _ => exact h2
      | 2, _ => exact h3
      | 3, _ => exact h4
      | 4, _ => exact h5
      | 5, _ => exact h6
      | 6, _ => exact h7
      | 7, _ => exact h8
      | 8, _ => exact h9
    obtain ⟨cs, hlen, hcs⟩ := list_of (default : CarD) (fun i c => ∀ j, j < 9 → w.cell? (a.add (i * 9 + j)) = some (.int .i64 (c.vals.getD j 0))) len hone
    refine ⟨some a, cap, cs, by rw [hlen], ?_, by unfold maxLen at hm; omega⟩
    rcases Nat.eq_zero_or_pos len with h0 | h0
    · exact .inl (List.eq_nil_of_length_eq_zero (by omega))
    · obtain ⟨b, off, spot⟩ := a
      have hfirst := hcs 0 h0 0 (by omega)
      have hsp : spot = none := by
        cases spot with
        | none => rfl
        | some s =>
          simp only [Nat.zero_mul, Nat.add_zero, Addr.add, if_true] at hfirst
          unfold World.cell? at hfirst
          split at hfirst <;> simp at hfirst
      subst hsp
      refine .inr ⟨b, off, rfl, ?_, fun i hil j hj => ?_⟩
      · have := World.block_lt_of_cell? w _ hfirst
        simpa [Addr.add] using this
      · have := hcs i (by omega) j hj
        have hadd : (⟨b, off, none⟩ : Addr).add (i * 9 + j) = ⟨b, off + i * 9 + j, none⟩ := by unfold Addr.add; split <;> simp_all; omega
        rw [← hadd]
        exact this

theorem trod_float_bits {fuel : Nat} {v : Value} {x : DataW H × List MemPlace} (h : DataW.trod enc Try.prog w base spare held fuel 22 [v] = some x) : ∃ b, v = .float .f64 b := by
  cases fuel with
  | zero => simp [DataW.trod] at h
  | succ n =>
    simp only [DataW.trod, Try.underlying22] at h
    split at h <;> simp_all

set_option maxRecDepth 100000 in
theorem open_building {r : Reach} {b0 : Nat} {v : Value} {d : DataW H} {p : List MemPlace} (hv : Value.okWide Try.prog w r b0 25 v) (h : DataW.Trod enc Try.prog w base spare held 25 v d p) :
    ∃ (b : BldD) (A : Option Addr) (cap : Nat), v = b.agg A cap ∧ CarsAt w w.heap.size A b.cars ∧ b.cars.length ≤ 9223372036854775807 := by
  obtain ⟨cs, rfl, hsz⟩ := okWide_struct Try.underlying25 hv
  obtain ⟨l⟩ := cs
  have hC : Try.prog.cellsOf 25 = 8 := by kernel_rfl
  match l, hsz.trans hC with
  | [c0, c1, c2, c3, c4, c5, c6, c7], _ =>
    obtain ⟨fuel, hf⟩ := h
    obtain ⟨xs, n, _, hx, _, hlen, hg⟩ := DataW.trod_struct Try.underlying25 hf
    have hki : Try.prog.cellsOf 3 = 1 := by kernel_rfl
    have hkf : Try.prog.cellsOf 22 = 1 := by kernel_rfl
    have hks : Try.prog.cellsOf 23 = 1 := by kernel_rfl
    have hyl : xs.length = 8 := by rw [hlen]; rfl
    have at_ : ∀ j, j < 8 → ∃ y, xs[j]? = some y := fun j hj => ⟨_, List.getElem?_eq_getElem (by omega)⟩
    obtain ⟨y0, e0⟩ := at_ 0 (by omega)
    obtain ⟨y1, e1⟩ := at_ 1 (by omega)
    obtain ⟨y2, e2⟩ := at_ 2 (by omega)
    obtain ⟨y3, e3⟩ := at_ 3 (by omega)
    obtain ⟨y4, e4⟩ := at_ 4 (by omega)
    obtain ⟨y5, e5⟩ := at_ 5 (by omega)
    obtain ⟨y6, e6⟩ := at_ 6 (by omega)
    obtain ⟨y7, e7⟩ := at_ 7 (by omega)
    have i0 := (hg 0 _ rfl).trans e0
    have i1 := (hg 1 _ rfl).trans e1
    have i2 := (hg 2 _ rfl).trans e2
    have i3 := (hg 3 _ rfl).trans e3
    have i4 := (hg 4 _ rfl).trans e4
    have i5 := (hg 5 _ rfl).trans e5
    have i6 := (hg 6 _ rfl).trans e6
    have i7 := (hg 7 _ rfl).trans e7
    simp [Value.cells, hki, hkf, hks] at i0 i1 i2 i3 i4 i5 i6 i7
    obtain ⟨z0, a0, _⟩ := DataW.trod_int Try.underlying3 i0
    obtain ⟨z1, a1, _⟩ := DataW.trod_int Try.underlying3 i1
    obtain ⟨z2, a2, _⟩ := DataW.trod_int Try.underlying3 i2
    obtain ⟨z3, a3, _⟩ := DataW.trod_int Try.underlying3 i3
    obtain ⟨z4, a4⟩ := trod_float_bits i4
    obtain ⟨z5, a5⟩ := trod_float_bits i5
    obtain ⟨z6, a6⟩ := trod_float_bits i6
    obtain ⟨A, cap, cars, a7, hcars⟩ := open_cars i7
    simp only [List.cons.injEq, and_true] at a0 a1 a2 a3
    subst a0 a1 a2 a3 a4 a5 a6 a7
    exact ⟨⟨z0, z1, z2, z3, z4, z5, z6, cars⟩, A, cap, rfl, hcars⟩
end
end Go.Proofs.Ytgfejleemacabaa
