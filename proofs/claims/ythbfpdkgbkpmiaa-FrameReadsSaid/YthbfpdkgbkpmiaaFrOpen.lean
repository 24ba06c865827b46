/- Inputs that came in as an argument. No statement of the seat is proved here. -/
import Derived.Test.YthbfpdkgbkpmiaaFitted
import Derived.Test.YthbfpdkgbkpmiaaG5
import Derived.ChangeMaps5
namespace Go.Proofs.Ythbfpdkgbkpmiaa
open Go Go.RowKit Go.ChangeShapes Go.WideShapes Go.Deep Frm

theorem u8_nat {x : Int} (h : (Lit.int .u8 x).wf = true) : ∃ n : Nat, x = (n : Int) ∧ n < 256 := by
  simp [Lit.wf, IntKind.min, IntKind.max, IntKind.bits, IntKind.signed] at h
  exact ⟨x.toNat, by omega, by omega⟩
theorem u32_nat {x : Int} (h : (Lit.int .u32 x).wf = true) : ∃ n : Nat, x = (n : Int) ∧ n < 4294967296 := by
  simp [Lit.wf, IntKind.min, IntKind.max, IntKind.bits, IntKind.signed] at h
  exact ⟨x.toNat, by omega, by omega⟩
theorem i64_in64 {x : Int} (h : (Lit.int .i64 x).wf = true) : In64 x := by
  simp [Lit.wf, IntKind.min, IntKind.max, IntKind.bits, IntKind.signed] at h
  unfold In64; omega
theorem list_ofCt {α : Type} (P : Nat → α → Prop) : ∀ n : Nat, (∀ i, i < n → ∃ c, P i c) → ∃ l : List α, l.length = n ∧ ∀ i (h : i < l.length), P i l[i]
  | 0, _ => ⟨[], rfl, fun i hi => absurd hi (by simp)⟩
  | n + 1, h => by
    obtain ⟨l, hl, hp⟩ := list_ofCt P n (fun i hi => h i (by omega))
    obtain ⟨c, hc⟩ := h n (by omega)
    refine ⟨l ++ [c], by simp [hl], fun i hi => ?_⟩
    rcases Nat.lt_or_ge i l.length with hlt | hge
    · rw [List.getElem_append_left hlt]; exact hp i hlt
    · have : i = n := by simp at hi; omega
      subst this
      rw [List.getElem_append_right hge]
      simpa [hl] using hc

section
variable {H : Type} {enc : TypeId × Value → H} {w : World} {base : Nat} {spare : Nat → Bool} {held : Bool}
theorem trod_float_wf {fuel : Nat} {cs : List Value} {x : DataW H × List MemPlace} (hc : cs.length = 1) (h : DataW.trod enc Try.prog w base spare held fuel 22 cs = some x) : ∃ b, cs = [.float .f64 b] ∧ b < 18446744073709551616 := by
  match cs, hc with
  | [v], _ =>
    cases fuel with
    | zero => simp [DataW.trod] at h
    | succ n =>
      cases v with
      | float k b =>
        simp only [DataW.trod, Try.underlying22] at h
        split at h
        · rename_i hh
          obtain ⟨rfl, hw⟩ := hh
          exact ⟨b, rfl, by simpa [Lit.wf] using hw⟩
        · cases h
      | _ => simp [DataW.trod, Try.underlying22] at h
set_option maxRecDepth 100000 in
theorem trod_contacts {fuel : Nat} {cs : List Value} {x : DataW H × List MemPlace} (h : DataW.trod enc Try.prog w base spare held fuel 67 cs = some x) : ∃ (a : Nat) (b c d e : Bool), cs = [.int .u32 a, .bool b, .bool c, .bool d, .bool e] ∧ a < 4294967296 := by
  obtain ⟨xs, n, _, _, hlen, hxl, hg⟩ := DataW.trod_struct Try.underlying67 h
  have hC : Try.prog.cellsOf 67 = 5 := by kernel_rfl
  have hkbool : Try.prog.cellsOf 4 = 1 := by kernel_rfl
  have hkuint32 : Try.prog.cellsOf 26 = 1 := by kernel_rfl
  rw [hC] at hlen
  match cs, hlen with
  | [c0, c1, c2, c3, c4], _ =>
    have hyl : xs.length = 5 := by rw [hxl]; rfl
    have i0 := (hg 0 _ rfl).trans (List.getElem?_eq_getElem (by omega : 0 < xs.length))
    have i1 := (hg 1 _ rfl).trans (List.getElem?_eq_getElem (by omega : 1 < xs.length))
    have i2 := (hg 2 _ rfl).trans (List.getElem?_eq_getElem (by omega : 2 < xs.length))
    have i3 := (hg 3 _ rfl).trans (List.getElem?_eq_getElem (by omega : 3 < xs.length))
    have i4 := (hg 4 _ rfl).trans (List.getElem?_eq_getElem (by omega : 4 < xs.length))
    simp [hkbool, hkuint32] at i0 i1 i2 i3 i4
    obtain ⟨z0, a0, _, wf0⟩ := DataW.trod_int Try.underlying26 i0
    obtain ⟨z1, a1, _⟩ := DataW.trod_bool Try.underlying4 i1
    obtain ⟨z2, a2, _⟩ := DataW.trod_bool Try.underlying4 i2
    obtain ⟨z3, a3, _⟩ := DataW.trod_bool Try.underlying4 i3
    obtain ⟨z4, a4, _⟩ := DataW.trod_bool Try.underlying4 i4
    simp only [List.cons.injEq, and_true] at a0 a1 a2 a3 a4
    subst a0 a1 a2 a3 a4
    obtain ⟨n0, rfl, h0⟩ := u32_nat wf0
    exact ⟨n0, z1, z2, z3, z4, rfl, h0⟩
set_option maxRecDepth 100000 in
theorem trod_feedback {fuel : Nat} {cs : List Value} {x : DataW H × List MemPlace} (h : DataW.trod enc Try.prog w base spare held fuel 69 cs = some x) : ∃ (a : Int) (b : Bool) (c : Int) (d : Bool), cs = [.int .i64 a, .bool b, .int .i64 c, .bool d] ∧ In64 a ∧ In64 c := by
  obtain ⟨xs, n, _, _, hlen, hxl, hg⟩ := DataW.trod_struct Try.underlying69 h
  have hC : Try.prog.cellsOf 69 = 4 := by kernel_rfl
  have hkbool : Try.prog.cellsOf 4 = 1 := by kernel_rfl
  have hkint : Try.prog.cellsOf 3 = 1 := by kernel_rfl
  rw [hC] at hlen
  match cs, hlen with
  | [c0, c1, c2, c3], _ =>
    have hyl : xs.length = 4 := by rw [hxl]; rfl
    have i0 := (hg 0 _ rfl).trans (List.getElem?_eq_getElem (by omega : 0 < xs.length))
    have i1 := (hg 1 _ rfl).trans (List.getElem?_eq_getElem (by omega : 1 < xs.length))
    have i2 := (hg 2 _ rfl).trans (List.getElem?_eq_getElem (by omega : 2 < xs.length))
    have i3 := (hg 3 _ rfl).trans (List.getElem?_eq_getElem (by omega : 3 < xs.length))
    simp [hkbool, hkint] at i0 i1 i2 i3
    obtain ⟨z0, a0, _, wf0⟩ := DataW.trod_int Try.underlying3 i0
    obtain ⟨z1, a1, _⟩ := DataW.trod_bool Try.underlying4 i1
    obtain ⟨z2, a2, _, wf2⟩ := DataW.trod_int Try.underlying3 i2
    obtain ⟨z3, a3, _⟩ := DataW.trod_bool Try.underlying4 i3
    simp only [List.cons.injEq, and_true] at a0 a1 a2 a3
    subst a0 a1 a2 a3
    have h0 := i64_in64 wf0
    have h2 := i64_in64 wf2
    exact ⟨z0, z1, z2, z3, rfl, h0, h2⟩
set_option maxRecDepth 100000 in
theorem trod_calls {fuel : Nat} {cs : List Value} {x : DataW H × List MemPlace} (h : DataW.trod enc Try.prog w base spare held fuel 28 cs = some x) : ∃ (a b : Nat), cs = [.int .u32 a, .int .u32 b] ∧ a < 4294967296 ∧ b < 4294967296 := by
  obtain ⟨xs, n, _, _, hlen, hxl, hg⟩ := DataW.trod_struct Try.underlying28 h
  have hC : Try.prog.cellsOf 28 = 2 := by kernel_rfl
  have hkuint32 : Try.prog.cellsOf 26 = 1 := by kernel_rfl
  rw [hC] at hlen
  match cs, hlen with
  | [c0, c1], _ =>
    have hyl : xs.length = 2 := by rw [hxl]; rfl
    have i0 := (hg 0 _ rfl).trans (List.getElem?_eq_getElem (by omega : 0 < xs.length))
    have i1 := (hg 1 _ rfl).trans (List.getElem?_eq_getElem (by omega : 1 < xs.length))
    simp [hkuint32] at i0 i1
    obtain ⟨z0, a0, _, wf0⟩ := DataW.trod_int Try.underlying26 i0
    obtain ⟨z1, a1, _, wf1⟩ := DataW.trod_int Try.underlying26 i1
    simp only [List.cons.injEq, and_true] at a0 a1
    subst a0 a1
    obtain ⟨n0, rfl, h0⟩ := u32_nat wf0
    obtain ⟨n1, rfl, h1⟩ := u32_nat wf1
    exact ⟨n0, n1, rfl, h0, h1⟩
set_option maxRecDepth 100000 in
theorem trod_command {fuel : Nat} {cs : List Value} {x : DataW H × List MemPlace} (h : DataW.trod enc Try.prog w base spare held fuel 30 cs = some x) : ∃ (a b : Int), cs = [.int .i64 a, .int .i64 b] ∧ In64 a ∧ In64 b := by
  obtain ⟨xs, n, _, _, hlen, hxl, hg⟩ := DataW.trod_struct Try.underlying30 h
  have hC : Try.prog.cellsOf 30 = 2 := by kernel_rfl
  have hkint : Try.prog.cellsOf 3 = 1 := by kernel_rfl
  rw [hC] at hlen
  match cs, hlen with
  | [c0, c1], _ =>
    have hyl : xs.length = 2 := by rw [hxl]; rfl
    have i0 := (hg 0 _ rfl).trans (List.getElem?_eq_getElem (by omega : 0 < xs.length))
    have i1 := (hg 1 _ rfl).trans (List.getElem?_eq_getElem (by omega : 1 < xs.length))
    simp [hkint] at i0 i1
    obtain ⟨z0, a0, _, wf0⟩ := DataW.trod_int Try.underlying3 i0
    obtain ⟨z1, a1, _, wf1⟩ := DataW.trod_int Try.underlying3 i1
    simp only [List.cons.injEq, and_true] at a0 a1
    subst a0 a1
    have h0 := i64_in64 wf0
    have h1 := i64_in64 wf1
    exact ⟨z0, z1, rfl, h0, h1⟩
theorem list11 (l : List Value) (h : l.length = 11) : ∃ c0 c1 c2 c3 c4 c5 c6 c7 c8 c9 c10, l = [c0, c1, c2, c3, c4, c5, c6, c7, c8, c9, c10] := by
  match l, h with
  | [c0, c1, c2, c3, c4, c5, c6, c7, c8, c9, c10], _ => exact ⟨c0, c1, c2, c3, c4, c5, c6, c7, c8, c9, c10, rfl⟩
set_option maxRecDepth 100000 in
theorem trod_carin {fuel : Nat} {cs : List Value} {x : DataW H × List MemPlace} (h : DataW.trod enc Try.prog w base spare held fuel 71 cs = some x) : ∃ c : CarIn, cs = carV c ∧ saneCar c := by
  obtain ⟨xs, n, _, _, hlen, hxl, hg⟩ := DataW.trod_struct Try.underlying71 h
  have hC : Try.prog.cellsOf 71 = 11 := by kernel_rfl
  have hk1 : Try.prog.cellsOf 67 = 5 := by kernel_rfl
  have hk2 : Try.prog.cellsOf 69 = 4 := by kernel_rfl
  have hk3 : Try.prog.cellsOf 26 = 1 := by kernel_rfl
  have hk4 : Try.prog.cellsOf 22 = 1 := by kernel_rfl
  rw [hC] at hlen
  obtain ⟨c0, c1, c2, c3, c4, c5, c6, c7, c8, c9, c10, rfl⟩ := list11 cs hlen
  have hyl : xs.length = 4 := by rw [hxl]; rfl
  have i0 := (hg 0 _ rfl).trans (List.getElem?_eq_getElem (by omega : 0 < xs.length))
  have i1 := (hg 1 _ rfl).trans (List.getElem?_eq_getElem (by omega : 1 < xs.length))
  have i2 := (hg 2 _ rfl).trans (List.getElem?_eq_getElem (by omega : 2 < xs.length))
  have i3 := (hg 3 _ rfl).trans (List.getElem?_eq_getElem (by omega : 3 < xs.length))
  simp [hk1, hk2, hk3, hk4] at i0 i1 i2 i3
  obtain ⟨a, b, c, d, e, e0, ha⟩ := trod_contacts i0
  obtain ⟨f, g, i, j, e1, hf, hi⟩ := trod_feedback i1
  obtain ⟨z2, e2, _, wf2⟩ := DataW.trod_int Try.underlying26 i2
  obtain ⟨l, e3, hl⟩ := trod_float_wf rfl i3
  simp only [List.cons.injEq, and_true] at e0 e1 e2 e3
  obtain ⟨rfl, rfl, rfl, rfl, rfl⟩ := e0
  obtain ⟨rfl, rfl, rfl, rfl⟩ := e1
  subst e2 e3
  obtain ⟨m, rfl, hm⟩ := u32_nat wf2
  exact ⟨⟨a, b, c, d, e, f, g, i, j, m, l⟩, rfl, ha, hm, hl, hf, hi⟩
set_option maxRecDepth 100000 in
theorem open_carins {fuel : Nat} {v : Value} {x : DataW H × List MemPlace} (h : DataW.trod enc Try.prog w base spare held fuel 31 [v] = some x) : ∃ (A : Option Addr) (cap : Nat) (l : List CarIn), v = .slice A l.length cap ∧ CarsV w A l ∧ (∀ c ∈ l, saneCar c) ∧ l.length ≤ maxLen := by
  rcases open_slice Try.underlying31 h with ⟨hcs, _⟩ | ⟨a, len, cap, m, n, D, Pl, hcs, _, hl, hm, hmm, _, hi⟩
  · simp only [List.cons.injEq, and_true] at hcs
    exact ⟨none, 0, [], hcs, .inl rfl, by simp, by simp [maxLen]⟩
  · simp only [List.cons.injEq, and_true] at hcs
    subst hcs
    have hC : Try.prog.cellsOf 71 = 11 := by kernel_rfl
    have hml : len ≤ m := by rw [hmm]; split <;> omega
    obtain ⟨l, hll, hp⟩ := list_ofCt (fun i (c : CarIn) => saneCar c ∧ ∀ j v, (carV c)[j]? = some v → w.cell? (a.add (i * 11 + j)) = some v) len (fun i hil => by
      obtain ⟨cs', hc, ht⟩ := hi i (by omega)
      rw [hC] at hc
      obtain ⟨c, hcc, hok⟩ := trod_carin ht
      obtain ⟨_, hcl, hat⟩ := World.cells?_some hc
      refine ⟨c, hok, fun j v hv => ?_⟩
      have hj : j < 11 := by
        rcases Nat.lt_or_ge j 11 with h | h
        · exact h
        · rw [List.getElem?_eq_none (by show 11 ≤ j; exact h)] at hv; cases hv
      rw [← Go.Deep.add_add, hat j hj, hcc]; exact hv)
    refine ⟨some a, cap, l, by rw [hll], ?_, fun c hc => ?_, by omega⟩
    · rcases Nat.eq_zero_or_pos len with h0 | h0
      · exact .inl (List.eq_nil_of_length_eq_zero (by omega))
      · obtain ⟨b, off, spot⟩ := a
        have hfirst := (hp 0 (by omega)).2 0 _ rfl
        have hsp : spot = none := by
          cases spot with
          | none => rfl
          | some s =>
            simp only [Nat.zero_mul, Nat.add_zero, Addr.add, if_true] at hfirst
            unfold World.cell? at hfirst
            split at hfirst <;> simp at hfirst
        subst hsp
        refine .inr ⟨b, off, rfl, fun i hi j v hv => ?_⟩
        have := (hp i hi).2 j v hv
        have hadd : (⟨b, off, none⟩ : Addr).add (i * 11 + j) = ⟨b, off + i * 11 + j, none⟩ := by unfold Addr.add; split <;> simp_all; omega
        rw [← hadd]
        exact this
    · obtain ⟨i, hi', rfl⟩ := List.getElem_of_mem hc
      exact (hp i hi').1
set_option maxRecDepth 100000 in
theorem open_inputs {r : Reach} {b0 : Nat} {v : Value} {d : DataW H} {p : List MemPlace} (hv : Value.okWide Try.prog w r b0 33 v) (h : DataW.Trod enc Try.prog w base spare held 33 v d p) :
    ∃ (y : In) (A : Option Addr) (cp : Nat), v = inAgg y A cp ∧ saneIn y ∧ CarsV w A y.cars ∧ y.cars.length ≤ maxLen := by
  obtain ⟨cs, rfl, hsz⟩ := okWide_struct Try.underlying33 hv
  obtain ⟨l⟩ := cs
  have hC : Try.prog.cellsOf 33 = 5 := by kernel_rfl
  have hk1 : Try.prog.cellsOf 28 = 2 := by kernel_rfl
  have hk2 : Try.prog.cellsOf 30 = 2 := by kernel_rfl
  have hk3 : Try.prog.cellsOf 31 = 1 := by kernel_rfl
  match l, hsz.trans hC with
  | [c0, c1, c2, c3, c4], _ =>
    obtain ⟨fuel, hf⟩ := h
    obtain ⟨xs, n, _, hx, _, hlen, hg⟩ := DataW.trod_struct Try.underlying33 hf
    have hyl : xs.length = 3 := by rw [hlen]; rfl
    have i0 := (hg 0 _ rfl).trans (List.getElem?_eq_getElem (by omega : 0 < xs.length))
    have i1 := (hg 1 _ rfl).trans (List.getElem?_eq_getElem (by omega : 1 < xs.length))
    have i2 := (hg 2 _ rfl).trans (List.getElem?_eq_getElem (by omega : 2 < xs.length))
    simp [Value.cells, hk1, hk2, hk3] at i0 i1 i2
    obtain ⟨a, b, e0, ha, hb⟩ := trod_calls i0
    obtain ⟨c, d, e1, hc, hd⟩ := trod_command i1
    obtain ⟨A, cap, l, e2, hcv, hsn, hml⟩ := open_carins i2
    simp only [List.cons.injEq, and_true] at e0 e1
    obtain ⟨rfl, rfl⟩ := e0
    obtain ⟨rfl, rfl⟩ := e1
    subst e2
    exact ⟨⟨a, b, c, d, l⟩, A, cap, rfl, ⟨ha, hb, hc, hd, hsn⟩, hcv, hml⟩
end
end Go.Proofs.Ythbfpdkgbkpmiaa
