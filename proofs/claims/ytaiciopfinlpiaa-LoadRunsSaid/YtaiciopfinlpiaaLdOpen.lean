/- Numbers, arrays and slices of float64, and states of load, that came in as arguments. No statement of the seat is proved here. -/
import Derived.Test.YtaiciopfinlpiaaOpen
import Derived.Test.YtaiciopfinlpiaaLdRow
namespace Go.Proofs.Ytaiciopfinlpiaa
open Go.RowKit Go.ChangeShapes Go.WideShapes Go.Deep

section
variable {H : Type} {enc : TypeId × Value → H} {w : World} {base : Nat} {spare : Nat → Bool} {held : Bool}

theorem trod_float_any {fuel : Nat} {cs : List Value} {x : DataW H × List MemPlace} (hc : cs.length = 1) (h : DataW.trod enc Try.prog w base spare held fuel 22 cs = some x) : ∃ b, cs = [.float .f64 b] := by
  match cs, hc with
  | [v], _ =>
    obtain ⟨b, rfl⟩ := trod_float_bits h
    exact ⟨b, rfl⟩
theorem open_f64 {r : Reach} {b0 : Nat} {v : Value} {d : DataW H} {p : List MemPlace} (hv : Value.okWide Try.prog w r b0 22 v) (_ : DataW.Trod enc Try.prog w base spare held 22 v d p) : ∃ x : Nat, v = .float .f64 x := by
  have hv' := hv
  simp only [Value.okWide, Cell.okWide, Try.underlying22] at hv'
  cases v <;> simp [Cell.ok, Try.underlying22] at hv'
  obtain ⟨rfl, -⟩ := hv'
  exact ⟨_, rfl⟩
theorem open_ld {r : Reach} {b0 : Nat} {v : Value} {d : DataW H} {p : List MemPlace} (hv : Value.okWide Try.prog w r b0 34 v) (h : DataW.Trod enc Try.prog w base spare held 34 v d p) :
    ∃ x : Int, v = .agg #[.int .i64 x] ∧ (Lit.int .i64 x).wf = true := by
  obtain ⟨⟨l⟩, rfl, hsz⟩ := okWide_struct Try.underlying34 hv
  have hC : Try.prog.cellsOf 34 = 1 := by kernel_rfl
  have hki : Try.prog.cellsOf 3 = 1 := by kernel_rfl
  match l, hsz.trans hC with
  | [c0], _ =>
    obtain ⟨fuel, hf⟩ := h
    obtain ⟨xs, n, _, hx, _, hlen, hg⟩ := DataW.trod_struct Try.underlying34 hf
    have hyl : xs.length = 1 := by rw [hlen]; rfl
    have i0 := (hg 0 _ rfl).trans (List.getElem?_eq_getElem (by omega : 0 < xs.length))
    simp [Value.cells, hki] at i0
    obtain ⟨z0, a0, _, w0⟩ := DataW.trod_int Try.underlying3 i0
    simp only [List.cons.injEq, and_true] at a0
    subst a0
    exact ⟨z0, rfl, w0⟩
theorem open_af3 {r : Reach} {b0 : Nat} {v : Value} {d : DataW H} {p : List MemPlace} (hv : Value.okWide Try.prog w r b0 26 v) (h : DataW.Trod enc Try.prog w base spare held 26 v d p) :
    ∃ x y z : Nat, v = .agg #[.float .f64 x, .float .f64 y, .float .f64 z] := by
  have hcs : ∃ cs, v = .agg cs ∧ cs.size = Try.prog.cellsOf 26 := by
    simp only [Value.okWide, Try.underlying26] at hv
    obtain ⟨cs, h1, h2, _⟩ := hv
    exact ⟨cs, h1, h2⟩
  obtain ⟨⟨l⟩, rfl, hsz⟩ := hcs
  have hC : Try.prog.cellsOf 26 = 3 := by kernel_rfl
  have hkf : Try.prog.cellsOf 22 = 1 := by kernel_rfl
  match l, hsz.trans hC with
  | [c0, c1, c2], _ =>
    obtain ⟨fuel, hf⟩ := h
    obtain ⟨xs, m, _, hx, hlen, hxl, hg⟩ := DataW.trod_array Try.underlying26 hf
    have i0 := (hg 0 (by omega)).trans (List.getElem?_eq_getElem (by omega : 0 < xs.length))
    have i1 := (hg 1 (by omega)).trans (List.getElem?_eq_getElem (by omega : 1 < xs.length))
    have i2 := (hg 2 (by omega)).trans (List.getElem?_eq_getElem (by omega : 2 < xs.length))
    simp [Value.cells, hkf] at i0 i1 i2
    obtain ⟨z0, a0⟩ := trod_float_bits i0
    obtain ⟨z1, a1⟩ := trod_float_bits i1
    obtain ⟨z2, a2⟩ := trod_float_bits i2
    subst a0 a1 a2
    exact ⟨z0, z1, z2, rfl⟩
theorem open_flts {fuel : Nat} {v : Value} {x : DataW H × List MemPlace} (h : DataW.trod enc Try.prog w base spare held fuel 29 [v] = some x) : ∃ l : List Nat, VV w v (flts l) ∧ l.length ≤ maxLen := by
  rcases open_slice Try.underlying29 h with ⟨hcs, _⟩ | ⟨a, len, cap, m, n, D, Pl, hcs, _, hl, hm, hmm, _, hi⟩
  · simp only [List.cons.injEq, and_true] at hcs
    exact ⟨[], ⟨none, 0, hcs, .inl rfl⟩, by simp [maxLen]⟩
  · simp only [List.cons.injEq, and_true] at hcs
    subst hcs
    have hC : Try.prog.cellsOf 22 = 1 := by kernel_rfl
    have hml : len ≤ m := by rw [hmm]; split <;> omega
    obtain ⟨l, hll, hp⟩ := list_of 0 (fun i (c : Nat) => w.cell? (a.add i) = some (.float .f64 c)) len (fun i hil => by
      obtain ⟨cs', hc, ht⟩ := hi i (by omega)
      rw [hC] at hc
      obtain ⟨_, hcl, hat⟩ := World.cells?_some hc
      obtain ⟨c, hcc⟩ := trod_float_any hcl ht
      refine ⟨c, ?_⟩
      have := hat 0 (by omega)
      rw [hcc, Go.Deep.add_add, Nat.mul_one, Nat.add_zero] at this
      exact this)
    refine ⟨l, ⟨some a, cap, by rw [flts_len, hll], ?_⟩, by omega⟩
    rcases Nat.eq_zero_or_pos len with h0 | h0
    · refine .inl ?_
      obtain rfl : l = [] := List.eq_nil_of_length_eq_zero (by omega)
      rfl
    · obtain ⟨b, off, spot⟩ := a
      have hfirst := hp 0 h0
      have hsp : spot = none := by
        cases spot with
        | none => rfl
        | some s =>
          simp only [Addr.add, if_true] at hfirst
          unfold World.cell? at hfirst
          split at hfirst <;> simp at hfirst
      subst hsp
      refine .inr ⟨b, off, rfl, ?_, fun j hj => ?_⟩
      · have := World.block_lt_of_cell? w _ hfirst
        simpa [Addr.add] using this
      · rw [flts_len, hll] at hj
        have := hp j hj
        have hadd : (⟨b, off, none⟩ : Addr).add j = ⟨b, off + j, none⟩ := by unfold Addr.add; split <;> simp_all
        rw [← hadd, this]
        have hjl : j < l.length := by omega
        simp [flts, List.getD, hjl]
end
end Go.Proofs.Ytaiciopfinlpiaa
