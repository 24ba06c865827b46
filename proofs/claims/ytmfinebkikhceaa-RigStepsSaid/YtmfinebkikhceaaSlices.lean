/- Slices of one-cell values that came in; small arrays. No statement of the seat is proved here. -/
import Derived.Test.YtmfinebkikhceaaMem
import Derived.ChangeMaps5
import Derived.Deep.Slices
import Derived.ChangeSame
import Derived.ChangeOld
import Derived.ChangeMaps5
namespace Go.Proofs.Ytmfinebkikhceaa
open Go.RowKit Go.ChangeShapes Go.WideShapes Go.Deep

set_option maxRecDepth 100000

theorem laidOut : laidOutB Try.prog = true := by kernel_rfl
theorem own : ownKnob Try.prog.godebug = none := by kernel_rfl
theorem box_sz {w wx : World} {o : Obj} (h : Below (w.heap.size + 1) (w.alloc o) wx) : w.heap.size + 1 ≤ wx.heap.size := by
  have := h.size
  simpa using this
theorem u8_nat {x : Int} (h : (Lit.int .u8 x).wf = true) : ∃ n : Nat, x = (n : Int) ∧ n < 256 := by
  simp [Lit.wf, IntKind.min, IntKind.max, IntKind.bits, IntKind.signed] at h
  exact ⟨x.toNat, by omega, by omega⟩
theorem u32_nat {x : Int} (h : (Lit.int .u32 x).wf = true) : ∃ n : Nat, x = (n : Int) ∧ n < 4294967296 := by
  simp [Lit.wf, IntKind.min, IntKind.max, IntKind.bits, IntKind.signed] at h
  exact ⟨x.toNat, by omega, by omega⟩
theorem list_ofCt {α : Type} (P : Nat → α → Prop) : ∀ n : Nat, (∀ i, i < n → ∃ c, P i c) → ∃ l : List α, l.length = n ∧ ∀ i (h : i < l.length), P i l[i]
  | 0, _ => ⟨[], rfl, fun i hi => absurd hi (by simp)⟩
  | n + 1, h => by
    obtain ⟨l, hl, hp⟩ := list_ofCt P n (fun i hi => h i (by omega))
    obtain ⟨c, hc⟩ := h n (by omega)
    refine ⟨l ++ [c], by simp [hl], fun i hi => ?_⟩
    rcases Nat.lt_or_ge i l.length with hlt | hge
    · rw [List.getElem_append_left hlt]; exact hp i hlt
    · have : i = n := by simp at hi; omega
      subst this
      rw [List.getElem_append_right hge]
      simpa [hl] using hc

section
variable {H : Type} {enc : TypeId × Value → H} {w : World} {base : Nat} {spare : Nat → Bool} {held : Bool}
theorem trod_ints {P : Program} {fuel n : Nat} {t e : TypeId} {k : IntKind} {cs : List Value} {x : DataW H × List MemPlace} (ht : P.underlying t = some (.array n e)) (he : P.underlying e = some (.int k)) (hc : P.cellsOf e = 1) (hct : P.cellsOf t = n)
    (h : DataW.trod enc P w base spare held fuel t cs = some x) : ∃ ys : List Int, ys.length = n ∧ cs = (ys.map fun y => (Value.int k y)) ∧ x.1 = .agg (ys.map fun y => (DataW.lit (.int k y))) ∧ ∀ y ∈ ys, (Lit.int k y).wf = true := by
  obtain ⟨xs, m, _, hx, hlen, hxl, hg⟩ := DataW.trod_array ht h
  rw [hct] at hlen
  have hone : ∀ i, i < n → ∃ y : Int, cs[i]? = some (.int k y) ∧ (xs[i]?).map (·.1) = some (.lit (.int k y)) ∧ (Lit.int k y).wf = true := fun i hi => by
    have h1 := (hg i hi).trans (List.getElem?_eq_getElem (by omega : i < xs.length))
    rw [hc, Nat.mul_one, List.drop_eq_getElem_cons (by omega : i < cs.length)] at h1
    have h2 : DataW.trod enc P w base spare held m e [cs[i]'(by omega)] = some (xs[i]'(by omega)) := h1
    obtain ⟨y, hy, hd, hw⟩ := DataW.trod_int he h2
    simp only [List.cons.injEq, and_true] at hy
    exact ⟨y, by rw [List.getElem?_eq_getElem (by omega : i < cs.length), hy], by rw [List.getElem?_eq_getElem (by omega : i < xs.length), hd]; rfl, hw⟩
  obtain ⟨l, hl, hp⟩ := list_ofCt (fun i (y : Int) => cs[i]? = some (.int k y) ∧ (xs[i]?).map (·.1) = some (.lit (.int k y)) ∧ (Lit.int k y).wf = true) n hone
  refine ⟨l, hl, ?_, ?_, ?_⟩
  · apply List.ext_getElem?
    intro i
    rcases Nat.lt_or_ge i n with h | h
    · rw [(hp i (by omega)).1, List.getElem?_map, List.getElem?_eq_getElem (by omega : i < l.length)]; rfl
    · rw [List.getElem?_eq_none (by omega), List.getElem?_eq_none (by rw [List.length_map]; omega)]
  · rw [hx]
    refine congrArg DataW.agg ?_
    apply List.ext_getElem?
    intro i
    rw [List.getElem?_map, List.getElem?_map]
    rcases Nat.lt_or_ge i n with h | h
    · rw [(hp i (by omega)).2.1, List.getElem?_eq_getElem (by omega : i < l.length)]; rfl
    · rw [List.getElem?_eq_none (by omega : xs.length ≤ i), List.getElem?_eq_none (by omega : l.length ≤ i)]; rfl
  · intro y hy
    obtain ⟨i, hi, rfl⟩ := List.getElem_of_mem hy
    exact (hp i hi).2.2

/-- Values at an address, and as a slice. -/
def VAt (w : World) (A : Option Addr) (vs : List Value) : Prop := vs = [] ∨ ∃ b off, A = some ⟨b, off, none⟩ ∧ b < w.heap.size ∧ ∀ j, j < vs.length → w.cell? ⟨b, off + j, none⟩ = vs[j]?
def VV (w : World) (v : Value) (vs : List Value) : Prop := ∃ A cap, v = .slice A vs.length cap ∧ VAt w A vs
theorem VAt.below {w w' : World} {A : Option Addr} {l : List Value} (h : VAt w A l) (hb : RowKit.Below w.heap.size w w') : VAt w' A l := by
  rcases h with h | ⟨b, off, hA, hlt, hr⟩
  · exact .inl h
  · exact .inr ⟨b, off, hA, Nat.lt_of_lt_of_le hlt hb.size, fun j hj => (hb.cell (p := ⟨b, _, none⟩) hlt).trans (hr j hj)⟩
theorem VV.below {w w' : World} {v : Value} {l : List Value} (h : VV w v l) (hb : RowKit.Below w.heap.size w w') : VV w' v l := by
  obtain ⟨A, cap, hv, hA⟩ := h
  exact ⟨A, cap, hv, hA.below hb⟩
theorem VAt.at_ {w : World} {A : Option Addr} {vs : List Value} (h : VAt w A vs) {k : Nat} (hk : k < vs.length) : ∃ b off, A = some ⟨b, off, none⟩ ∧ b < w.heap.size ∧ w.cell? ⟨b, off + k, none⟩ = some vs[k] := by
  rcases h with h | ⟨b, off, hA, hlt, hr⟩
  · subst h; simp at hk
  · exact ⟨b, off, hA, hlt, (hr k hk).trans (List.getElem?_eq_getElem hk)⟩
theorem open_vv {T e : TypeId} {fuel : Nat} {v : Value} {x : DataW H × List MemPlace} (Pd : Value → Prop) (ht : Try.prog.underlying T = some (.slice e)) (hC : Try.prog.cellsOf e = 1)
    (hone : ∀ (m : Nat) (cs : List Value) (y : DataW H × List MemPlace), DataW.trod enc Try.prog w base spare held m e cs = some y → ∃ u, cs = [u] ∧ Pd u)
    (h : DataW.trod enc Try.prog w base spare held fuel T [v] = some x) : ∃ l : List Value, VV w v l ∧ (∀ u ∈ l, Pd u) ∧ l.length ≤ maxLen := by
  rcases open_slice ht h with ⟨hcs, _⟩ | ⟨a, len, cap, m, n, D, Pl, hcs, _, hl, hm, hmm, _, hi⟩
  · simp only [List.cons.injEq, and_true] at hcs
    exact ⟨[], ⟨none, 0, hcs, .inl rfl⟩, by simp, by simp [maxLen]⟩
  · simp only [List.cons.injEq, and_true] at hcs
    subst hcs
    have hml : len ≤ m := by rw [hmm]; split <;> omega
    obtain ⟨l, hll, hp⟩ := list_ofCt (fun i (c : Value) => Pd c ∧ w.cell? (a.add i) = some c) len (fun i hil => by
      obtain ⟨cs', hc, ht⟩ := hi i (by omega)
      rw [hC] at hc
      obtain ⟨_, hcl, hat⟩ := World.cells?_some hc
      obtain ⟨c, hcc, hpc⟩ := hone _ _ _ ht
      refine ⟨c, hpc, ?_⟩
      have := hat 0 (by omega)
      rw [hcc, Go.Deep.add_add, Nat.mul_one, Nat.add_zero] at this
      exact this)
    refine ⟨l, ⟨some a, cap, by rw [hll], ?_⟩, fun u hu => ?_, by omega⟩
    · rcases Nat.eq_zero_or_pos len with h0 | h0
      · exact .inl (List.eq_nil_of_length_eq_zero (by omega))
      · obtain ⟨b, off, spot⟩ := a
        have hfirst := (hp 0 (by omega)).2
        have hsp : spot = none := by
          cases spot with
          | none => rfl
          | some s =>
            simp only [Addr.add, if_true] at hfirst
            unfold World.cell? at hfirst
            split at hfirst <;> simp at hfirst
        subst hsp
        refine .inr ⟨b, off, rfl, ?_, fun j hj => ?_⟩
        · have := World.block_lt_of_cell? w _ hfirst
          simpa [Addr.add] using this
        · have := (hp j hj).2
          have hadd : (⟨b, off, none⟩ : Addr).add j = ⟨b, off + j, none⟩ := by unfold Addr.add; split <;> simp_all
          rw [← hadd, this, List.getElem?_eq_getElem hj]
    · obtain ⟨i, hi', rfl⟩ := List.getElem_of_mem hu
      exact (hp i hi').1
def strs (l : List ByteArray) : List Value := l.map fun s => .string s
def u8s (l : List Nat) : List Value := l.map fun z : Nat => .int .u8 z
theorem strs_len (l : List ByteArray) : (strs l).length = l.length := by simp [strs]
theorem u8s_len (l : List Nat) : (u8s l).length = l.length := by simp [u8s]
theorem list_back {α : Type} (f : α → Value) (Q : α → Prop) : ∀ vs : List Value, (∀ u ∈ vs, ∃ a, u = f a ∧ Q a) → ∃ l : List α, vs = l.map f ∧ ∀ a ∈ l, Q a
  | [], _ => ⟨[], rfl, by simp⟩
  | v :: vs, h => by
    obtain ⟨a, ha, hq⟩ := h v (by simp)
    obtain ⟨l, hl, hQ⟩ := list_back f Q vs (fun u hu => h u (List.mem_cons_of_mem _ hu))
    refine ⟨a :: l, by rw [hl, ha]; rfl, fun b hb => ?_⟩
    rcases List.mem_cons.1 hb with rfl | hb
    · exact hq
    · exact hQ b hb
theorem agg_of {T e : TypeId} {n : Nat} {r : Reach} {b0 : Nat} {v : Value} (ht : Try.prog.underlying T = some (.array n e)) (hv : Value.okWide Try.prog w r b0 T v) : ∃ cs, v = .agg cs ∧ cs.size = Try.prog.cellsOf T := by
  simp only [Value.okWide, ht] at hv
  obtain ⟨cs, h1, h2, _⟩ := hv
  exact ⟨cs, h1, h2⟩
theorem u16_nat {x : Int} (h : (Lit.int .u16 x).wf = true) : ∃ n : Nat, x = (n : Int) ∧ n < 65536 := by
  simp [Lit.wf, IntKind.min, IntKind.max, IntKind.bits, IntKind.signed] at h
  exact ⟨x.toNat, by omega, by omega⟩
theorem open_au8_3 {r : Reach} {b0 : Nat} {v : Value} {d : DataW H} {p : List MemPlace} (hv : Value.okWide Try.prog w r b0 40 v) (h : DataW.Trod enc Try.prog w base spare held 40 v d p) :
    ∃ x y z : Nat, v = .agg #[.int .u8 x, .int .u8 y, .int .u8 z] ∧ x < 256 ∧ y < 256 ∧ z < 256 := by
  obtain ⟨⟨l⟩, rfl, hsz⟩ := agg_of Try.underlying40 hv
  obtain ⟨fuel, hf⟩ := h
  obtain ⟨ys, hl, hcs, _, hw⟩ := trod_ints Try.underlying40 Try.underlying5 (by kernel_rfl) (by kernel_rfl) hf
  match ys, hl with
  | [x, y, z], _ =>
    obtain ⟨m, rfl, hm⟩ := u8_nat (hw x (by simp))
    obtain ⟨n, rfl, hn⟩ := u8_nat (hw y (by simp))
    obtain ⟨k, rfl, hk⟩ := u8_nat (hw z (by simp))
    refine ⟨m, n, k, ?_, hm, hn, hk⟩
    have : l = [.int .u8 m, .int .u8 n, .int .u8 k] := by simpa [Value.cells] using hcs
    rw [this]
theorem i64_of {x : Int} (h : (Lit.int .i64 x).wf = true) : -9223372036854775808 ≤ x ∧ x ≤ 9223372036854775807 := by
  simp [Lit.wf, IntKind.min, IntKind.max, IntKind.bits, IntKind.signed] at h
  omega
end
end Go.Proofs.Ytmfinebkikhceaa
