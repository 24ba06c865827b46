/- Contacts, states and lists of contacts that came in as arguments. No statement of the seat is proved here. -/
import Derived.Test.YtcobcefefifmcaaCtSane
import Derived.Deep.Slices
import Derived.ChangeSame
import Derived.ChangeOld
import Derived.ChangeMaps5
namespace Go.Proofs.Ytcobcefefifmcaa
open Go.RowKit Go.ChangeShapes Go.WideShapes Go.Deep

theorem laidOut : laidOutB Try.prog = true := by kernel_rfl
theorem own : ownKnob Try.prog.godebug = none := by kernel_rfl
theorem box_sz {w wx : World} {o : Obj} (h : Below (w.heap.size + 1) (w.alloc o) wx) : w.heap.size + 1 ≤ wx.heap.size := by
  have := h.size
  simpa using this
theorem u8_nat {x : Int} (h : (Lit.int .u8 x).wf = true) : ∃ n : Nat, x = (n : Int) ∧ n < 256 := by
  simp [Lit.wf, IntKind.min, IntKind.max, IntKind.bits, IntKind.signed] at h
  exact ⟨x.toNat, by omega, by omega⟩
theorem u32_nat {x : Int} (h : (Lit.int .u32 x).wf = true) : ∃ n : Nat, x = (n : Int) ∧ n < 4294967296 := by
  simp [Lit.wf, IntKind.min, IntKind.max, IntKind.bits, IntKind.signed] at h
  exact ⟨x.toNat, by omega, by omega⟩
theorem list_ofCt {α : Type} (P : Nat → α → Prop) : ∀ n : Nat, (∀ i, i < n → ∃ c, P i c) → ∃ l : List α, l.length = n ∧ ∀ i (h : i < l.length), P i l[i]
  | 0, _ => ⟨[], rfl, fun i hi => absurd hi (by simp)⟩
  | n + 1, h => by
    obtain ⟨l, hl, hp⟩ := list_ofCt P n (fun i hi => h i (by omega))
    obtain ⟨c, hc⟩ := h n (by omega)
    refine ⟨l ++ [c], by simp [hl], fun i hi => ?_⟩
    rcases Nat.lt_or_ge i l.length with hlt | hge
    · rw [List.getElem_append_left hlt]; exact hp i hlt
    · have : i = n := by simp at hi; omega
      subst this
      rw [List.getElem_append_right hge]
      simpa [hl] using hc

section
variable {H : Type} {enc : TypeId × Value → H} {w : World} {base : Nat} {spare : Nat → Bool} {held : Bool}

theorem trod_ct {fuel : Nat} {cs : List Value} {x : DataW H × List MemPlace} (h : DataW.trod enc Try.prog w base spare held fuel 24 cs = some x) : ∃ c : Ct, cs = c.cells ∧ c.ok := by
  obtain ⟨xs, n, _, _, hlen, hxl, hg⟩ := DataW.trod_struct Try.underlying24 h
  have hC : Try.prog.cellsOf 24 = 5 := by kernel_rfl
  have hku : Try.prog.cellsOf 22 = 1 := by kernel_rfl
  have hkb : Try.prog.cellsOf 4 = 1 := by kernel_rfl
  rw [hC] at hlen
  match cs, hlen with
  | [c0, c1, c2, c3, c4], _ =>
    have hyl : xs.length = 5 := by rw [hxl]; rfl
    have at_ : ∀ j, j < 5 → ∃ y, xs[j]? = some y := fun j hj => ⟨_, List.getElem?_eq_getElem (by omega)⟩
    obtain ⟨y0, e0⟩ := at_ 0 (by omega)
    obtain ⟨y1, e1⟩ := at_ 1 (by omega)
    obtain ⟨y2, e2⟩ := at_ 2 (by omega)
    obtain ⟨y3, e3⟩ := at_ 3 (by omega)
    obtain ⟨y4, e4⟩ := at_ 4 (by omega)
    have i0 := (hg 0 _ rfl).trans e0
    have i1 := (hg 1 _ rfl).trans e1
    have i2 := (hg 2 _ rfl).trans e2
    have i3 := (hg 3 _ rfl).trans e3
    have i4 := (hg 4 _ rfl).trans e4
    simp [hku, hkb] at i0 i1 i2 i3 i4
    obtain ⟨z0, a0, _, wf⟩ := DataW.trod_int Try.underlying22 i0
    obtain ⟨z1, a1, _⟩ := DataW.trod_bool Try.underlying4 i1
    obtain ⟨z2, a2, _⟩ := DataW.trod_bool Try.underlying4 i2
    obtain ⟨z3, a3, _⟩ := DataW.trod_bool Try.underlying4 i3
    obtain ⟨z4, a4, _⟩ := DataW.trod_bool Try.underlying4 i4
    simp only [List.cons.injEq, and_true] at a0 a1 a2 a3 a4
    subst a0 a1 a2 a3 a4
    obtain ⟨f, rfl, hf⟩ := u32_nat wf
    exact ⟨⟨f, z1, z2, z3, z4⟩, rfl, hf⟩
theorem trod_counts {fuel : Nat} {cs : List Value} {x : DataW H × List MemPlace} (h : DataW.trod enc Try.prog w base spare held fuel 29 cs = some x) : ∃ l : List Int, l.length = 36 ∧ cs = l.map fun k => (Value.int .i64 k) := by
  obtain ⟨xs, m, _, _, hlen, hxl, hg⟩ := DataW.trod_array Try.underlying29 h
  have hC : Try.prog.cellsOf 29 = 36 := by kernel_rfl
  have hk : Try.prog.cellsOf 3 = 1 := by kernel_rfl
  rw [hC] at hlen
  have hone : ∀ i, i < 36 → ∃ k : Int, cs[i]? = some (.int .i64 k) := fun i hi => by
    have h1 := (hg i hi).trans (List.getElem?_eq_getElem (by omega : i < xs.length))
    rw [hk, Nat.mul_one, List.drop_eq_getElem_cons (by omega : i < cs.length)] at h1
    have h2 : DataW.trod enc Try.prog w base spare held m 3 [cs[i]'(by omega)] = some (xs[i]'(by omega)) := h1
    obtain ⟨k, hk', _⟩ := DataW.trod_int Try.underlying3 h2
    simp only [List.cons.injEq, and_true] at hk'
    exact ⟨k, by rw [List.getElem?_eq_getElem (by omega : i < cs.length), hk']⟩
  obtain ⟨l, hl, hp⟩ := list_ofCt (fun i (k : Int) => cs[i]? = some (.int .i64 k)) 36 hone
  refine ⟨l, hl, ?_⟩
  apply List.ext_getElem?
  intro i
  rcases Nat.lt_or_ge i 36 with h | h
  · rw [hp i (by omega), List.getElem?_map, List.getElem?_eq_getElem (by omega : i < l.length)]; rfl
  · rw [List.getElem?_eq_none (by omega), List.getElem?_eq_none (by rw [List.length_map]; omega)]
theorem trod_db {fuel : Nat} {cs : List Value} {x : DataW H × List MemPlace} (h : DataW.trod enc Try.prog w base spare held fuel 31 cs = some x) : ∃ s : Db, cs = s.cells.toList ∧ s.ok := by
  obtain ⟨xs, n, _, _, hlen, hxl, hg⟩ := DataW.trod_struct Try.underlying31 h
  have hC : Try.prog.cellsOf 31 = 41 := by kernel_rfl
  have hkc : Try.prog.cellsOf 24 = 5 := by kernel_rfl
  have hka : Try.prog.cellsOf 29 = 36 := by kernel_rfl
  rw [hC] at hlen
  have hyl : xs.length = 2 := by rw [hxl]; rfl
  have i0 := (hg 0 _ rfl).trans (List.getElem?_eq_getElem (by omega : 0 < xs.length))
  have i1 := (hg 1 _ rfl).trans (List.getElem?_eq_getElem (by omega : 1 < xs.length))
  replace i0 : DataW.trod enc Try.prog w base spare held n 24 ((cs.drop 0).take (Try.prog.cellsOf 24)) = some _ := i0
  replace i1 : DataW.trod enc Try.prog w base spare held n 29 ((cs.drop 5).take (Try.prog.cellsOf 29)) = some _ := i1
  rw [hkc] at i0
  rw [hka] at i1
  obtain ⟨c, hc, hok⟩ := trod_ct i0
  obtain ⟨l, hl, hk⟩ := trod_counts i1
  refine ⟨⟨c, l⟩, ?_, hok, hl⟩
  unfold Db.cells
  rw [List.toList_toArray, ← hk, ← hc, List.drop_zero, List.take_of_length_le (by rw [List.length_drop]; omega : (cs.drop 5).length ≤ 36), List.take_append_drop]
theorem open_ct {r : Reach} {b0 : Nat} {v : Value} {d : DataW H} {p : List MemPlace} (hv : Value.okWide Try.prog w r b0 24 v) (h : DataW.Trod enc Try.prog w base spare held 24 v d p) : ∃ c : Ct, v = c.agg ∧ c.ok := by
  obtain ⟨cs, rfl, hsz⟩ := okWide_struct Try.underlying24 hv
  obtain ⟨fuel, hf⟩ := h
  obtain ⟨c, hc, hok⟩ := trod_ct hf
  refine ⟨c, ?_, hok⟩
  have : cs = c.cells.toArray := by rw [← hc]; simp [Value.cells]
  rw [this]; rfl
theorem open_db {r : Reach} {b0 : Nat} {v : Value} {d : DataW H} {p : List MemPlace} (hv : Value.okWide Try.prog w r b0 31 v) (h : DataW.Trod enc Try.prog w base spare held 31 v d p) : ∃ s : Db, v = .agg s.cells ∧ s.ok := by
  obtain ⟨cs, rfl, hsz⟩ := okWide_struct Try.underlying31 hv
  obtain ⟨fuel, hf⟩ := h
  obtain ⟨s, hs, hok⟩ := trod_db hf
  refine ⟨s, ?_, hok⟩
  have : cs = s.cells := by rw [← Array.toArray_toList (xs := s.cells), ← hs]; simp [Value.cells]
  rw [this]
theorem open_cts {fuel : Nat} {v : Value} {x : DataW H × List MemPlace} (h : DataW.trod enc Try.prog w base spare held fuel 39 [v] = some x) : ∃ l : List Ct, LV w v l ∧ (∀ c ∈ l, c.ok) ∧ l.length ≤ maxLen := by
  rcases open_slice Try.underlying39 h with ⟨hcs, _⟩ | ⟨a, len, cap, m, n, D, Pl, hcs, _, hl, hm, hmm, _, hi⟩
  · simp only [List.cons.injEq, and_true] at hcs
    exact ⟨[], ⟨none, 0, hcs, .inl rfl⟩, by simp, by simp [maxLen]⟩
  · simp only [List.cons.injEq, and_true] at hcs
    subst hcs
    have hC : Try.prog.cellsOf 24 = 5 := by kernel_rfl
    have hml : len ≤ m := by rw [hmm]; split <;> omega
    obtain ⟨l, hll, hp⟩ := list_ofCt (fun i (c : Ct) => c.ok ∧ ∀ j v, c.cells[j]? = some v → w.cell? (a.add (i * 5 + j)) = some v) len (fun i hil => by
      obtain ⟨cs', hc, ht⟩ := hi i (by omega)
      rw [hC] at hc
      obtain ⟨c, hcc, hok⟩ := trod_ct ht
      obtain ⟨_, hcl, hat⟩ := World.cells?_some hc
      refine ⟨c, hok, fun j v hv => ?_⟩
      have hj : j < 5 := by
        rcases Nat.lt_or_ge j 5 with h | h
        · exact h
        · rw [List.getElem?_eq_none (by show 5 ≤ j; exact h)] at hv; cases hv
      rw [← Go.Deep.add_add, hat j hj, hcc]; exact hv)
    refine ⟨l, ⟨some a, cap, by rw [hll], ?_⟩, fun c hc => ?_, by omega⟩
    · rcases Nat.eq_zero_or_pos len with h0 | h0
      · exact .inl (List.eq_nil_of_length_eq_zero (by omega))
      · obtain ⟨b, off, spot⟩ := a
        have hfirst := (hp 0 (by omega)).2 0 _ rfl
        have hsp : spot = none := by
          cases spot with
          | none => rfl
          | some s =>
            simp only [Nat.zero_mul, Nat.add_zero, Addr.add, if_true] at hfirst
            unfold World.cell? at hfirst
            split at hfirst <;> simp at hfirst
        subst hsp
        refine .inr ⟨b, off, rfl, fun j v hv => ?_⟩
        have hj : j < l.length * 5 := by
          rcases Nat.lt_or_ge j (l.length * 5) with h | h
          · exact h
          · rw [List.getElem?_eq_none (by rw [flat_length]; exact h)] at hv; cases hv
        have hg := flat_get l (j / 5) (by omega) (j % 5) (Nat.mod_lt _ (by decide))
        rw [show j / 5 * 5 + j % 5 = j from by omega, hv] at hg
        have := (hp (j / 5) (by omega)).2 (j % 5) v hg.symm
        rw [show j / 5 * 5 + j % 5 = j from by omega] at this
        rw [← Addr.add_mid b off j]
        exact this
    · obtain ⟨i, hi', rfl⟩ := List.getElem_of_mem hc
      exact (hp i hi').1
end
end Go.Proofs.Ytcobcefefifmcaa
