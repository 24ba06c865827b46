/- What a call keeps of memory that its caller made: cells that hold no byte, but for some; rows of bytes that grow. No statement of a seat is proved here. -/
import Derived.Test.YthbfpdkgbkpmiaaG0
import Derived.Test.YthbfpdkgbkpmiaaChain
namespace Go.Proofs.Ythbfpdkgbkpmiaa
open Go.RowKit

/-- No byte. -/
def plainV : Value → Bool
  | .int .u8 _ => false
  | _ => true

/-- Below N nothing has turned; cells that hold no byte hold what they held, but for those of S. -/
structure Kept (N : Nat) (S : Addr → Prop) (w w' : World) : Prop where
  below : Below N w w'
  cell : ∀ p v, w.cell? p = some v → plainV v = true → ¬ S p → w'.cell? p = some v
  froz : ∀ p, p.block < w.heap.size → w'.frozen? p = w.frozen? p

variable {N : Nat} {S S' : Addr → Prop} {w w' w'' : World}

theorem Kept.refl (N : Nat) (S : Addr → Prop) (w : World) : Kept N S w w := ⟨Below.refl _ _, fun _ _ h _ _ => h, fun _ _ => rfl⟩
theorem Kept.trans (h : Kept N S w w') (k : Kept N S w' w'') : Kept N S w w'' :=
  ⟨h.below.trans k.below, fun p v hp hv hs => k.cell p v (h.cell p v hp hv hs) hv hs, fun p hp => (k.froz p (Nat.lt_of_lt_of_le hp h.below.size)).trans (h.froz p hp)⟩
theorem Kept.mono (h : Kept N S w w') (hs : ∀ p, S p → S' p) : Kept N S' w w' := ⟨h.below, fun p v hp hv hn => h.cell p v hp hv (fun x => hn (hs p x)), h.froz⟩
theorem Kept.drew (h : Kept N S w w') : Kept N S w w'.drew := ⟨h.below.drew, h.cell, h.froz⟩
theorem Kept.of_below (h : Below w.heap.size w w') (hN : N ≤ w.heap.size) (S : Addr → Prop) : Kept N S w w' :=
  ⟨h.mono hN, fun p _ hp _ _ => (h.cell (World.block_lt_of_cell? w p hp)).trans hp, fun _ hp => h.frozen hp⟩
theorem Kept.alloc (h : Kept N S w w') (hN : N ≤ w'.heap.size) (o : Obj) : Kept N S w (w'.alloc o) :=
  h.trans (Kept.of_below ((Below.refl _ _).alloc (Nat.le_refl _) o) hN S)
theorem Kept.setCell (h : Kept N S w w') {p : Addr} (hN : N ≤ p.block) (hs : S p) (v : Value) : Kept N S w (w'.setCell p v) :=
  h.trans ⟨(Below.refl _ _).setCell hN v, fun q _ hq _ hn => (World.cell?_setCell_other w' p q v (fun e => hn (e ▸ hs))).trans hq, fun _ _ => World.frozen?_setCell _ _ _ _⟩
/-- A row of bytes that may be appended to. -/
def TextAt (w : World) (g cap : Nat) (l : List UInt8) : Prop :=
  ∃ (cur : Array Value) (fr fr' : Nat), w.heap[g]? = some (.cells cur 5 (fr, fr')) ∧ (∀ o, o < cur.size → ¬ (fr ≤ o ∧ o < fr')) ∧ l.length ≤ cap ∧ cap = cur.size ∧ cap ≤ maxLen ∧
    (∀ j, j < l.length → cur[j]? = some (.int .u8 (((l.getD j 0).toNat : Nat) : Int))) ∧ ∀ (j : Nat) (v : Value), cur[j]? = some v → plainV v = false

theorem TextAt.lt {g cap : Nat} {l : List UInt8} (h : TextAt w g cap l) : g < w.heap.size := by
  obtain ⟨cur, fr, fr', hg, _⟩ := h
  exact (Array.getElem?_eq_some_iff.1 hg).1
theorem TextAt.of_block {g cap : Nat} {l : List UInt8} (h : TextAt w g cap l) (hb : w'.heap[g]? = w.heap[g]?) : TextAt w' g cap l := by
  obtain ⟨cur, fr, fr', hg, r⟩ := h
  exact ⟨cur, fr, fr', hb.trans hg, r⟩
theorem TextAt.alloc {g cap : Nat} {l : List UInt8} (h : TextAt w g cap l) (o : Obj) : TextAt (w.alloc o) g cap l := h.of_block (Below.heap_alloc w o g h.lt)
theorem TextAt.drew {g cap : Nat} {l : List UInt8} (h : TextAt w g cap l) : TextAt w.drew g cap l := h.of_block rfl
theorem TextAt.cell {g cap : Nat} {l : List UInt8} (h : TextAt w g cap l) {j : Nat} (hj : j < l.length) : w.cell? ⟨g, j, none⟩ = some (.int .u8 (((l.getD j 0).toNat : Nat) : Int)) := by
  obtain ⟨cur, fr, fr', hg, _, _, _, _, hc, _⟩ := h
  rw [cell_of_row w g j cur _ (fr, fr') hg, hc j hj]
/-- A cell that holds no byte lies elsewhere. -/
theorem TextAt.apart {g cap : Nat} {l : List UInt8} (h : TextAt w g cap l) {p : Addr} {v : Value} (hp : w.cell? p = some v) (hv : plainV v = true) : p.block ≠ g := by
  obtain ⟨cur, fr, fr', hg, _, _, _, _, _, hu⟩ := h
  intro e
  have hs : ∃ j : Nat, (cur : Array Value)[j]? = some v := by
    unfold World.cell? at hp
    rw [e, hg] at hp
    simp only at hp
    first
      | exact ⟨_, hp⟩
      | (split at hp <;> first | exact ⟨_, hp⟩ | exact absurd hp (by simp))
  obtain ⟨j, hj⟩ := hs
  rw [hu j v hj] at hv
  cases hv
theorem TextAt.setCell {g cap : Nat} {l : List UInt8} (h : TextAt w g cap l) {p : Addr} (hp : p.block ≠ g) (v : Value) : TextAt (w.setCell p v) g cap l :=
  h.of_block (Below.heap_setCell w p v g (Ne.symm hp))

theorem setCell_setRow (w : World) (g o : Nat) (cur : Array Value) (t : TypeId) (fr : Nat × Nat) (v : Value) (hg : w.heap[g]? = some (.cells cur t fr)) : w.setCell ⟨g, o, none⟩ v = w.setRow g (cur.setIfInBounds o v) := setCell_eq_setRow w g o cur t fr v hg

theorem byteInfo : (Try.prog.info? 5).map (fun i => (i.zero, i.size, i.bytes)) = some (some (.int .u8 0), 1, 1) := by kernel_rfl

/-- append(s, b): one byte more. -/
theorem append_byte (w : World) (g s cap : Nat) (l : List UInt8) (b : Nat) (ty : TypeId) (hb : b < 256) (h : TextAt w g cap l) (hl : l.length ≤ 1000000) (hs : w.cell? ⟨s, 0, none⟩ = some (.int .u8 b)) :
    ∃ g' cap' w', (Builtin.append_ #[55, 55] ty #[.slice (some ⟨g, 0, none⟩) l.length cap, .slice (some ⟨s, 0, none⟩) 1 1]).run Try.prog w = .ok (.slice (some ⟨g', 0, none⟩) (l.length + 1) cap') w' ∧
      TextAt w' g' cap' (l ++ [UInt8.ofNat b]) ∧ w.grownBy w' (some g) ∧ (g' = g ∨ g' = w.heap.size) ∧ ∀ p, p.block < w.heap.size → w'.frozen? p = w.frozen? p := by
  obtain ⟨i, hi, hz, hsize, hby⟩ := info_parts byteInfo
  have hu := Try.underlying55
  obtain ⟨cur, fr, fr', hg, hfr, hlc, hcap, hcm, hc, hall⟩ := h
  have hbb : (UInt8.ofNat b).toNat = b := by simp; omega
  have hnews : ∀ j v, [Value.int .u8 (b : Int)][j]? = some v → w.cell? ((⟨s, 0, none⟩ : Addr).add j) = some v := by
    intro j v hv
    match j, hv with
    | 0, hv => simp at hv; subst hv; exact hs
    | j + 1, hv => simp at hv
  by_cases hroom : l.length + 1 ≤ cap
  · have hf := run_firstCells_some (P := Try.prog) w i.size 1 ⟨s, 0, none⟩ 1 1 [.int .u8 (b : Int)] (by rw [hsize]; rfl) hnews
    have hlt : l.length < cur.size := by omega
    have hcell : w.cell? ⟨g, l.length, none⟩ = some (cur[l.length]) := by rw [cell_of_row w g _ cur _ (fr, fr') hg, Array.getElem?_eq_getElem hlt]
    have hfz : w.frozen? ⟨g, l.length, none⟩ = false := by
      have := hfr l.length hlt
      simp only [World.frozen?, hg]
      simp; omega
    have hst : (storeCells ⟨g, l.length, none⟩ [Value.int .u8 (b : Int)] 0).run Try.prog w = .ok () (w.setRow g (cur.setIfInBounds l.length (.int .u8 b))) := by
      have hadd : (⟨g, l.length, none⟩ : Addr).add 0 = ⟨g, l.length, none⟩ := by unfold Addr.add; split <;> simp_all
      simp only [storeCells, Sem.run_bind]
      rw [hadd, run_store Try.prog w _ _ _ rfl, hcell]
      simp [hfz, setCell_setRow w g l.length cur _ (fr, fr') _ hg, Sem.run_pure]
    refine ⟨g, cap, w.setRow g (cur.setIfInBounds l.length (.int .u8 b)), ?_, ?_, ?_, .inl rfl, ?_⟩
    · have hl1 : l.length * i.size = l.length := by rw [hsize, Nat.mul_one]
      simp [Builtin.append_, run_underlying hu, sizeOf, typeInfo, hi, Builtin.lenOf, hroom, hf, Addr.add_lit, hl1, hst]
    · refine ⟨_, fr, fr', setRow_heap w g cur _ 5 _ hg, by simpa using hfr, by simp; omega, by simp; omega, hcm, fun j hj => ?_, fun j v hv => ?_⟩
      · rw [List.length_append, List.length_singleton] at hj
        rw [Array.getElem?_setIfInBounds]
        by_cases hjl : l.length = j
        · subst hjl
          simp [hlt, List.getD, hbb]
        · rw [if_neg hjl, hc j (by omega)]
          simp [List.getD, List.getElem?_append_left (by omega : j < l.length)]
      · rw [Array.getElem?_setIfInBounds] at hv
        split at hv
        · first
            | (split at hv
               · simp at hv; rw [← hv]; rfl
               · cases hv)
            | (simp at hv; rw [← hv]; rfl)
        · exact hall j v hv
    · exact ⟨rfl, rfl, rfl, by simp, fun k _ hk => setRow_other w g k _ (fun e => hk (by simp [e]))⟩
    · intro p _
      rw [← setCell_setRow w g l.length cur _ (fr, fr') _ hg]
      exact World.frozen?_setCell _ _ _ _
  · have holds : ∀ j u, (cur.toList.take l.length)[j]? = some u → w.cell? ((⟨g, 0, none⟩ : Addr).add j) = some u := by
      intro j u hj
      have hadd : (⟨g, 0, none⟩ : Addr).add j = ⟨g, j, none⟩ := by unfold Addr.add; split <;> simp_all
      rw [hadd, cell_of_row w g j cur _ (fr, fr') hg]
      rw [List.getElem?_take] at hj
      split at hj
      · simpa using hj
      · cases hj
    have hr := run_append_grow (P := Try.prog) w 55 ty 5 i (.int .u8 0) hu hi hz ⟨g, 0, none⟩ l.length cap (cur.toList.take l.length) (by rw [hsize, List.length_take]; simp; omega) holds ⟨s, 0, none⟩ 1 1 [.int .u8 (b : Int)] (by rw [hsize]; rfl) hnews (by omega) (by omega) (growslice_fits (by omega) (by rw [hby]; omega))
    have hge := grownCap_ge w (l.length + 1) cap 5
    have hcm2 : grownCap w (l.length + 1) cap 5 ≤ maxLen := grownCap_le_maxLen w (l.length + 1) cap 5 (by unfold maxLen; omega)
    generalize grownCap w (l.length + 1) cap 5 = C at *
    have hzs : (Builtin.zeroCells (Value.int .u8 0).cells (C - (l.length + 1))).size = C - (l.length + 1) := by rw [size_zeroCells]; show _ * 1 = _; omega
    refine ⟨w.heap.size, _, _, hr, ?_, ⟨rfl, rfl, rfl, by simp, fun k hk _ => heap_alloc_old w.drew _ hk⟩, .inr rfl, ?_⟩
    · have hlen : (cur.toList.take l.length).length = l.length := by rw [List.length_take]; simp; omega
      refine ⟨_, 0, 0, heap_alloc_new w.drew _, by intros; omega, by simp; omega, ?_, hcm2, fun j hj => ?_, fun j v hv => ?_⟩
      · simp only [Array.size_append, List.size_toArray, hlen, hzs, List.length_singleton]; omega
      · rw [List.length_append, List.length_singleton] at hj
        rw [Array.getElem?_append_left (by simp [hlen]; omega)]
        by_cases hjl : j = l.length
        · subst hjl
          rw [Array.getElem?_append_right (by simp [hlen])]
          simp [hlen, List.getD, hbb]
        · rw [Array.getElem?_append_left (by simp [hlen]; omega)]
          have := hc j (by omega)
          simp only [List.getElem?_toArray, List.getElem?_take]
          rw [if_pos (by omega), Array.getElem?_toList, this]
          simp [List.getD, List.getElem?_append_left (by omega : j < l.length)]
      · rw [Array.getElem?_append] at hv
        split at hv
        · rw [Array.getElem?_append] at hv
          split at hv
          · simp only [List.getElem?_toArray, List.getElem?_take] at hv
            split at hv
            · rw [Array.getElem?_toList] at hv; exact hall _ v hv
            · cases hv
          · simp only [List.getElem?_toArray] at hv
            have : v = .int .u8 (b : Int) := by
              have := List.mem_of_getElem? hv
              simpa using this
            rw [this]; rfl
        · have := Array.mem_of_getElem? hv
          simp only [Builtin.zeroCells, Array.mem_map] at this
          obtain ⟨q, _, hq⟩ := this
          have h1 : (Value.int .u8 0).cells.size = 1 := rfl
          rw [h1, Nat.mod_one] at hq
          rw [← hq]; rfl
    · intro p hp
      exact World.frozen?_alloc_old w.drew _ p (by show p.block ≠ w.heap.size; omega)

/-- At a step of a region that draws its order. -/
theorem step_append_byte {ops : Array Oper} {o : Oper} {a : Act} {w : World} {K : Act → World → Prop} {Q : Exit → Act → World → Prop} {E : Prop} (hgd : o.guard = none) (sl x : Operand)
    (ho : o.op = .call { callee := .builtin .append, args := #[sl, x], argTypes := #[55, 55] })
    (g s cap : Nat) (l : List UInt8) (b n : Nat) (hn : n = l.length) (hsl : a.eval sl = .slice (some ⟨g, 0, none⟩) n cap) (hx : a.eval x = .slice (some ⟨s, 0, none⟩) 1 1)
    (hb : b < 256) (ht : TextAt w g cap l) (hl : l.length ≤ 1000000) (hs : w.cell? ⟨s, 0, none⟩ = some (.int .u8 b))
    (h : ∀ g' cap' w', TextAt w' g' cap' (l ++ [UInt8.ofNat b]) → w.grownBy w' (some g) → (g' = g ∨ g' = w.heap.size) → (∀ p, p.block < w.heap.size → w'.frozen? p = w.frozen? p) → K (a.put o.dst (.slice (some ⟨g', 0, none⟩) (n + 1) cap')) w') :
    if Region.wanted o (yielded ops a.tmps) = true then Oper.wp Try.prog o a w K Q else E := by
  subst hn
  have hw : Region.wanted o (yielded ops a.tmps) = true := by simp [Region.wanted, hgd]
  rw [if_pos hw]
  obtain ⟨g', cap', w', hr, h1, h2, h3, h4⟩ := append_byte w g s cap l b o.type hb ht hl hs
  unfold Oper.wp execOp
  simp only [ho, resolve, invoke, builtin, Sem.run_bind, Sem.run_pure, Result.andThen_ok, List.map_toArray, List.map_cons, List.map_nil, hsl, hx, hr]
  exact h g' cap' w' h1 h2 h3 h4
end Go.Proofs.Ythbfpdkgbkpmiaa
