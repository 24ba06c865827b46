/- What the texts behind this one rest on: several texts in one. No statement of the seat is proved here. -/
import Derived.Test.YthbfpdkgbkpmiaaRefOut
import Derived.Test.YthbfpdkgbkpmiaaG5
import Derived.Test.YthbfpdkgbkpmiaaG34
import Derived.Test.YthbfpdkgbkpmiaaG10
namespace Go.Proofs.Ythbfpdkgbkpmiaa
section
open Go.RowKit Frm

theorem ouText_ref (x : BldD) (y : Ou) : sealL (ouHd x.cars.length y.h ++ y.cars.flatMap coB) = ouText x y := by
  unfold ouText
  rw [ouN_wr]
  refine congrArg sealL ?_
  unfold ouHd ouB ohB headL
  rw [numL_one 90, numL_one x.cars.length]
  simp only [List.append_assoc, List.cons_append, List.nil_append]
def ouRes (x : BldD) (y : Ou) : Value := if isOutB x y = true then .tuple #[.string ⟨(ouText x y).toArray⟩, .int .i64 0] else .tuple #[.string ⟨#[]⟩, .int .i64 1]
theorem refOut_res (x : BldD) (A : Option Addr) (cap : Nat) (y : Ou) (A' : Option Addr) (cp : Nat) (w : World) (hva : validE x = 0) (hxn : x.cars.length ≤ 1000) (hc : CarsAt w w.heap.size A x.cars) (hn : y.cars.length ≤ 1000) (hy : saneOu y) (hv : CosV w A' y.cars) :
    Calls Try.prog 17 #[x.agg A cap, ouAgg y A' cp] w fun e w' => e = .returned (ouRes x y) ∧ Below w.heap.size w w' := by
  unfold ouRes
  cases hB : isOutB x y
  · rw [if_neg Bool.false_ne_true]
    exact refOut_no x A cap y A' cp w hva (by omega) hc hn hy hv hB
  · rw [if_pos rfl, ← ouText_ref]
    exact refOut_good x A cap y A' cp w hva hxn hc hn hy hv hB
end

section
open Go.RowKit Frm

def upM (F : Nat) : Nat := 2 ^ (F - 1) - 1
def dnM (F : Nat) : Nat := (2 ^ F - 1) &&& 4294967294
def fitdCo (F : Nat) (c : CarOut) : CarOut := { c with iu := c.iu &&& upM F, id := c.id &&& dnM F, lu := c.lu &&& upM F, ld := c.ld &&& dnM F, cmd := ((m64 c.cmd % 6 : Nat) : Int), ph := ((m64 c.ph % 5 : Nat) : Int) }
def fitCos (F C : Nat) (cs : List CarOut) : List CarOut := (List.range C).map fun i => fitdCo F (cs.getD i default)
def fitdOh (F : Nat) (h : OutH) : OutH := { h with au := h.au &&& upM F, ad := h.ad &&& dnM F, su := h.su &&& upM F, sd := h.sd &&& dnM F, st := ((m64 h.st % 65536 : Nat) : Int) }
def fitOu (F C : Nat) (y : Ou) : Ou := ⟨fitdOh F y.h, fitCos F C y.cars⟩

theorem mask_downO {F : Nat} (h : F ≤ 32) : (2 ^ F - 1) &&& 4294967294 = 2 ^ F - 2 := by
  have := (by decide +kernel : ∀ F : Fin 33, (2 ^ F.val - 1) &&& 4294967294 = 2 ^ F.val - 2) ⟨F, by omega⟩
  exact this
theorem setB_and (n m : Nat) : setB (n &&& m) m = true := by
  unfold setB
  rw [Nat.and_assoc, Nat.and_self]
  exact beq_self_eq_true _
theorem fitOu_ok (F C : Nat) (y : Ou) (h1 : 2 ≤ F) (h2 : F ≤ 32) (h3 : 1 ≤ C) (h4 : C ≤ 8) : isOutB (sampleD (F : Int) C) (fitOu F C y) = true := by
  have hv := sample_valid (F : Int) C (by omega) (by omega) h3 h4
  have hl : (sampleD (F : Int) C).cars.length = C := sampleCars_length _ _
  have hF : (sampleD (F : Int) C).floors.toNat = F := Int.toNat_natCast F
  have hu : hallUp (sampleD (F : Int) C) = upM F := by unfold hallUp; rw [if_pos hv, hF]; rfl
  have hd : hallDown (sampleD (F : Int) C) = dnM F := by unfold hallDown dnM; rw [if_pos hv, hF, mask_downO h2]
  unfold isOutB
  rw [Bool.and_eq_true, Bool.and_eq_true]
  refine ⟨⟨?_, ?_⟩, ?_⟩
  · unfold ohIs
    rw [hu, hd]
    have a5 : inB 0 65535 (fitOu F C y).h.st = true := by
      rw [inB_iff]
      show 0 ≤ ((m64 y.h.st % 65536 : Nat) : Int) ∧ ((m64 y.h.st % 65536 : Nat) : Int) ≤ 65535
      omega
    rw [a5]
    show ((setB (y.h.au &&& upM F) (upM F) && setB (y.h.ad &&& dnM F) (dnM F)) && ((setB (y.h.su &&& upM F) (upM F) && setB (y.h.sd &&& dnM F) (dnM F)) && true)) = true
    rw [setB_and, setB_and, setB_and, setB_and]
    rfl
  · refine decide_eq_true ?_
    rw [hl]
    show (((fitCos F C y.cars).length : Nat) : Int) = C
    unfold fitCos
    rw [List.length_map, List.length_range]
  · rw [List.all_eq_true]
    intro c hc
    obtain ⟨i, _, rfl⟩ := List.mem_map.1 hc
    generalize y.cars.getD i default = q
    unfold coIs
    rw [hu, hd]
    have b5 : inB 0 5 (fitdCo F q).cmd = true := by
      rw [inB_iff]
      show 0 ≤ ((m64 q.cmd % 6 : Nat) : Int) ∧ ((m64 q.cmd % 6 : Nat) : Int) ≤ 5
      omega
    have b6 : inB 0 4 (fitdCo F q).ph = true := by
      rw [inB_iff]
      show 0 ≤ ((m64 q.ph % 5 : Nat) : Int) ∧ ((m64 q.ph % 5 : Nat) : Int) ≤ 4
      omega
    rw [b5, b6]
    show ((setB (q.iu &&& upM F) (upM F) && setB (q.id &&& dnM F) (dnM F)) && ((setB (q.lu &&& upM F) (upM F) && setB (q.ld &&& dnM F) (dnM F)) && (true && true))) = true
    rw [setB_and, setB_and, setB_and, setB_and]
    rfl
theorem sane_default_co : saneCo (default : CarOut) := by
  show ((0 : Nat) < 4294967296 ∧ (0 : Nat) < 4294967296) ∧ ((0 : Nat) < 4294967296 ∧ (0 : Nat) < 4294967296) ∧ In64 0 ∧ In64 0
  unfold In64; omega
theorem sane_getD_co {cs : List CarOut} (h : ∀ c ∈ cs, saneCo c) (i : Nat) : saneCo (cs.getD i default) := by
  rw [List.getD_eq_getElem?_getD]
  rcases Nat.lt_or_ge i cs.length with hi | hi
  · rw [List.getElem?_eq_getElem hi]; exact h _ (List.getElem_mem hi)
  · rw [List.getElem?_eq_none hi]; exact sane_default_co
theorem fitdCo_sane {F : Nat} {c : CarOut} (h : saneCo c) : saneCo (fitdCo F c) := by
  obtain ⟨⟨a, b⟩, ⟨d, e⟩, _, _⟩ := h
  refine ⟨⟨Nat.lt_of_le_of_lt Nat.and_le_left a, Nat.lt_of_le_of_lt Nat.and_le_left b⟩, ⟨Nat.lt_of_le_of_lt Nat.and_le_left d, Nat.lt_of_le_of_lt Nat.and_le_left e⟩, ?_, ?_⟩
  · show In64 ((m64 c.cmd % 6 : Nat) : Int)
    unfold In64; omega
  · show In64 ((m64 c.ph % 5 : Nat) : Int)
    unfold In64; omega
theorem fitOu_sane (F C : Nat) (y : Ou) (hy : saneOu y) : saneOu (fitOu F C y) := by
  obtain ⟨⟨⟨p1, p2⟩, ⟨p3, p4⟩, _⟩, pc⟩ := hy
  refine ⟨⟨⟨Nat.lt_of_le_of_lt Nat.and_le_left p1, Nat.lt_of_le_of_lt Nat.and_le_left p2⟩, ⟨Nat.lt_of_le_of_lt Nat.and_le_left p3, Nat.lt_of_le_of_lt Nat.and_le_left p4⟩, ?_⟩, ?_⟩
  · show In64 ((m64 y.h.st % 65536 : Nat) : Int)
    unfold In64; omega
  · intro c hc
    obtain ⟨i, _, rfl⟩ := List.mem_map.1 hc
    exact fitdCo_sane (sane_getD_co pc i)
end

section
open Go Go.RowKit Frm

def padCos (C : Nat) (cs : List CarOut) : List CarOut := (List.range C).map fun i => cs.getD i default
theorem padCos_length (C : Nat) (cs : List CarOut) : (padCos C cs).length = C := by unfold padCos; rw [List.length_map, List.length_range]
theorem fitCos_pad (F C : Nat) (cs : List CarOut) : fitCos F C cs = (padCos C cs).map (fitdCo F) := by
  unfold fitCos padCos
  rw [List.map_map]; rfl
theorem make_coins (n : Nat) (hn : n ≤ 1000) : ∀ w : World, (Instr.makeSlice 44 (.int .i64 n) (.int .i64 n)).run Try.prog w = .ok (.slice (some ⟨w.heap.size, 0, none⟩) n n) (w.alloc (.cells (flatOu (List.replicate n default)).toArray 93)) := by
  intro w
  have := run_make (P := Try.prog) w 44 93 Try.t93 (.agg (coV default).toArray) Try.underlying44 (by kernel_rfl) (by kernel_rfl) .i64 .i64 n n (by omega) (Int.le_refl _) (by show ((48 : Nat) : Int) * (n : Int) ≤ _; omega) (by omega)
  rw [this, Int.toNat_natCast]
  have e : madeCells (Value.agg (coV default).toArray).cells (n * (Try.t93).size) = (flatOu (List.replicate n default)).toArray := by
    apply Array.ext
    · rw [size_madeCells, List.size_toArray, flatOu_length, List.length_replicate]; rfl
    · intro i h1 h2
      rw [size_madeCells] at h1
      have h1' : i < n * 9 := h1
      have h3 := flatOu_at (List.replicate n default) (i / 9) (by rw [List.length_replicate]; omega) (i % 9) (Nat.mod_lt _ (by decide))
      rw [show i / 9 * 9 + i % 9 = i from by omega, List.getElem_replicate] at h3
      have h4 : (madeCells (Value.agg (coV default).toArray).cells (n * (Try.t93).size))[i]? = (coV default)[i % 9]? := by
        have h5 : i % 9 = 0 ∨ i % 9 = 1 ∨ i % 9 = 2 ∨ i % 9 = 3 ∨ i % 9 = 4 ∨ i % 9 = 5 ∨ i % 9 = 6 ∨ i % 9 = 7 ∨ i % 9 = 8 := by omega
        rw [Array.getElem?_eq_getElem (by rw [size_madeCells]; exact h1)]
        simp only [madeCells, Array.getElem_map, Array.getElem_range]
        show some ((coV default).toArray[i % 9]!) = _
        rcases h5 with h | h | h | h | h | h | h | h | h <;> rw [h] <;> rfl
      rw [← h3, Array.getElem?_eq_getElem (by rw [size_madeCells]; exact h1), ← List.getElem?_toArray, Array.getElem?_eq_getElem h2] at h4
      exact Option.some.inj h4
  rw [e]
theorem flatOu_append (l m : List CarOut) : flatOu (l ++ m) = flatOu l ++ flatOu m := by unfold flatOu; rw [List.flatMap_append]
theorem flatOu_drop (l : List CarOut) (k : Nat) : (flatOu l).drop (k * 9) = flatOu (l.drop k) := by
  rcases Nat.lt_or_ge k l.length with h | h
  · conv => lhs; rw [← List.take_append_drop k l]
    rw [flatOu_append, List.drop_append_of_le_length (by rw [flatOu_length, List.length_take]; omega), List.drop_eq_nil_of_le (by rw [flatOu_length, List.length_take]; omega), List.nil_append]
  · rw [List.drop_eq_nil_of_le h, List.drop_eq_nil_of_le (by rw [flatOu_length]; omega)]; rfl
theorem pad_split_co (C : Nat) (cs : List CarOut) : padCos C cs = cs.take (min cs.length C) ++ (List.replicate C default).drop (min cs.length C) := by
  apply List.ext_getElem?
  intro i
  unfold padCos
  rw [List.getElem?_map]
  rcases Nat.lt_or_ge i C with h | h
  · rw [List.getElem?_range h]
    simp only [Option.map_some]
    rcases Nat.lt_or_ge i (min cs.length C) with h2 | h2
    · rw [List.getElem?_append_left (by rw [List.length_take]; omega), List.getElem?_take, if_pos h2, List.getD_eq_getElem?_getD, List.getElem?_eq_getElem (by omega : i < cs.length)]; rfl
    · rw [List.getElem?_append_right (by rw [List.length_take]; omega), List.length_take, List.getElem?_drop, List.getD_eq_getElem?_getD, List.getElem?_eq_none (by omega : cs.length ≤ i), List.getElem?_replicate, if_pos (by omega)]; rfl
  · rw [List.getElem?_eq_none (by rw [List.length_range]; omega), List.getElem?_eq_none (by rw [List.length_append, List.length_take, List.length_drop, List.length_replicate]; omega)]; rfl
theorem flatOu_pad (C : Nat) (cs : List CarOut) : flatOu (cs.take (min cs.length C)) ++ (flatOu (List.replicate C default)).drop ((min cs.length C) * 9) = flatOu (padCos C cs) := by
  rw [flatOu_drop, ← flatOu_append, ← pad_split_co]
/-- A car of the row is changed: six cells. -/
theorem set_co (l : List CarOut) (k : Nat) (h : k < l.length) (a b c d : Nat) (e f : Int) :
    ((((((flatOu l).toArray.setIfInBounds (k * 9) (.int .u32 a)).setIfInBounds (k * 9 + 1) (.int .u32 b)).setIfInBounds (k * 9 + 3) (.int .u32 c)).setIfInBounds (k * 9 + 4) (.int .u32 d)).setIfInBounds (k * 9 + 6) (.int .i64 e)).setIfInBounds (k * 9 + 7) (.int .i64 f) = (flatOu (l.set k { l[k] with iu := a, id := b, lu := c, ld := d, cmd := e, ph := f })).toArray := by
  have e0 : l = l.take k ++ l[k] :: l.drop (k + 1) := by rw [List.getElem_cons_drop, List.take_append_drop]
  have hl : (flatOu (l.take k)).length = k * 9 := by rw [flatOu_length, List.length_take, Nat.min_eq_left (by omega)]
  have e1 : flatOu l = flatOu (l.take k) ++ (coV l[k] ++ flatOu (l.drop (k + 1))) := by
    conv => lhs; rw [e0]
    rw [flatOu_append]; rfl
  have e2 : l.set k { l[k] with iu := a, id := b, lu := c, ld := d, cmd := e, ph := f } = l.take k ++ { l[k] with iu := a, id := b, lu := c, ld := d, cmd := e, ph := f } :: l.drop (k + 1) := List.set_eq_take_append_cons_drop .. |>.trans (if_pos h)
  rw [e2, flatOu_append, e1]
  simp only [List.setIfInBounds_toArray]
  refine congrArg List.toArray ?_
  rw [List.set_append_right _ _ (by omega), List.set_append_right _ _ (by omega), List.set_append_right _ _ (by omega), List.set_append_right _ _ (by omega), List.set_append_right _ _ (by omega), List.set_append_right _ _ (by omega)]
  refine congrArg (fun x => flatOu (l.take k) ++ x) ?_
  rw [hl]
  simp only [Nat.sub_self, Nat.add_sub_cancel_left]
  rfl
end

section
open Go Go.RowKit Frm

theorem copy_cos (W : World) (A' : Option Addr) (cp : Nat) (ys : List CarOut) (hv : CosV W A' ys) (C : Nat) : ∃ W' k,
    (Builtin.copy_ #[44, 44] 3 #[.slice (some ⟨W.heap.size, 0, none⟩) C C, .slice A' ys.length cp]).run Try.prog (W.alloc (.cells (flatOu (List.replicate C default)).toArray 93)) = .ok k W' ∧
      W'.heap[W.heap.size]? = some (.cells (flatOu (padCos C ys)).toArray 93 (0, 0)) ∧ Below W.heap.size W W' ∧ W'.heap.size = W.heap.size + 1 := by
  have hg := heap_alloc_new W (.cells (flatOu (List.replicate C default)).toArray 93)
  have hb0 : Below W.heap.size W (W.alloc (.cells (flatOu (List.replicate C default)).toArray 93)) := (Below.refl _ _).alloc (Nat.le_refl _) _
  have hs : (Try.prog.info? 93).map (·.size) = some 9 := by
    obtain ⟨i, hi, hz, hsize, hby⟩ := info_parts carOutInfo
    rw [hi]; simp [hsize]
  have hpad0 : padCos C [] = List.replicate C default := by
    apply List.ext_getElem?
    intro i
    unfold padCos
    rw [List.getElem?_map]
    rcases Nat.lt_or_ge i C with h | h
    · rw [List.getElem?_range h, List.getElem?_replicate, if_pos h]; rfl
    · rw [List.getElem?_eq_none (by rw [List.length_range]; omega), List.getElem?_eq_none (by rw [List.length_replicate]; omega)]; rfl
  rcases hv with rfl | ⟨b, off, rfl, hc⟩
  · rw [hpad0]
    cases A' with
    | none =>
      obtain ⟨i, hi, hz, hsize, hby⟩ := info_parts carOutInfo
      refine ⟨_, goInt 0, ?_, hg, hb0, by simp⟩
      simp [Builtin.copy_, run_underlying Try.underlying44, Builtin.lenOf, Builtin.firstCells, sizeOf, typeInfo, hi, storeCells]
    | some a =>
      have hr := run_copy_wide (P := Try.prog) (W.alloc (.cells (flatOu (List.replicate C default)).toArray 93)) 44 44 3 93 W.heap.size 0 C C 9 0 a 0 cp (flatOu (List.replicate C default)).toArray 93 [] Try.underlying44 hs hg (Nat.zero_min C) rfl (fun j v h => by simp at h) (by simp) (fun v h => by simp at h)
      refine ⟨_, _, hr, ?_, ⟨hb0.os, hb0.tape, hb0.output, by rw [size_setRow]; exact hb0.size, fun k hk => (setRow_other _ _ k _ (by omega)).trans (hb0.block k hk)⟩, by rw [size_setRow]; simp⟩
      rw [setRow_heap _ _ _ _ _ _ hg]
      simp
  · have hmin : (min ys.length C) * 9 ≤ C * 9 := Nat.mul_le_mul_right _ (Nat.min_le_right _ _)
    have hfl : (flatOu (ys.take (min ys.length C))).length = (min ys.length C) * 9 := by rw [flatOu_length, List.length_take, Nat.min_eq_left (Nat.min_le_left _ _)]
    have hr := run_copy_wide (P := Try.prog) (W.alloc (.cells (flatOu (List.replicate C default)).toArray 93)) 44 44 3 93 W.heap.size 0 C C 9 (min ys.length C) ⟨b, off, none⟩ ys.length cp (flatOu (List.replicate C default)).toArray 93 (flatOu (ys.take (min ys.length C))) Try.underlying44 hs hg rfl hfl (fun j v h => by
      have h2 : (flatOu ys)[j]? = some v := by
        have hlt := (List.getElem?_eq_some_iff.1 h).1
        conv => lhs; rw [← List.take_append_drop (min ys.length C) ys, flatOu_append]
        rw [List.getElem?_append_left hlt]; exact h
      have h3 := CosV.flat hc j v h2
      exact (World.cell?_of_block (w := W) (Below.heap_alloc W _ _ (World.block_lt_of_cell? W _ h3))).trans h3) (by rw [hfl, List.size_toArray, flatOu_length, List.length_replicate]; omega) (flatOu_one _)
    refine ⟨_, _, hr, ?_, ⟨hb0.os, hb0.tape, hb0.output, by rw [size_setRow]; exact hb0.size, fun k hk => (setRow_other _ _ k _ (by omega)).trans (hb0.block k hk)⟩, by rw [size_setRow]; simp⟩
    rw [setRow_heap _ _ _ _ _ _ hg, List.take_zero, List.nil_append, Nat.zero_add, hfl, flatOu_pad]
end

section
open Go Go.RowKit Frm

def fitToO (F k : Nat) (l : List CarOut) : List CarOut := (l.take k).map (fitdCo F) ++ l.drop k
theorem fitToO_length (F k : Nat) (l : List CarOut) : (fitToO F k l).length = l.length := by
  unfold fitToO
  rw [List.length_append, List.length_map, List.length_take, List.length_drop]; omega
theorem fitToO_all (F : Nat) (l : List CarOut) : fitToO F l.length l = l.map (fitdCo F) := by
  unfold fitToO
  rw [List.take_length, List.drop_length, List.append_nil]
theorem fitToO_get (F k : Nat) (l : List CarOut) (h : k < l.length) : (fitToO F k l)[k]'(by rw [fitToO_length]; exact h) = l[k] := by
  have : (fitToO F k l)[k]? = l[k]? := by
    unfold fitToO
    rw [List.getElem?_append_right (by rw [List.length_map, List.length_take]; omega), List.length_map, List.length_take, List.getElem?_drop]
    congr 1; omega
  rw [List.getElem?_eq_getElem h, List.getElem?_eq_getElem (by rw [fitToO_length]; exact h)] at this
  exact Option.some.inj this
theorem fitToO_succ (F k : Nat) (l : List CarOut) (h : k < l.length) : (fitToO F k l).set k (fitdCo F l[k]) = fitToO F (k + 1) l := by
  unfold fitToO
  have hl : ((l.take k).map (fitdCo F)).length = k := by rw [List.length_map, List.length_take]; omega
  rw [List.set_append_right _ _ (by omega), hl, Nat.sub_self, List.drop_eq_getElem_cons h, List.set_cons_zero, List.take_succ_eq_append_getElem h, List.map_append, List.append_assoc]
  rfl
theorem pad_sane_co {C : Nat} {ys : List CarOut} (h : ∀ c ∈ ys, saneCo c) : ∀ c ∈ padCos C ys, saneCo c := fun c hc => by
  obtain ⟨i, _, rfl⟩ := List.mem_map.1 hc
  exact sane_getD_co h i
/-- The cells of car k. -/
theorem row_co {B b : Nat} {W1 wx : World} {t : TypeId} {l : List CarOut} (h : Lit B W1 b (.cells (flatOu l).toArray t (0, 0)) wx) {k : Nat} (hk : k < l.length) {j : Nat} (hj : j < 9) : wx.cell? ⟨b, k * 9 + j, none⟩ = (coV l[k])[j]? := by
  rw [h.cell, List.getElem?_toArray, flatOu_at l k hk j hj]
end
end Go.Proofs.Ythbfpdkgbkpmiaa
