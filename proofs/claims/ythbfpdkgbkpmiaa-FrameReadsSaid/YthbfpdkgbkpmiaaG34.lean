/- What the texts behind this one rest on: several texts in one. No statement of the seat is proved here. -/
import Derived.Test.YthbfpdkgbkpmiaaRefIn
import Derived.Test.YthbfpdkgbkpmiaaG24
import Derived.Test.YthbfpdkgbkpmiaaG5
import Derived.Laws.CopyRow
import Derived.Test.YthbfpdkgbkpmiaaG10
namespace Go.Proofs.Ythbfpdkgbkpmiaa
section
open Go.RowKit Frm

theorem numL_one (n : Nat) : numL n 1 = [UInt8.ofNat n] := by
  simp only [numL]
  refine congrArg (fun x => [x]) ?_
  apply UInt8.toNat_inj.1
  simp
theorem inText_ref (x : BldD) (y : In) : sealL (inHd x.cars.length y ++ y.cars.flatMap carB) = inText x y := by
  unfold inText
  rw [inN_wr]
  refine congrArg sealL ?_
  unfold inHd inB' headL
  rw [numL_one 165, numL_one x.cars.length]
  simp only [List.append_assoc, List.cons_append, List.nil_append]
/-- The answer of both. -/
def inRes (x : BldD) (y : In) : Value := if isInB x y = true then .tuple #[.string ⟨(inText x y).toArray⟩, .int .i64 0] else .tuple #[.string ⟨#[]⟩, .int .i64 1]
theorem refIn_res (x : BldD) (A : Option Addr) (cap : Nat) (y : In) (A' : Option Addr) (cp : Nat) (w : World) (hxn : x.cars.length ≤ 1000) (hc : CarsAt w w.heap.size A x.cars) (hn : y.cars.length ≤ 1000) (hy : saneIn y) (hv : CarsV w A' y.cars) :
    Calls Try.prog 12 #[x.agg A cap, inAgg y A' cp] w fun e w' => e = .returned (inRes x y) ∧ Below w.heap.size w w' := by
  unfold inRes
  cases hB : isInB x y
  · rw [if_neg Bool.false_ne_true]
    exact refIn_no x A cap y A' cp w (by omega) hc hn hy hv hB
  · rw [if_pos rfl, ← inText_ref]
    exact refIn_good x A cap y A' cp w hxn hc hn hy hv hB
end

section
open Go.RowKit Frm

def fitC (F : Nat) (c : CarIn) : CarIn := { c with floors := c.floors &&& (2 ^ F - 1), calls := c.calls &&& (2 ^ F - 1), floor := ((m64 c.floor % F : Nat) : Int), door := ((m64 c.door % 3 : Nat) : Int) }
def fitCars (F C : Nat) (cs : List CarIn) : List CarIn := (List.range C).map fun i => fitC F (cs.getD i default)
def fitKind (y : In) : Nat := m64 y.kind % 9
def fitCarN (C : Nat) (y : In) : Nat := if fitKind y = 0 then 0 else m64 y.car % C
def fitIn (F C : Nat) (y : In) : In := ⟨y.pu &&& (2 ^ F - 1) &&& (2 ^ (F - 1) - 1), (y.pd &&& (2 ^ F - 1)) &&& 4294967294, (fitKind y : Int), (fitCarN C y : Int), fitCars F C y.cars⟩

theorem mask_down {F : Nat} (h : F ≤ 32) : (2 ^ F - 1) &&& 4294967294 = 2 ^ F - 2 := by
  have := (by decide +kernel : ∀ F : Fin 33, (2 ^ F.val - 1) &&& 4294967294 = 2 ^ F.val - 2) ⟨F, by omega⟩
  exact this
theorem fitIn_ok (F C : Nat) (y : In) (h1 : 2 ≤ F) (h2 : F ≤ 32) (h3 : 1 ≤ C) (h4 : C ≤ 8) : isInB (sampleD (F : Int) C) (fitIn F C y) = true := by
  have hv := sample_valid (F : Int) C (by omega) (by omega) h3 h4
  have hl : (sampleD (F : Int) C).cars.length = C := sampleCars_length _ _
  have hF : (sampleD (F : Int) C).floors.toNat = F := Int.toNat_natCast F
  unfold isInB
  rw [decide_eq_true hv, Bool.true_and, Bool.and_eq_true]
  constructor
  · unfold headIs
    have hu : hallUp (sampleD (F : Int) C) = 2 ^ (F - 1) - 1 := by unfold hallUp; rw [if_pos hv, hF]
    have hd : hallDown (sampleD (F : Int) C) = 2 ^ F - 2 := by unfold hallDown; rw [if_pos hv, hF]
    rw [hu, hd, hl]
    have a1 : setB (fitIn F C y).pu (2 ^ (F - 1) - 1) = true := by
      unfold setB fitIn
      simp only
      rw [Nat.and_assoc, Nat.and_self]
      exact beq_self_eq_true _
    have a2 : setB (fitIn F C y).pd (2 ^ F - 2) = true := by
      unfold setB fitIn
      simp only
      rw [Nat.and_assoc y.pd, mask_down h2, Nat.and_assoc, Nat.and_self]
      exact beq_self_eq_true _
    have a3 : inB 0 8 (fitIn F C y).kind = true := by
      rw [inB_iff]
      show 0 ≤ ((m64 y.kind % 9 : Nat) : Int) ∧ ((m64 y.kind % 9 : Nat) : Int) ≤ 8
      omega
    have a4 : inB 0 ((C : Int) - 1) (fitIn F C y).car = true := by
      rw [inB_iff]
      show 0 ≤ (fitCarN C y : Int) ∧ (fitCarN C y : Int) ≤ (C : Int) - 1
      unfold fitCarN
      have := Nat.mod_lt (m64 y.car) (show C > 0 by omega)
      split <;> omega
    have a5 : (!((fitIn F C y).kind == 0 && (fitIn F C y).car != 0)) = true := by
      show (!(((fitKind y : Nat) : Int) == 0 && ((fitCarN C y : Nat) : Int) != 0)) = true
      unfold fitCarN
      by_cases h : fitKind y = 0
      · rw [if_pos h]; simp
      · rw [if_neg h, beq_eq_false_iff_ne.2 (by omega : ((fitKind y : Nat) : Int) ≠ 0)]; rfl
    have a6 : decide (((fitIn F C y).cars.length : Int) = (C : Int)) = true := decide_eq_true (by
      show (((fitCars F C y.cars).length : Nat) : Int) = C
      unfold fitCars
      rw [List.length_map, List.length_range])
    rw [a1, a2, a3, a4, a5, a6]
    rfl
  · rw [List.all_eq_true]
    intro c hc
    obtain ⟨i, _, rfl⟩ := List.mem_map.1 hc
    have hp : 0 < 2 ^ F := Nat.two_pow_pos F
    have b : ∀ n : Nat, floorsB (sampleD (F : Int) C).floors (n &&& (2 ^ F - 1)) = true := fun n => by
      unfold floorsB
      rw [hF, Nat.and_two_pow_sub_one_eq_mod, Nat.div_eq_of_lt (Nat.mod_lt _ hp)]
      rfl
    unfold carIs
    have b3 : inB 0 ((sampleD (F : Int) C).floors - 1) (fitC F (y.cars.getD i default)).floor = true := by
      rw [inB_iff]
      show 0 ≤ ((m64 (y.cars.getD i default).floor % F : Nat) : Int) ∧ ((m64 (y.cars.getD i default).floor % F : Nat) : Int) ≤ (F : Int) - 1
      have := Nat.mod_lt (m64 (y.cars.getD i default).floor) (show F > 0 by omega)
      omega
    have b4 : inB 0 2 (fitC F (y.cars.getD i default)).door = true := by
      rw [inB_iff]
      show 0 ≤ ((m64 (y.cars.getD i default).door % 3 : Nat) : Int) ∧ ((m64 (y.cars.getD i default).door % 3 : Nat) : Int) ≤ 2
      omega
    have b1 : floorsB (sampleD (F : Int) C).floors (fitC F (y.cars.getD i default)).floors = true := b _
    have b2 : floorsB (sampleD (F : Int) C).floors (fitC F (y.cars.getD i default)).calls = true := b _
    rw [b1, b2, b3, b4]
    rfl
theorem sane_default : saneCar (default : CarIn) := by
  show (0 : Nat) < 4294967296 ∧ (0 : Nat) < 4294967296 ∧ (0 : Nat) < 18446744073709551616 ∧ In64 0 ∧ In64 0
  unfold In64; omega
theorem sane_getD {cs : List CarIn} (h : ∀ c ∈ cs, saneCar c) (i : Nat) : saneCar (cs.getD i default) := by
  rw [List.getD_eq_getElem?_getD]
  rcases Nat.lt_or_ge i cs.length with hi | hi
  · rw [List.getElem?_eq_getElem hi]; exact h _ (List.getElem_mem hi)
  · rw [List.getElem?_eq_none hi]; exact sane_default
theorem fitC_sane {F : Nat} (h1 : 2 ≤ F) (h2 : F ≤ 32) {c : CarIn} (h : saneCar c) : saneCar (fitC F c) := by
  obtain ⟨a, b, d, _, _⟩ := h
  have := Nat.mod_lt (m64 c.floor) (show F > 0 by omega)
  refine ⟨Nat.lt_of_le_of_lt Nat.and_le_left a, Nat.lt_of_le_of_lt Nat.and_le_left b, d, ?_, ?_⟩
  · show In64 ((m64 c.floor % F : Nat) : Int)
    unfold In64; omega
  · show In64 ((m64 c.door % 3 : Nat) : Int)
    unfold In64; omega
theorem fitIn_sane (F C : Nat) (y : In) (hy : saneIn y) (h1 : 2 ≤ F) (h2 : F ≤ 32) (h3 : 1 ≤ C) (h4 : C ≤ 8) : saneIn (fitIn F C y) := by
  obtain ⟨p1, p2, _, _, pc⟩ := hy
  refine ⟨?_, ?_, ?_, ?_, ?_⟩
  · exact Nat.lt_of_le_of_lt Nat.and_le_left (Nat.lt_of_le_of_lt Nat.and_le_left p1)
  · exact Nat.lt_of_le_of_lt Nat.and_le_left (Nat.lt_of_le_of_lt Nat.and_le_left p2)
  · show In64 ((m64 y.kind % 9 : Nat) : Int)
    unfold In64; omega
  · show In64 ((fitCarN C y : Nat) : Int)
    unfold fitCarN In64
    have := Nat.mod_lt (m64 y.car) (show C > 0 by omega)
    split <;> omega
  · intro c hc
    obtain ⟨i, _, rfl⟩ := List.mem_map.1 hc
    exact fitC_sane h1 h2 (sane_getD pc i)
end

section
open Go Go.RowKit Frm

theorem run_copy_wide {P : Program} (w : World) (dT sT ty elem : TypeId) (g o dLen dCap size n : Nat) (a : Addr) (sLen sCap : Nat) (cur : Array Value) (t : TypeId) (cs : List Value)
    (hu : P.underlying dT = some (.slice elem)) (hs : (P.info? elem).map (·.size) = some size)
    (hg : w.heap[g]? = some (.cells cur t (0, 0))) (hn : Nat.min sLen dLen = n) (hcl : cs.length = n * size)
    (hsrc : ∀ j v, cs[j]? = some v → w.cell? (a.add j) = some v) (hfit : o + cs.length ≤ cur.size) (h1 : ∀ v ∈ cs, v.oneCell' = true) :
    (Builtin.copy_ #[dT, sT] ty #[.slice (some ⟨g, o, none⟩) dLen dCap, .slice (some a) sLen sCap]).run P w =
      .ok (goInt n) (w.setRow g (cur.toList.take o ++ cs ++ cur.toList.drop (o + cs.length)).toArray) := by
  have hl := run_loadCells_list (P := P) w a cs hsrc
  have hst := run_storeCells_at P g o t cs 0 cur w hg (by simpa using hfit) h1
  cases hq : P.info? elem with
  | none => simp [hq] at hs
  | some i =>
    have hi : i.size = size := by simpa [hq] using hs
    rw [hcl] at hl
    simp [Builtin.copy_, run_underlying hu, Builtin.lenOf, Builtin.firstCells, sizeOf, typeInfo, hq, hi, hn, hl, hst]
end

section
open Go Go.RowKit Frm

def padCars (C : Nat) (cs : List CarIn) : List CarIn := (List.range C).map fun i => cs.getD i default
theorem padCars_length (C : Nat) (cs : List CarIn) : (padCars C cs).length = C := by unfold padCars; rw [List.length_map, List.length_range]
theorem fitCars_pad (F C : Nat) (cs : List CarIn) : fitCars F C cs = (padCars C cs).map (fitC F) := by
  unfold fitCars padCars
  rw [List.map_map]; rfl
theorem make_carins (n : Nat) (hn : n ≤ 1000) : ∀ w : World, (Instr.makeSlice 31 (.int .i64 n) (.int .i64 n)).run Try.prog w = .ok (.slice (some ⟨w.heap.size, 0, none⟩) n n) (w.alloc (.cells (flatIn (List.replicate n default)).toArray 71)) := by
  intro w
  have := run_make (P := Try.prog) w 31 71 Try.t71 (.agg (carV default).toArray) Try.underlying31 (by kernel_rfl) (by kernel_rfl) .i64 .i64 n n (by omega) (Int.le_refl _) (by show ((56 : Nat) : Int) * (n : Int) ≤ _; omega) (by omega)
  rw [this, Int.toNat_natCast]
  have e : madeCells (Value.agg (carV default).toArray).cells (n * (Try.t71).size) = (flatIn (List.replicate n default)).toArray := by
    apply Array.ext
    · rw [size_madeCells, List.size_toArray, flatIn_length, List.length_replicate]; rfl
    · intro i h1 h2
      rw [size_madeCells] at h1
      have h1' : i < n * 11 := h1
      have h3 := flatIn_at (List.replicate n default) (i / 11) (by rw [List.length_replicate]; omega) (i % 11) (Nat.mod_lt _ (by decide))
      rw [show i / 11 * 11 + i % 11 = i from by omega, List.getElem_replicate] at h3
      have h4 : (madeCells (Value.agg (carV default).toArray).cells (n * (Try.t71).size))[i]? = (carV default)[i % 11]? := by
        have h5 : i % 11 = 0 ∨ i % 11 = 1 ∨ i % 11 = 2 ∨ i % 11 = 3 ∨ i % 11 = 4 ∨ i % 11 = 5 ∨ i % 11 = 6 ∨ i % 11 = 7 ∨ i % 11 = 8 ∨ i % 11 = 9 ∨ i % 11 = 10 := by omega
        rw [Array.getElem?_eq_getElem (by rw [size_madeCells]; exact h1)]
        simp only [madeCells, Array.getElem_map, Array.getElem_range]
        show some ((carV default).toArray[i % 11]!) = _
        rcases h5 with h | h | h | h | h | h | h | h | h | h | h <;> rw [h] <;> rfl
      rw [← h3, Array.getElem?_eq_getElem (by rw [size_madeCells]; exact h1), ← List.getElem?_toArray, Array.getElem?_eq_getElem h2] at h4
      exact Option.some.inj h4
  rw [e]
theorem flatIn_append (l m : List CarIn) : flatIn (l ++ m) = flatIn l ++ flatIn m := by unfold flatIn; rw [List.flatMap_append]
theorem flatIn_drop (l : List CarIn) (k : Nat) : (flatIn l).drop (k * 11) = flatIn (l.drop k) := by
  rcases Nat.lt_or_ge k l.length with h | h
  · conv => lhs; rw [← List.take_append_drop k l]
    rw [flatIn_append, List.drop_append_of_le_length (by rw [flatIn_length, List.length_take]; omega), List.drop_eq_nil_of_le (by rw [flatIn_length, List.length_take]; omega), List.nil_append]
  · rw [List.drop_eq_nil_of_le h, List.drop_eq_nil_of_le (by rw [flatIn_length]; omega)]; rfl
theorem pad_split (C : Nat) (cs : List CarIn) : padCars C cs = cs.take (min cs.length C) ++ (List.replicate C default).drop (min cs.length C) := by
  apply List.ext_getElem?
  intro i
  unfold padCars
  rw [List.getElem?_map]
  rcases Nat.lt_or_ge i C with h | h
  · rw [List.getElem?_range h]
    simp only [Option.map_some]
    rcases Nat.lt_or_ge i (min cs.length C) with h2 | h2
    · rw [List.getElem?_append_left (by rw [List.length_take]; omega), List.getElem?_take, if_pos h2, List.getD_eq_getElem?_getD, List.getElem?_eq_getElem (by omega : i < cs.length)]; rfl
    · rw [List.getElem?_append_right (by rw [List.length_take]; omega), List.length_take, List.getElem?_drop, List.getD_eq_getElem?_getD, List.getElem?_eq_none (by omega : cs.length ≤ i), List.getElem?_replicate, if_pos (by omega)]; rfl
  · rw [List.getElem?_eq_none (by rw [List.length_range]; omega), List.getElem?_eq_none (by rw [List.length_append, List.length_take, List.length_drop, List.length_replicate]; omega)]; rfl
theorem flatIn_pad (C : Nat) (cs : List CarIn) : flatIn (cs.take (min cs.length C)) ++ (flatIn (List.replicate C default)).drop ((min cs.length C) * 11) = flatIn (padCars C cs) := by
  rw [flatIn_drop, ← flatIn_append, ← pad_split]
/-- A car of the row is changed: four cells. -/
theorem set_car (l : List CarIn) (k : Nat) (h : k < l.length) (a d : Nat) (b c : Int) :
    ((((flatIn l).toArray.setIfInBounds (k * 11) (.int .u32 a)).setIfInBounds (k * 11 + 9) (.int .u32 d)).setIfInBounds (k * 11 + 5) (.int .i64 b)).setIfInBounds (k * 11 + 7) (.int .i64 c) = (flatIn (l.set k { l[k] with floors := a, floor := b, door := c, calls := d })).toArray := by
  have e : l = l.take k ++ l[k] :: l.drop (k + 1) := by rw [List.getElem_cons_drop, List.take_append_drop]
  have hl : (flatIn (l.take k)).length = k * 11 := by rw [flatIn_length, List.length_take, Nat.min_eq_left (by omega)]
  have e1 : flatIn l = flatIn (l.take k) ++ (carV l[k] ++ flatIn (l.drop (k + 1))) := by
    conv => lhs; rw [e]
    rw [flatIn_append]; rfl
  have e2 : l.set k { l[k] with floors := a, floor := b, door := c, calls := d } = l.take k ++ { l[k] with floors := a, floor := b, door := c, calls := d } :: l.drop (k + 1) := List.set_eq_take_append_cons_drop .. |>.trans (if_pos h)
  rw [e2, flatIn_append, e1]
  simp only [List.setIfInBounds_toArray]
  refine congrArg List.toArray ?_
  rw [List.set_append_right _ _ (by omega), List.set_append_right _ _ (by omega), List.set_append_right _ _ (by omega), List.set_append_right _ _ (by omega)]
  refine congrArg (fun x => flatIn (l.take k) ++ x) ?_
  rw [hl]
  simp only [Nat.sub_self, Nat.add_sub_cancel_left]
  rfl
end

section
open Go Go.RowKit Frm

theorem copy_cars (W : World) (A' : Option Addr) (cp : Nat) (ys : List CarIn) (hv : CarsV W A' ys) (C : Nat) : ∃ W' k,
    (Builtin.copy_ #[31, 31] 3 #[.slice (some ⟨W.heap.size, 0, none⟩) C C, .slice A' ys.length cp]).run Try.prog (W.alloc (.cells (flatIn (List.replicate C default)).toArray 71)) = .ok k W' ∧
      W'.heap[W.heap.size]? = some (.cells (flatIn (padCars C ys)).toArray 71 (0, 0)) ∧ Below W.heap.size W W' ∧ W'.heap.size = W.heap.size + 1 := by
  have hg := heap_alloc_new W (.cells (flatIn (List.replicate C default)).toArray 71)
  have hb0 : Below W.heap.size W (W.alloc (.cells (flatIn (List.replicate C default)).toArray 71)) := (Below.refl _ _).alloc (Nat.le_refl _) _
  have hs : (Try.prog.info? 71).map (·.size) = some 11 := by
    obtain ⟨i, hi, hz, hsize, hby⟩ := info_parts carInInfo
    rw [hi]; simp [hsize]
  have hpad0 : padCars C [] = List.replicate C default := by
    apply List.ext_getElem?
    intro i
    unfold padCars
    rw [List.getElem?_map]
    rcases Nat.lt_or_ge i C with h | h
    · rw [List.getElem?_range h, List.getElem?_replicate, if_pos h]; rfl
    · rw [List.getElem?_eq_none (by rw [List.length_range]; omega), List.getElem?_eq_none (by rw [List.length_replicate]; omega)]; rfl
  rcases hv with rfl | ⟨b, off, rfl, hc⟩
  · rw [hpad0]
    cases A' with
    | none =>
      obtain ⟨i, hi, hz, hsize, hby⟩ := info_parts carInInfo
      refine ⟨_, goInt 0, ?_, hg, hb0, by simp⟩
      simp [Builtin.copy_, run_underlying Try.underlying31, Builtin.lenOf, Builtin.firstCells, sizeOf, typeInfo, hi, storeCells]
    | some a =>
      have hr := run_copy_wide (P := Try.prog) (W.alloc (.cells (flatIn (List.replicate C default)).toArray 71)) 31 31 3 71 W.heap.size 0 C C 11 0 a 0 cp (flatIn (List.replicate C default)).toArray 71 [] Try.underlying31 hs hg (Nat.zero_min C) rfl (fun j v h => by simp at h) (by simp) (fun v h => by simp at h)
      refine ⟨_, _, hr, ?_, ⟨hb0.os, hb0.tape, hb0.output, by rw [size_setRow]; exact hb0.size, fun k hk => (setRow_other _ _ k _ (by omega)).trans (hb0.block k hk)⟩, by rw [size_setRow]; simp⟩
      rw [setRow_heap _ _ _ _ _ _ hg]
      simp
  · have hmin : (min ys.length C) * 11 ≤ C * 11 := Nat.mul_le_mul_right _ (Nat.min_le_right _ _)
    have hfl : (flatIn (ys.take (min ys.length C))).length = (min ys.length C) * 11 := by rw [flatIn_length, List.length_take, Nat.min_eq_left (Nat.min_le_left _ _)]
    have hr := run_copy_wide (P := Try.prog) (W.alloc (.cells (flatIn (List.replicate C default)).toArray 71)) 31 31 3 71 W.heap.size 0 C C 11 (min ys.length C) ⟨b, off, none⟩ ys.length cp (flatIn (List.replicate C default)).toArray 71 (flatIn (ys.take (min ys.length C))) Try.underlying31 hs hg rfl hfl (fun j v h => by
      have h2 : (flatIn ys)[j]? = some v := by
        have hlt := (List.getElem?_eq_some_iff.1 h).1
        conv => lhs; rw [← List.take_append_drop (min ys.length C) ys, flatIn_append]
        rw [List.getElem?_append_left hlt]; exact h
      have h3 := CarsV.flat hc j v h2
      exact (World.cell?_of_block (w := W) (Below.heap_alloc W _ _ (World.block_lt_of_cell? W _ h3))).trans h3) (by rw [hfl, List.size_toArray, flatIn_length, List.length_replicate]; omega) (flatIn_one _)
    refine ⟨_, _, hr, ?_, ⟨hb0.os, hb0.tape, hb0.output, by rw [size_setRow]; exact hb0.size, fun k hk => (setRow_other _ _ k _ (by omega)).trans (hb0.block k hk)⟩, by rw [size_setRow]; simp⟩
    rw [setRow_heap _ _ _ _ _ _ hg, List.take_zero, List.nil_append, Nat.zero_add, hfl, flatIn_pad]
end

section
open Go Go.RowKit Frm

def fitTo (F k : Nat) (l : List CarIn) : List CarIn := (l.take k).map (fitC F) ++ l.drop k
theorem fitTo_length (F k : Nat) (l : List CarIn) : (fitTo F k l).length = l.length := by
  unfold fitTo
  rw [List.length_append, List.length_map, List.length_take, List.length_drop]; omega
theorem fitTo_all (F : Nat) (l : List CarIn) : fitTo F l.length l = l.map (fitC F) := by
  unfold fitTo
  rw [List.take_length, List.drop_length, List.append_nil]
theorem fitTo_get (F k : Nat) (l : List CarIn) (h : k < l.length) : (fitTo F k l)[k]'(by rw [fitTo_length]; exact h) = l[k] := by
  have : (fitTo F k l)[k]? = l[k]? := by
    unfold fitTo
    rw [List.getElem?_append_right (by rw [List.length_map, List.length_take]; omega), List.length_map, List.length_take, List.getElem?_drop]
    congr 1; omega
  rw [List.getElem?_eq_getElem h, List.getElem?_eq_getElem (by rw [fitTo_length]; exact h)] at this
  exact Option.some.inj this
theorem fitTo_succ (F k : Nat) (l : List CarIn) (h : k < l.length) : (fitTo F k l).set k (fitC F l[k]) = fitTo F (k + 1) l := by
  unfold fitTo
  have hl : ((l.take k).map (fitC F)).length = k := by rw [List.length_map, List.length_take]; omega
  rw [List.set_append_right _ _ (by omega), hl, Nat.sub_self, List.drop_eq_getElem_cons h, List.set_cons_zero, List.take_succ_eq_append_getElem h, List.map_append, List.append_assoc]
  rfl
theorem pad_sane {C : Nat} {ys : List CarIn} (h : ∀ c ∈ ys, saneCar c) : ∀ c ∈ padCars C ys, saneCar c := fun c hc => by
  obtain ⟨i, _, rfl⟩ := List.mem_map.1 hc
  exact sane_getD h i
/-- The cells of car k. -/
theorem row_car {B b : Nat} {W1 wx : World} {t : TypeId} {l : List CarIn} (h : Lit B W1 b (.cells (flatIn l).toArray t (0, 0)) wx) {k : Nat} (hk : k < l.length) {j : Nat} (hj : j < 11) : wx.cell? ⟨b, k * 11 + j, none⟩ = (carV l[k])[j]? := by
  rw [h.cell, List.getElem?_toArray, flatIn_at l k hk j hj]
end
end Go.Proofs.Ythbfpdkgbkpmiaa
