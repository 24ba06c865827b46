/- What the texts behind this one rest on: several texts in one. No statement of the seat is proved here. -/
import Derived.Test.YtapkjknpoafhjaaFrameMath
import Derived.Laws.CopyRow
import Derived.Test.YtapkjknpoafhjaaFrRefB
import Derived.Test.YtapkjknpoafhjaaFrSane
import Derived.Test.YtapkjknpoafhjaaChain
import Derived.Test.YtapkjknpoafhjaaMem
import Derived.Deep.MidRow
import Derived.Deep.Heap
namespace Go.Proofs.Ytapkjknpoafhjaa
section
open Go Go.RowKit Frm

theorem run_copy_wide {P : Program} (w : World) (dT sT ty elem : TypeId) (g o dLen dCap size n : Nat) (a : Addr) (sLen sCap : Nat) (cur : Array Value) (t : TypeId) (cs : List Value)
    (hu : P.underlying dT = some (.slice elem)) (hs : (P.info? elem).map (·.size) = some size)
    (hg : w.heap[g]? = some (.cells cur t (0, 0))) (hn : Nat.min sLen dLen = n) (hcl : cs.length = n * size)
    (hsrc : ∀ j v, cs[j]? = some v → w.cell? (a.add j) = some v) (hfit : o + cs.length ≤ cur.size) (h1 : ∀ v ∈ cs, v.oneCell' = true) :
    (Builtin.copy_ #[dT, sT] ty #[.slice (some ⟨g, o, none⟩) dLen dCap, .slice (some a) sLen sCap]).run P w =
      .ok (goInt n) (w.setRow g (cur.toList.take o ++ cs ++ cur.toList.drop (o + cs.length)).toArray) := by
  have hl := run_loadCells_list (P := P) w a cs hsrc
  have hst := run_storeCells_at P g o t cs 0 cur w hg (by simpa using hfit) h1
  cases hq : P.info? elem with
  | none => simp [hq] at hs
  | some i =>
    have hi : i.size = size := by simpa [hq] using hs
    rw [hcl] at hl
    simp [Builtin.copy_, run_underlying hu, Builtin.lenOf, Builtin.firstCells, sizeOf, typeInfo, hq, hi, hn, hl, hst]
end

section
open Go.RowKit Frm

def upM (F : Nat) : Nat := 2 ^ (F - 1) - 1
def dnM (F : Nat) : Nat := (2 ^ F - 1) &&& 4294967294
def fitdCo (F : Nat) (c : CarOut) : CarOut := { c with iu := c.iu &&& upM F, id := c.id &&& dnM F, lu := c.lu &&& upM F, ld := c.ld &&& dnM F, cmd := ((m64 c.cmd % 6 : Nat) : Int), ph := ((m64 c.ph % 5 : Nat) : Int) }
def fitCos (F C : Nat) (cs : List CarOut) : List CarOut := (List.range C).map fun i => fitdCo F (cs.getD i default)
def fitdOh (F : Nat) (h : OutH) : OutH := { h with au := h.au &&& upM F, ad := h.ad &&& dnM F, su := h.su &&& upM F, sd := h.sd &&& dnM F, st := ((m64 h.st % 65536 : Nat) : Int) }
def fitOu (F C : Nat) (y : Ou) : Ou := ⟨fitdOh F y.h, fitCos F C y.cars⟩

theorem mask_downO {F : Nat} (h : F ≤ 32) : (2 ^ F - 1) &&& 4294967294 = 2 ^ F - 2 := by
  have := (by decide +kernel : ∀ F : Fin 33, (2 ^ F.val - 1) &&& 4294967294 = 2 ^ F.val - 2) ⟨F, by omega⟩
  exact this
theorem setB_and (n m : Nat) : setB (n &&& m) m = true := by
  unfold setB
  rw [Nat.and_assoc, Nat.and_self]
  exact beq_self_eq_true _
theorem fitOu_ok (F C : Nat) (y : Ou) (h1 : 2 ≤ F) (h2 : F ≤ 32) (h3 : 1 ≤ C) (h4 : C ≤ 8) : isOutB (sampleD (F : Int) C) (fitOu F C y) = true := by
  have hv := sample_valid (F : Int) C (by omega) (by omega) h3 h4
  have hl : (sampleD (F : Int) C).cars.length = C := sampleCars_length _ _
  have hF : (sampleD (F : Int) C).floors.toNat = F := Int.toNat_natCast F
  have hu : hallUp (sampleD (F : Int) C) = upM F := by unfold hallUp; rw [if_pos hv, hF]; rfl
  have hd : hallDown (sampleD (F : Int) C) = dnM F := by unfold hallDown dnM; rw [if_pos hv, hF, mask_downO h2]
  unfold isOutB
  rw [Bool.and_eq_true, Bool.and_eq_true]
  refine ⟨⟨?_, ?_⟩, ?_⟩
  · unfold ohIs
    rw [hu, hd]
    have a5 : inB 0 65535 (fitOu F C y).h.st = true := by
      rw [inB_iff]
      show 0 ≤ ((m64 y.h.st % 65536 : Nat) : Int) ∧ ((m64 y.h.st % 65536 : Nat) : Int) ≤ 65535
      omega
    rw [a5]
    show ((setB (y.h.au &&& upM F) (upM F) && setB (y.h.ad &&& dnM F) (dnM F)) && ((setB (y.h.su &&& upM F) (upM F) && setB (y.h.sd &&& dnM F) (dnM F)) && true)) = true
    rw [setB_and, setB_and, setB_and, setB_and]
    rfl
  · refine decide_eq_true ?_
    rw [hl]
    show (((fitCos F C y.cars).length : Nat) : Int) = C
    unfold fitCos
    rw [List.length_map, List.length_range]
  · rw [List.all_eq_true]
    intro c hc
    obtain ⟨i, _, rfl⟩ := List.mem_map.1 hc
    generalize y.cars.getD i default = q
    unfold coIs
    rw [hu, hd]
    have b5 : inB 0 5 (fitdCo F q).cmd = true := by
      rw [inB_iff]
      show 0 ≤ ((m64 q.cmd % 6 : Nat) : Int) ∧ ((m64 q.cmd % 6 : Nat) : Int) ≤ 5
      omega
    have b6 : inB 0 4 (fitdCo F q).ph = true := by
      rw [inB_iff]
      show 0 ≤ ((m64 q.ph % 5 : Nat) : Int) ∧ ((m64 q.ph % 5 : Nat) : Int) ≤ 4
      omega
    rw [b5, b6]
    show ((setB (q.iu &&& upM F) (upM F) && setB (q.id &&& dnM F) (dnM F)) && ((setB (q.lu &&& upM F) (upM F) && setB (q.ld &&& dnM F) (dnM F)) && (true && true))) = true
    rw [setB_and, setB_and, setB_and, setB_and]
    rfl
theorem sane_default_co : saneCo (default : CarOut) := by
  show ((0 : Nat) < 4294967296 ∧ (0 : Nat) < 4294967296) ∧ ((0 : Nat) < 4294967296 ∧ (0 : Nat) < 4294967296) ∧ In64 0 ∧ In64 0
  unfold In64; omega
theorem sane_getD_co {cs : List CarOut} (h : ∀ c ∈ cs, saneCo c) (i : Nat) : saneCo (cs.getD i default) := by
  rw [List.getD_eq_getElem?_getD]
  rcases Nat.lt_or_ge i cs.length with hi | hi
  · rw [List.getElem?_eq_getElem hi]; exact h _ (List.getElem_mem hi)
  · rw [List.getElem?_eq_none hi]; exact sane_default_co
theorem fitdCo_sane {F : Nat} {c : CarOut} (h : saneCo c) : saneCo (fitdCo F c) := by
  obtain ⟨⟨a, b⟩, ⟨d, e⟩, _, _⟩ := h
  refine ⟨⟨Nat.lt_of_le_of_lt Nat.and_le_left a, Nat.lt_of_le_of_lt Nat.and_le_left b⟩, ⟨Nat.lt_of_le_of_lt Nat.and_le_left d, Nat.lt_of_le_of_lt Nat.and_le_left e⟩, ?_, ?_⟩
  · show In64 ((m64 c.cmd % 6 : Nat) : Int)
    unfold In64; omega
  · show In64 ((m64 c.ph % 5 : Nat) : Int)
    unfold In64; omega
theorem fitOu_sane (F C : Nat) (y : Ou) (hy : saneOu y) : saneOu (fitOu F C y) := by
  obtain ⟨⟨⟨p1, p2⟩, ⟨p3, p4⟩, _⟩, pc⟩ := hy
  refine ⟨⟨⟨Nat.lt_of_le_of_lt Nat.and_le_left p1, Nat.lt_of_le_of_lt Nat.and_le_left p2⟩, ⟨Nat.lt_of_le_of_lt Nat.and_le_left p3, Nat.lt_of_le_of_lt Nat.and_le_left p4⟩, ?_⟩, ?_⟩
  · show In64 ((m64 y.h.st % 65536 : Nat) : Int)
    unfold In64; omega
  · intro c hc
    obtain ⟨i, _, rfl⟩ := List.mem_map.1 hc
    exact fitdCo_sane (sane_getD_co pc i)
end

section
open Go.RowKit

/-- What lies below block B is as in W1; block b holds this row. -/
structure Lit (B : Nat) (W1 : World) (b : Nat) (row : Obj) (wx : World) : Prop where
  below : Below B W1 wx
  size : B ≤ wx.heap.size
  row : wx.heap[b]? = some row
namespace Lit
variable {B b : Nat} {W1 wx x1 : World} {row : Obj}
theorem lt (h : Lit B W1 b row wx) : b < wx.heap.size := by
  rcases Nat.lt_or_ge b wx.heap.size with h1 | h1
  · exact h1
  · have := h.row; rw [Array.getElem?_eq_none h1] at this; cases this
theorem next (h : Lit B W1 b row wx) (hb : Below wx.heap.size wx x1) : Lit B W1 b row x1 :=
  ⟨h.below.trans (hb.mono h.size), Nat.le_trans h.size hb.size, (hb.block b h.lt).trans h.row⟩
theorem two (w : World) (o1 o2 : Obj) (n : Nat) : Lit (w.heap.size + 1) (w.alloc o1) (w.heap.size + 1) o2 { ((w.alloc o1).alloc o2) with drawn := n } := by
  refine ⟨?_, by simp, ?_⟩
  · have h := (Below.refl (w.heap.size + 1) (w.alloc o1)).alloc (by simp) o2
    exact ⟨h.os, h.tape, h.output, h.size, h.block⟩
  · have := heap_alloc_new (w.alloc o1) o2
    simpa using this
theorem one (w : World) (o : Obj) : Lit w.heap.size w w.heap.size o (w.alloc o) := ⟨(Below.refl _ _).alloc (Nat.le_refl _) o, by simp, heap_alloc_new w o⟩
theorem two' (w : World) (o1 o2 : Obj) : Lit (w.heap.size + 1) (w.alloc o1) (w.heap.size + 1) o2 ((w.alloc o1).alloc o2) := two w o1 o2 ((w.alloc o1).alloc o2).drawn
theorem cell {cs : Array Value} {t : TypeId} (h : Lit B W1 b (.cells cs t (0, 0)) wx) (i : Nat) : wx.cell? ⟨b, i, none⟩ = cs[i]? := cell_of_row _ _ _ _ _ (0, 0) h.row
theorem free {cs : Array Value} {t : TypeId} (h : Lit B W1 b (.cells cs t (0, 0)) wx) (i : Nat) : wx.frozen? ⟨b, i, none⟩ = false := frozen_of_row _ _ _ _ _ h.row
theorem store {P : Program} {op : Oper} {a : Act} {K : Act → World → Prop} {Q : Exit → Act → World → Prop} {cells old : Array Value} {t : TypeId} (ty : TypeId) (x y : Operand) (ho : op.op = .store ty x y)
    (hx : a.eval x = .pointer (some ⟨b, 0, none⟩)) (hy : a.eval y = .agg cells) (h : Lit B W1 b (.cells old t (0, 0)) wx) (hb : B ≤ b)
    (hi : (P.info? ty).map (·.size) = some cells.size) (hsz : old.size = cells.size) (h1 : cells.all (·.oneCell') = true)
    (hk : ∀ w', Lit B W1 b (.cells cells t (0, 0)) w' → K (a.put op.dst undef) w') : op.wp P a wx K Q := by
  unfold Oper.wp execOp
  simp only [ho, hx, hy, Instr.storeAt, Instr.sureAddr, Sem.run_bind, Sem.run_pure, Result.andThen_ok, run_storeVar_row wx b t ty old cells h.row hi hsz h1]
  refine hk _ ⟨⟨h.below.os, h.below.tape, h.below.output, by rw [size_setRow]; exact h.below.size, fun k hk => (setRow_other wx b k cells (by omega)).trans (h.below.block k hk)⟩, by rw [size_setRow]; exact h.size, setRow_heap wx b _ cells _ _ h.row⟩
theorem put {cs : Array Value} {t : TypeId} (h : Lit B W1 b (.cells cs t (0, 0)) wx) (hb : B ≤ b) (i : Nat) (v : Value) : Lit B W1 b (.cells (cs.setIfInBounds i v) t (0, 0)) (wx.setCell ⟨b, i, none⟩ v) := by
  refine ⟨h.below.setCell hb v, by rw [Go.Deep.nblk_setCell]; exact h.size, ?_⟩
  simp [World.setCell, Array.getElem?_modify, h.row]
theorem alloc (h : Lit B W1 b row wx) (o : Obj) : Lit B W1 b row (wx.alloc o) := h.next ((Below.refl _ _).alloc (Nat.le_refl _) o)
/-- Behind a whole store of three cells into b. -/
theorem put3 {cs : Array Value} {t : TypeId} (h : Lit B W1 b (.cells cs t (0, 0)) wx) (hb : B ≤ b) (hs : cs.size = 3) (v0 v1 v2 : Value) :
    Lit B W1 b (.cells #[v0, v1, v2] t (0, 0)) (((wx.setCell ⟨b, 0, none⟩ v0).setCell ⟨b, 1, none⟩ v1).setCell ⟨b, 2, none⟩ v2) := by
  have g := ((h.put hb 0 v0).put hb 1 v1).put hb 2 v2
  obtain ⟨l⟩ := cs
  match l, hs with
  | [a, b, c], _ => exact g
theorem put2 {cs : Array Value} {t : TypeId} (h : Lit B W1 b (.cells cs t (0, 0)) wx) (hb : B ≤ b) (hs : cs.size = 2) (v0 v1 : Value) :
    Lit B W1 b (.cells #[v0, v1] t (0, 0)) ((wx.setCell ⟨b, 0, none⟩ v0).setCell ⟨b, 1, none⟩ v1) := by
  have g := (h.put hb 0 v0).put hb 1 v1
  obtain ⟨l⟩ := cs
  match l, hs with
  | [a, b], _ => exact g
end Lit
end

section
open Go.RowKit
namespace Lit
variable {B b : Nat} {W1 wx : World} {row : Obj}
theorem putOther (h : Lit B W1 b row wx) {b' : Nat} (hb : B ≤ b') (hne : b ≠ b') (i : Nat) (v : Value) : Lit B W1 b row (wx.setCell ⟨b', i, none⟩ v) :=
  ⟨h.below.setCell hb v, by rw [Go.Deep.nblk_setCell]; exact h.size, (Go.Deep.blk_setCell_other _ _ _ _ hne).trans h.row⟩
end Lit
end

section
open Go Go.RowKit Frm

def padCos (C : Nat) (cs : List CarOut) : List CarOut := (List.range C).map fun i => cs.getD i default
theorem padCos_length (C : Nat) (cs : List CarOut) : (padCos C cs).length = C := by unfold padCos; rw [List.length_map, List.length_range]
theorem fitCos_pad (F C : Nat) (cs : List CarOut) : fitCos F C cs = (padCos C cs).map (fitdCo F) := by
  unfold fitCos padCos
  rw [List.map_map]; rfl
theorem make_coins (n : Nat) (hn : n ≤ 1000) : ∀ w : World, (Instr.makeSlice 44 (.int .i64 n) (.int .i64 n)).run Try.prog w = .ok (.slice (some ⟨w.heap.size, 0, none⟩) n n) (w.alloc (.cells (flatOu (List.replicate n default)).toArray 93)) := by
  intro w
  have := run_make (P := Try.prog) w 44 93 Try.t93 (.agg (coV default).toArray) Try.underlying44 (by kernel_rfl) (by kernel_rfl) .i64 .i64 n n (by omega) (Int.le_refl _) (by show ((48 : Nat) : Int) * (n : Int) ≤ _; omega) (by omega)
  rw [this, Int.toNat_natCast]
  have e : madeCells (Value.agg (coV default).toArray).cells (n * (Try.t93).size) = (flatOu (List.replicate n default)).toArray := by
    apply Array.ext
    · rw [size_madeCells, List.size_toArray, flatOu_length, List.length_replicate]; rfl
    · intro i h1 h2
      rw [size_madeCells] at h1
      have h1' : i < n * 9 := h1
      have h3 := flatOu_at (List.replicate n default) (i / 9) (by rw [List.length_replicate]; omega) (i % 9) (Nat.mod_lt _ (by decide))
      rw [show i / 9 * 9 + i % 9 = i from by omega, List.getElem_replicate] at h3
      have h4 : (madeCells (Value.agg (coV default).toArray).cells (n * (Try.t93).size))[i]? = (coV default)[i % 9]? := by
        have h5 : i % 9 = 0 ∨ i % 9 = 1 ∨ i % 9 = 2 ∨ i % 9 = 3 ∨ i % 9 = 4 ∨ i % 9 = 5 ∨ i % 9 = 6 ∨ i % 9 = 7 ∨ i % 9 = 8 := by omega
        rw [Array.getElem?_eq_getElem (by rw [size_madeCells]; exact h1)]
        simp only [madeCells, Array.getElem_map, Array.getElem_range]
        show some ((coV default).toArray[i % 9]!) = _
        rcases h5 with h | h | h | h | h | h | h | h | h <;> rw [h] <;> rfl
      rw [← h3, Array.getElem?_eq_getElem (by rw [size_madeCells]; exact h1), ← List.getElem?_toArray, Array.getElem?_eq_getElem h2] at h4
      exact Option.some.inj h4
  rw [e]
theorem flatOu_append (l m : List CarOut) : flatOu (l ++ m) = flatOu l ++ flatOu m := by unfold flatOu; rw [List.flatMap_append]
theorem flatOu_drop (l : List CarOut) (k : Nat) : (flatOu l).drop (k * 9) = flatOu (l.drop k) := by
  rcases Nat.lt_or_ge k l.length with h | h
  · conv => lhs; rw [← List.take_append_drop k l]
    rw [flatOu_append, List.drop_append_of_le_length (by rw [flatOu_length, List.length_take]; omega), List.drop_eq_nil_of_le (by rw [flatOu_length, List.length_take]; omega), List.nil_append]
  · rw [List.drop_eq_nil_of_le h, List.drop_eq_nil_of_le (by rw [flatOu_length]; omega)]; rfl
theorem pad_split_co (C : Nat) (cs : List CarOut) : padCos C cs = cs.take (min cs.length C) ++ (List.replicate C default).drop (min cs.length C) := by
  apply List.ext_getElem?
  intro i
  unfold padCos
  rw [List.getElem?_map]
  rcases Nat.lt_or_ge i C with h | h
  · rw [List.getElem?_range h]
    simp only [Option.map_some]
    rcases Nat.lt_or_ge i (min cs.length C) with h2 | h2
    · rw [List.getElem?_append_left (by rw [List.length_take]; omega), List.getElem?_take, if_pos h2, List.getD_eq_getElem?_getD, List.getElem?_eq_getElem (by omega : i < cs.length)]; rfl
    · rw [List.getElem?_append_right (by rw [List.length_take]; omega), List.length_take, List.getElem?_drop, List.getD_eq_getElem?_getD, List.getElem?_eq_none (by omega : cs.length ≤ i), List.getElem?_replicate, if_pos (by omega)]; rfl
  · rw [List.getElem?_eq_none (by rw [List.length_range]; omega), List.getElem?_eq_none (by rw [List.length_append, List.length_take, List.length_drop, List.length_replicate]; omega)]; rfl
theorem flatOu_pad (C : Nat) (cs : List CarOut) : flatOu (cs.take (min cs.length C)) ++ (flatOu (List.replicate C default)).drop ((min cs.length C) * 9) = flatOu (padCos C cs) := by
  rw [flatOu_drop, ← flatOu_append, ← pad_split_co]
/-- A car of the row is changed: six cells. -/
theorem set_co (l : List CarOut) (k : Nat) (h : k < l.length) (a b c d : Nat) (e f : Int) :
    ((((((flatOu l).toArray.setIfInBounds (k * 9) (.int .u32 a)).setIfInBounds (k * 9 + 1) (.int .u32 b)).setIfInBounds (k * 9 + 3) (.int .u32 c)).setIfInBounds (k * 9 + 4) (.int .u32 d)).setIfInBounds (k * 9 + 6) (.int .i64 e)).setIfInBounds (k * 9 + 7) (.int .i64 f) = (flatOu (l.set k { l[k] with iu := a, id := b, lu := c, ld := d, cmd := e, ph := f })).toArray := by
  have e0 : l = l.take k ++ l[k] :: l.drop (k + 1) := by rw [List.getElem_cons_drop, List.take_append_drop]
  have hl : (flatOu (l.take k)).length = k * 9 := by rw [flatOu_length, List.length_take, Nat.min_eq_left (by omega)]
  have e1 : flatOu l = flatOu (l.take k) ++ (coV l[k] ++ flatOu (l.drop (k + 1))) := by
    conv => lhs; rw [e0]
    rw [flatOu_append]; rfl
  have e2 : l.set k { l[k] with iu := a, id := b, lu := c, ld := d, cmd := e, ph := f } = l.take k ++ { l[k] with iu := a, id := b, lu := c, ld := d, cmd := e, ph := f } :: l.drop (k + 1) := List.set_eq_take_append_cons_drop .. |>.trans (if_pos h)
  rw [e2, flatOu_append, e1]
  simp only [List.setIfInBounds_toArray]
  refine congrArg List.toArray ?_
  rw [List.set_append_right _ _ (by omega), List.set_append_right _ _ (by omega), List.set_append_right _ _ (by omega), List.set_append_right _ _ (by omega), List.set_append_right _ _ (by omega), List.set_append_right _ _ (by omega)]
  refine congrArg (fun x => flatOu (l.take k) ++ x) ?_
  rw [hl]
  simp only [Nat.sub_self, Nat.add_sub_cancel_left]
  rfl
end

section
open Go Go.RowKit Frm

theorem copy_cos (W : World) (A' : Option Addr) (cp : Nat) (ys : List CarOut) (hv : CosV W A' ys) (C : Nat) : ∃ W' k,
    (Builtin.copy_ #[44, 44] 3 #[.slice (some ⟨W.heap.size, 0, none⟩) C C, .slice A' ys.length cp]).run Try.prog (W.alloc (.cells (flatOu (List.replicate C default)).toArray 93)) = .ok k W' ∧
      W'.heap[W.heap.size]? = some (.cells (flatOu (padCos C ys)).toArray 93 (0, 0)) ∧ Below W.heap.size W W' ∧ W'.heap.size = W.heap.size + 1 := by
  have hg := heap_alloc_new W (.cells (flatOu (List.replicate C default)).toArray 93)
  have hb0 : Below W.heap.size W (W.alloc (.cells (flatOu (List.replicate C default)).toArray 93)) := (Below.refl _ _).alloc (Nat.le_refl _) _
  have hs : (Try.prog.info? 93).map (·.size) = some 9 := by
    obtain ⟨i, hi, hz, hsize, hby⟩ := info_parts carOutInfo
    rw [hi]; simp [hsize]
  have hpad0 : padCos C [] = List.replicate C default := by
    apply List.ext_getElem?
    intro i
    unfold padCos
    rw [List.getElem?_map]
    rcases Nat.lt_or_ge i C with h | h
    · rw [List.getElem?_range h, List.getElem?_replicate, if_pos h]; rfl
    · rw [List.getElem?_eq_none (by rw [List.length_range]; omega), List.getElem?_eq_none (by rw [List.length_replicate]; omega)]; rfl
  rcases hv with rfl | ⟨b, off, rfl, hc⟩
  · rw [hpad0]
    cases A' with
    | none =>
      obtain ⟨i, hi, hz, hsize, hby⟩ := info_parts carOutInfo
      refine ⟨_, goInt 0, ?_, hg, hb0, by simp⟩
      simp [Builtin.copy_, run_underlying Try.underlying44, Builtin.lenOf, Builtin.firstCells, sizeOf, typeInfo, hi, storeCells]
    | some a =>
      have hr := run_copy_wide (P := Try.prog) (W.alloc (.cells (flatOu (List.replicate C default)).toArray 93)) 44 44 3 93 W.heap.size 0 C C 9 0 a 0 cp (flatOu (List.replicate C default)).toArray 93 [] Try.underlying44 hs hg (Nat.zero_min C) rfl (fun j v h => by simp at h) (by simp) (fun v h => by simp at h)
      refine ⟨_, _, hr, ?_, ⟨hb0.os, hb0.tape, hb0.output, by rw [size_setRow]; exact hb0.size, fun k hk => (setRow_other _ _ k _ (by omega)).trans (hb0.block k hk)⟩, by rw [size_setRow]; simp⟩
      rw [setRow_heap _ _ _ _ _ _ hg]
      simp
  · have hmin : (min ys.length C) * 9 ≤ C * 9 := Nat.mul_le_mul_right _ (Nat.min_le_right _ _)
    have hfl : (flatOu (ys.take (min ys.length C))).length = (min ys.length C) * 9 := by rw [flatOu_length, List.length_take, Nat.min_eq_left (Nat.min_le_left _ _)]
    have hr := run_copy_wide (P := Try.prog) (W.alloc (.cells (flatOu (List.replicate C default)).toArray 93)) 44 44 3 93 W.heap.size 0 C C 9 (min ys.length C) ⟨b, off, none⟩ ys.length cp (flatOu (List.replicate C default)).toArray 93 (flatOu (ys.take (min ys.length C))) Try.underlying44 hs hg rfl hfl (fun j v h => by
      have h2 : (flatOu ys)[j]? = some v := by
        have hlt := (List.getElem?_eq_some_iff.1 h).1
        conv => lhs; rw [← List.take_append_drop (min ys.length C) ys, flatOu_append]
        rw [List.getElem?_append_left hlt]; exact h
      have h3 := CosV.flat hc j v h2
      exact (World.cell?_of_block (w := W) (Below.heap_alloc W _ _ (World.block_lt_of_cell? W _ h3))).trans h3) (by rw [hfl, List.size_toArray, flatOu_length, List.length_replicate]; omega) (flatOu_one _)
    refine ⟨_, _, hr, ?_, ⟨hb0.os, hb0.tape, hb0.output, by rw [size_setRow]; exact hb0.size, fun k hk => (setRow_other _ _ k _ (by omega)).trans (hb0.block k hk)⟩, by rw [size_setRow]; simp⟩
    rw [setRow_heap _ _ _ _ _ _ hg, List.take_zero, List.nil_append, Nat.zero_add, hfl, flatOu_pad]
end

section
open Go Go.RowKit Frm

def fitToO (F k : Nat) (l : List CarOut) : List CarOut := (l.take k).map (fitdCo F) ++ l.drop k
theorem fitToO_zero (F : Nat) (l : List CarOut) : fitToO F 0 l = l := rfl
theorem fitToO_length (F k : Nat) (l : List CarOut) : (fitToO F k l).length = l.length := by
  unfold fitToO
  rw [List.length_append, List.length_map, List.length_take, List.length_drop]; omega
theorem fitToO_all (F : Nat) (l : List CarOut) : fitToO F l.length l = l.map (fitdCo F) := by
  unfold fitToO
  rw [List.take_length, List.drop_length, List.append_nil]
theorem fitToO_get (F k : Nat) (l : List CarOut) (h : k < l.length) : (fitToO F k l)[k]'(by rw [fitToO_length]; exact h) = l[k] := by
  have : (fitToO F k l)[k]? = l[k]? := by
    unfold fitToO
    rw [List.getElem?_append_right (by rw [List.length_map, List.length_take]; omega), List.length_map, List.length_take, List.getElem?_drop]
    congr 1; omega
  rw [List.getElem?_eq_getElem h, List.getElem?_eq_getElem (by rw [fitToO_length]; exact h)] at this
  exact Option.some.inj this
theorem fitToO_succ (F k : Nat) (l : List CarOut) (h : k < l.length) : (fitToO F k l).set k (fitdCo F l[k]) = fitToO F (k + 1) l := by
  unfold fitToO
  have hl : ((l.take k).map (fitdCo F)).length = k := by rw [List.length_map, List.length_take]; omega
  rw [List.set_append_right _ _ (by omega), hl, Nat.sub_self, List.drop_eq_getElem_cons h, List.set_cons_zero, List.take_succ_eq_append_getElem h, List.map_append, List.append_assoc]
  rfl
theorem pad_sane_co {C : Nat} {ys : List CarOut} (h : ∀ c ∈ ys, saneCo c) : ∀ c ∈ padCos C ys, saneCo c := fun c hc => by
  obtain ⟨i, _, rfl⟩ := List.mem_map.1 hc
  exact sane_getD_co h i
/-- The cells of car k. -/
theorem row_co {B b : Nat} {W1 wx : World} {t : TypeId} {l : List CarOut} (h : Lit B W1 b (.cells (flatOu l).toArray t (0, 0)) wx) {k : Nat} (hk : k < l.length) {j : Nat} (hj : j < 9) : wx.cell? ⟨b, k * 9 + j, none⟩ = (coV l[k])[j]? := by
  rw [h.cell, List.getElem?_toArray, flatOu_at l k hk j hj]
end

section
open Go Go.RowKit Frm

theorem Lit.put8O {B b : Nat} {W1 wx : World} {cs : Array Value} {t : TypeId} (h : Lit B W1 b (.cells cs t (0, 0)) wx) (hb : B ≤ b) (hs : cs.size = 8) (v0 v1 v2 v3 v4 v5 v6 v7 : Value) :
    Lit B W1 b (.cells #[v0, v1, v2, v3, v4, v5, v6, v7] t (0, 0)) ((((((((wx.setCell ⟨b, 0, none⟩ v0).setCell ⟨b, 1, none⟩ v1).setCell ⟨b, 2, none⟩ v2).setCell ⟨b, 3, none⟩ v3).setCell ⟨b, 4, none⟩ v4).setCell ⟨b, 5, none⟩ v5).setCell ⟨b, 6, none⟩ v6).setCell ⟨b, 7, none⟩ v7) := by
  obtain ⟨l⟩ := cs
  match l, hs with
  | [a0, a1, a2, a3, a4, a5, a6, a7], _ =>
    have g := (((((((h.put hb 0 v0).put hb 1 v1).put hb 2 v2).put hb 3 v3).put hb 4 v4).put hb 5 v5).put hb 6 v6).put hb 7 v7
    have e : ((((((((#[a0, a1, a2, a3, a4, a5, a6, a7] : Array Value).setIfInBounds 0 v0).setIfInBounds 1 v1).setIfInBounds 2 v2).setIfInBounds 3 v3).setIfInBounds 4 v4).setIfInBounds 5 v5).setIfInBounds 6 v6).setIfInBounds 7 v7 = #[v0, v1, v2, v3, v4, v5, v6, v7] := by simp
    rw [e] at g
    exact g
theorem other8O {B b b' : Nat} {W1 wx : World} {row : Obj} (h : Lit B W1 b row wx) (hb : B ≤ b') (hne : b ≠ b') (v0 v1 v2 v3 v4 v5 v6 v7 : Value) :
    Lit B W1 b row ((((((((wx.setCell ⟨b', 0, none⟩ v0).setCell ⟨b', 1, none⟩ v1).setCell ⟨b', 2, none⟩ v2).setCell ⟨b', 3, none⟩ v3).setCell ⟨b', 4, none⟩ v4).setCell ⟨b', 5, none⟩ v5).setCell ⟨b', 6, none⟩ v6).setCell ⟨b', 7, none⟩ v7) :=
  (((((((h.putOther hb hne 0 v0).putOther hb hne 1 v1).putOther hb hne 2 v2).putOther hb hne 3 v3).putOther hb hne 4 v4).putOther hb hne 5 v5).putOther hb hne 6 v6).putOther hb hne 7 v7
theorem Lit.zeroO {B b : Nat} {W1 wx : World} {row : Obj} (h : Lit B W1 b row wx) : Lit 0 W1 b row wx := ⟨h.below.mono (Nat.zero_le _), Nat.zero_le _, h.row⟩
theorem cosV_of_row {B b : Nat} {W1 wx : World} {t : TypeId} {l : List CarOut} (h : Lit B W1 b (.cells (flatOu l).toArray t (0, 0)) wx) : CosV wx (some ⟨b, 0, none⟩) l :=
  .inr ⟨b, 0, rfl, fun i hi j v hj => by
    have hlt : j < 9 := by
      rcases Nat.lt_or_ge j 9 with h1 | h1
      · exact h1
      · rw [List.getElem?_eq_none (by show 9 ≤ j; exact h1)] at hj; cases hj
    rw [Nat.zero_add, row_co h hi hlt]; exact hj⟩

theorem mask_numO (F : Nat) (h1 : 2 ≤ F) (h2 : F ≤ 32) : ((2 : Int) ^ F - 1) % 4294967296 = ((2 ^ F - 1 : Nat) : Int) ∧ ((2 : Int) ^ F % 4294967296 - 1) % 4294967296 = ((2 ^ F - 1 : Nat) : Int) ∧ ((2 ^ F - 1 : Nat) : Int) / 2 = ((upM F : Nat) : Int) ∧ 2 ^ F - 1 < 4294967296 ∧ upM F < 4294967296 := by
  have h : ∀ G : Fin 33, 2 ≤ G.val → ((2 : Int) ^ G.val - 1) % 4294967296 = ((2 ^ G.val - 1 : Nat) : Int) ∧ ((2 : Int) ^ G.val % 4294967296 - 1) % 4294967296 = ((2 ^ G.val - 1 : Nat) : Int) ∧ ((2 ^ G.val - 1 : Nat) : Int) / 2 = ((upM G.val : Nat) : Int) ∧ 2 ^ G.val - 1 < 4294967296 ∧ upM G.val < 4294967296 := by unfold upM; decide +kernel
  exact h ⟨F, by omega⟩ h1

set_option linter.unusedVariables false
set_option linter.unusedSimpArgs false
set_option maxRecDepth 100000 in
set_option maxHeartbeats 8000000 in
theorem ofitted_any (F C : Nat) (x : BldD) (A : Option Addr) (cap : Nat) (y : Ou) (A' : Option Addr) (cp : Nat) (w : World) (h1 : 2 ≤ F) (h2 : F ≤ 32) (h3 : 1 ≤ C) (h4 : C ≤ 8) (hxf : x.floors = (F : Int)) (hxc : x.cars.length = C) (hy : saneOu y) (hn : y.cars.length ≤ 1000) (hv : CosV w A' y.cars) :
    Calls Try.prog 15 #[x.agg A cap, ouAgg y A' cp] w fun e w' => Below w.heap.size w w' ∧ ∃ A2 cp2, e = .returned (ouAgg (fitOu F C y) A2 cp2) ∧ CosV w' A2 (fitOu F C y).cars := by
  obtain ⟨hm1, hm2, hm3, hmL, hmL2⟩ := mask_numO F h1 h2
  obtain ⟨⟨au, ad, su, sd, bad, full, st⟩, ys⟩ := y
  obtain ⟨⟨⟨sau, sad⟩, ⟨ssu, ssd⟩, _⟩, hsc⟩ := hy
  have HSC : Hid (∀ c ∈ ys, saneCo c) := hsc
  have HV := Lib.hid hv
  simp only at sau sad ssu ssd hn HV
  clear hsc hv
  have hdd0 := u32_andNot_nat (2 ^ F - 1) 1 hmL (by decide)
  have hdd1 : bits .andNot .u32 ((2 ^ F - 1 : Nat) : Int) 1 = ((dnM F : Nat) : Int) := hdd0
  have hdL : dnM F < 4294967296 := Nat.lt_of_le_of_lt Nat.and_le_left hmL
  have hg1 := u32_and_nat au (upM F) sau hmL2
  have hg2 := u32_and_nat ad (dnM F) sad hdL
  have hg3 := u32_and_nat su (upM F) ssu hmL2
  have hg4 := u32_and_nat sd (dnM F) ssd hdL
  have hFw : IntKind.u64.wrap (F : Int) = (F : Int) := by rw [IntKind.wrap_u64]; omega
  have hsw := m64_wrap st
  have hFIT : Hid (fitOu F C ⟨⟨au, ad, su, sd, bad, full, st⟩, ys⟩ = ⟨⟨au &&& upM F, ad &&& dnM F, su &&& upM F, sd &&& dnM F, bad, full, ((m64 st % 65536 : Nat) : Int)⟩, fitCos F C ys⟩) := Lib.hid rfl
  have hst1 : ((m64 st : Nat) : Int).tmod 65536 = ((m64 st % 65536 : Nat) : Int) := by rw [Int.tmod_eq_emod_of_nonneg (by omega)]; omega
  have hst2 : ((m64 st : Nat) : Int) % 65536 = ((m64 st % 65536 : Nat) : Int) := by omega
  have hst3 : m64 st % 65536 < 65536 := Nat.mod_lt _ (by decide)
  clear hdd0 sau sad ssu ssd
  obtain ⟨f, d, r, p, e1, e2, e3, cs⟩ := x
  simp only at hxf hxc
  subst hxf
  simp only [BldD.agg, ouAgg, hxc]
  clear hxc
  rw [hFIT.out]
  simp only
  clear hFIT
  have HU := Lib.hid (rfl : upM F = upM F)
  have HFC : Hid (∀ q : CarOut, fitdCo F q = { q with iu := q.iu &&& upM F, id := q.id &&& dnM F, lu := q.lu &&& upM F, ld := q.ld &&& dnM F, cmd := ((m64 q.cmd % 6 : Nat) : Int), ph := ((m64 q.ph % 5 : Nat) : Int) }) := Lib.hid (fun _ => rfl)
  clear HU
  generalize au &&& upM F = au2 at *
  generalize ad &&& dnM F = ad2 at *
  generalize su &&& upM F = su2 at *
  generalize sd &&& dnM F = sd2 at *
  generalize upM F = U at *
  generalize dnM F = D at *
  generalize hMK : (2 ^ F - 1 : Nat) = MK at *
  clear hMK
  generalize m64 st % 65536 = st2 at *
  generalize m64 st = ms at *
  have hst4 : IntKind.i64.wrap (st2 : Int) = (st2 : Int) := by rw [IntKind.wrap_i64]; omega
  go_enter Try.func15, Try.ntmps15
  go_wp2_with (with_reducible show wpList _ _ _ (Oper.mk _ (.makeSlice _ _ _) _ _ _ _ :: _) _ _; refine Hid.out ?_)
  obtain ⟨WC, hWC⟩ : ∃ WC, WC = (w.alloc (.cells #[.int .i64 (F : Int), .int .i64 d, .int .i64 r, .int .i64 p, .float .f64 e1, .float .f64 e2, .float .f64 e3, .slice A C cap] 25)).alloc (.cells #[.int .u32 (au2 : Int), .int .u32 (ad2 : Int), .int .u32 (su2 : Int), .int .u32 (sd2 : Int), .bool bad, .bool full, .int .i64 (st2 : Int), .slice A' ys.length cp] 46) := ⟨_, rfl⟩
  have K1 : Lit w.heap.size w w.heap.size (.cells #[.int .i64 (F : Int), .int .i64 d, .int .i64 r, .int .i64 p, .float .f64 e1, .float .f64 e2, .float .f64 e3, .slice A C cap] 25 (0, 0)) (WC.alloc (.cells #[.int .u32 0, .int .u32 0, .int .u32 0, .int .u32 0, .bool false, .bool false, .int .i64 0, .slice none 0 0] 46)) := by rw [hWC]; exact ((Lit.one w _).alloc _).alloc _
  have K2 : Lit (w.heap.size + 1) (w.alloc (.cells #[.int .i64 (F : Int), .int .i64 d, .int .i64 r, .int .i64 p, .float .f64 e1, .float .f64 e2, .float .f64 e3, .slice A C cap] 25)) (w.heap.size + 1) (.cells #[.int .u32 (au2 : Int), .int .u32 (ad2 : Int), .int .u32 (su2 : Int), .int .u32 (sd2 : Int), .bool bad, .bool full, .int .i64 (st2 : Int), .slice A' ys.length cp] 46 (0, 0)) (WC.alloc (.cells #[.int .u32 0, .int .u32 0, .int .u32 0, .int .u32 0, .bool false, .bool false, .int .i64 0, .slice none 0 0] 46)) := by rw [hWC]; exact (Lit.two' w _ _).alloc _
  have K3 : Lit 0 w (w.heap.size + 2) (.cells #[.int .u32 0, .int .u32 0, .int .u32 0, .int .u32 0, .bool false, .bool false, .int .i64 0, .slice none 0 0] 46 (0, 0)) (WC.alloc (.cells #[.int .u32 0, .int .u32 0, .int .u32 0, .int .u32 0, .bool false, .bool false, .int .i64 0, .slice none 0 0] 46)) := by
    have h := Lit.one WC (.cells #[.int .u32 0, .int .u32 0, .int .u32 0, .int .u32 0, .bool false, .bool false, .int .i64 0, .slice none 0 0] 46)
    have e : WC.heap.size = w.heap.size + 2 := by rw [hWC]; simp
    rw [e] at h
    refine ⟨?_, Nat.zero_le _, h.row⟩
    have hb := h.below.mono (Nat.zero_le _)
    rw [hWC] at hb ⊢
    exact ((((Below.refl 0 w).alloc (Nat.zero_le _) _).alloc (Nat.zero_le _) _)).trans hb
  rw [← hWC]
  try simp only [hm2, hdd1]
  clear hWC
  generalize WC.alloc (.cells #[.int .u32 0, .int .u32 0, .int .u32 0, .int .u32 0, .bool false, .bool false, .int .i64 0, .slice none 0 0] 46) = W2 at *
  have HK2 := Lib.hid (And.intro K1 (And.intro K2 K3))
  clear K1 K2 K3 hm1 hm2 hm3 hdd1 hg1 hg2 hg3 hg4 hsw hst1 hst2
  obtain ⟨W3, k3, hcp, hrow, hb3, hz3⟩ := copy_cos W2 A' cp ys (HV.out.below HK2.out.1.below) C
  have hmk2 := make_coins C (by omega) W2
  have HK3 := Lib.hid (And.intro (HK2.out.1.next hb3) (And.intro (HK2.out.2.1.next hb3) (And.intro (HK2.out.2.2.next hb3) (show Lit W2.heap.size W2 W2.heap.size (.cells (flatOu (padCos C ys)).toArray 93 (0, 0)) W3 from ⟨hb3, by omega, hrow⟩))))
  have bb0 := HK2.out.1.cell 0
  have bb1 := HK2.out.1.cell 1
  have bb2 := HK2.out.1.cell 2
  have bb3 := HK2.out.1.cell 3
  have bb4 := HK2.out.1.cell 4
  have bb5 := HK2.out.1.cell 5
  have bb6 := HK2.out.1.cell 6
  have bb7 := HK2.out.1.cell 7
  have xx0 := HK2.out.2.1.cell 0
  have xx1 := HK2.out.2.1.cell 1
  have xx2 := HK2.out.2.1.cell 2
  have xx3 := HK2.out.2.1.cell 3
  have xx4 := HK2.out.2.1.cell 4
  have xx5 := HK2.out.2.1.cell 5
  have xx6 := HK2.out.2.1.cell 6
  have xx7 := HK2.out.2.1.cell 7
  simp only [List.getElem?_toArray, List.getElem?_cons_zero, List.getElem?_cons_succ] at bb0 bb1 bb2 bb3 bb4 bb5 bb6 bb7 xx0 xx1 xx2 xx3 xx4 xx5 xx6 xx7
  have hlt2 := HK2.out.2.2.lt
  have hlt1 : w.heap.size + 1 < W2.heap.size := by omega
  have hlt0 : w.heap.size < W2.heap.size := by omega
  clear hrow hb3 hz3
  refine Lib.hid ?_
  go_wp2_with fail
  go_loopw [9] (fun v wr => ∃ k : Nat, k ≤ C ∧ v = .int .i64 k ∧ Lit w.heap.size w w.heap.size (.cells #[.int .i64 (F : Int), .int .i64 d, .int .i64 r, .int .i64 p, .float .f64 e1, .float .f64 e2, .float .f64 e3, .slice A C cap] 25 (0, 0)) wr ∧ Lit (w.heap.size + 1) (w.alloc (.cells #[.int .i64 (F : Int), .int .i64 d, .int .i64 r, .int .i64 p, .float .f64 e1, .float .f64 e2, .float .f64 e3, .slice A C cap] 25)) (w.heap.size + 1) (.cells #[.int .u32 (au2 : Int), .int .u32 (ad2 : Int), .int .u32 (su2 : Int), .int .u32 (sd2 : Int), .bool bad, .bool full, .int .i64 (st2 : Int), .slice A' ys.length cp] 46 (0, 0)) wr ∧ Lit 0 w (w.heap.size + 2) (.cells #[.int .u32 0, .int .u32 0, .int .u32 0, .int .u32 0, .bool false, .bool false, .int .i64 0, .slice none 0 0] 46 (0, 0)) wr ∧ Lit W2.heap.size W2 W2.heap.size (.cells (flatOu (fitToO F k (padCos C ys))).toArray 93 (0, 0)) wr) (fun v _ => C - (intOf v).toNat)
  case atStart => exact ⟨0, Nat.zero_le _, rfl, HK3.out⟩
  case round =>
    clear HK3 hcp hmk2 hlt0 hlt1 bb0 bb1 bb2 bb3 bb4 bb5 bb6 bb7 xx0 xx1 xx2 xx3 xx4 xx5 xx6 xx7
    obtain ⟨k, hk, rfl, K1, K2, K3, K4⟩ := hrel
    have hlen : (fitToO F k (padCos C ys)).length = C := by rw [fitToO_length, padCos_length]
    have bb0 := K1.cell 0
    have bb1 := K1.cell 1
    have bb2 := K1.cell 2
    have bb3 := K1.cell 3
    have bb4 := K1.cell 4
    have bb5 := K1.cell 5
    have bb6 := K1.cell 6
    have bb7 := K1.cell 7
    have xx0 := K2.cell 0
    have xx1 := K2.cell 1
    have xx2 := K2.cell 2
    have xx3 := K2.cell 3
    have xx4 := K2.cell 4
    have xx5 := K2.cell 5
    have xx6 := K2.cell 6
    have xx7 := K2.cell 7
    simp only [List.getElem?_toArray, List.getElem?_cons_zero, List.getElem?_cons_succ] at bb0 bb1 bb2 bb3 bb4 bb5 bb6 bb7 xx0 xx1 xx2 xx3 xx4 xx5 xx6 xx7
    have HK := Lib.hid (And.intro K1 (And.intro K2 (And.intro K3 K4)))
    have hM := K4.lt
    clear K1 K2 K3 K4
    by_cases hlt : k < C
    case neg =>
      have hkC : k = C := by omega
      have e : fitToO F k (padCos C ys) = fitCos F C ys := by rw [hkC, fitCos_pad, ← fitToO_all, padCos_length]
      rw [e] at HK
      have hdd : decide ((k : Int) < (C : Int)) = false := decide_eq_false (by omega)
      have ff7 := HK.out.2.1.free 7
      have rr0 := HK.out.2.2.1.cell 0
      have rr1 := HK.out.2.2.1.cell 1
      have rr2 := HK.out.2.2.1.cell 2
      have rr3 := HK.out.2.2.1.cell 3
      have rr4 := HK.out.2.2.1.cell 4
      have rr5 := HK.out.2.2.1.cell 5
      have rr6 := HK.out.2.2.1.cell 6
      have rr7 := HK.out.2.2.1.cell 7
      simp only [List.getElem?_toArray, List.getElem?_cons_zero, List.getElem?_cons_succ] at rr0 rr1 rr2 rr3 rr4 rr5 rr6 rr7
      have rf0 := HK.out.2.2.1.free 0
      have rf1 := HK.out.2.2.1.free 1
      have rf2 := HK.out.2.2.1.free 2
      have rf3 := HK.out.2.2.1.free 3
      have rf4 := HK.out.2.2.1.free 4
      have rf5 := HK.out.2.2.1.free 5
      have rf6 := HK.out.2.2.1.free 6
      have rf7 := HK.out.2.2.1.free 7
      clear e
      have hw2 : w.heap.size + 2 < wr.heap.size := HK.out.2.2.1.lt
      have hw1 : w.heap.size + 1 < wr.heap.size := by omega
      have hw0 : w.heap.size < wr.heap.size := by omega
      go_wp2_with fail
      have E3 := (HK.out.2.2.1.putOther (b' := w.heap.size + 1) (Nat.zero_le _) (by omega) 7 (.slice (some ⟨W2.heap.size, 0, none⟩) C C)).put8O (Nat.zero_le _) rfl (.int .u32 (au2 : Int)) (.int .u32 (ad2 : Int)) (.int .u32 (su2 : Int)) (.int .u32 (sd2 : Int)) (.bool bad) (.bool full) (.int .i64 (st2 : Int)) (.slice (some ⟨W2.heap.size, 0, none⟩) C C)
      have E1 := other8O (HK.out.1.putOther (b' := w.heap.size + 1) (by omega) (by omega) 7 (.slice (some ⟨W2.heap.size, 0, none⟩) C C)) (b' := w.heap.size + 2) (by omega) (by omega) (.int .u32 (au2 : Int)) (.int .u32 (ad2 : Int)) (.int .u32 (su2 : Int)) (.int .u32 (sd2 : Int)) (.bool bad) (.bool full) (.int .i64 (st2 : Int)) (.slice (some ⟨W2.heap.size, 0, none⟩) C C)
      have E4 := other8O ((Lit.zeroO HK.out.2.2.2).putOther (b' := w.heap.size + 1) (Nat.zero_le _) (by omega) 7 (.slice (some ⟨W2.heap.size, 0, none⟩) C C)) (b' := w.heap.size + 2) (Nat.zero_le _) (by omega) (.int .u32 (au2 : Int)) (.int .u32 (ad2 : Int)) (.int .u32 (su2 : Int)) (.int .u32 (sd2 : Int)) (.bool bad) (.bool full) (.int .i64 (st2 : Int)) (.slice (some ⟨W2.heap.size, 0, none⟩) C C)
      have hlC : (fitCos F C ys).length = C := by rw [fitCos_pad, List.length_map, padCos_length]
      exact bodyPost_ret (results_cell_row Try.results15 _ _ _ _ _ (0, 0) _ rfl (E3.row) Try.underlying46 rfl (by kernel_rfl)) rfl (⟨E1.below, some ⟨W2.heap.size, 0, none⟩, C, by rw [hlC], cosV_of_row E4⟩)
    have hg := fitToO_get F k (padCos C ys) (by rw [padCos_length]; exact hlt)
    have hsucc := fitToO_succ F k (padCos C ys) (by rw [padCos_length]; exact hlt)
    have hset := fun a b c d e f => set_co (fitToO F k (padCos C ys)) k (by omega) a b c d e f
    rw [hg] at hset
    have hkp : k < (padCos C ys).length := by rw [padCos_length]; exact hlt
    have hsan : saneCo ((padCos C ys)[k]'hkp) := pad_sane_co HSC.out _ (List.getElem_mem _)
    generalize (padCos C ys)[k]'hkp = q at *
    have hq_iu := u32_and_nat q.iu U hsan.1.1 hmL2
    have hq_id := u32_and_nat q.id D hsan.1.2 hdL
    have hq_lu := u32_and_nat q.lu U hsan.2.1.1 hmL2
    have hq_ld := u32_and_nat q.ld D hsan.2.1.2 hdL
    have HSET := Lib.hid hset
    have HSUC := Lib.hid hsucc
    have HCELL : Hid (((flatOu (fitToO F k (padCos C ys))).toArray)[k * 9]? = some (.int .u32 (q.iu : Int)) ∧ ((flatOu (fitToO F k (padCos C ys))).toArray)[k * 9 + 1]? = some (.int .u32 (q.id : Int)) ∧ ((flatOu (fitToO F k (padCos C ys))).toArray)[k * 9 + 3]? = some (.int .u32 (q.lu : Int)) ∧ ((flatOu (fitToO F k (padCos C ys))).toArray)[k * 9 + 4]? = some (.int .u32 (q.ld : Int)) ∧ ((flatOu (fitToO F k (padCos C ys))).toArray)[k * 9 + 6]? = some (.int .i64 q.cmd) ∧ ((flatOu (fitToO F k (padCos C ys))).toArray)[k * 9 + 7]? = some (.int .i64 q.ph)) := Lib.hid (by
      have e := fun j hj => flatOu_at (fitToO F k (padCos C ys)) k (by omega) j hj
      simp only [hg] at e
      simp only [List.getElem?_toArray]
      exact ⟨e 0 (by decide), e 1 (by decide), e 3 (by decide), e 4 (by decide), e 6 (by decide), e 7 (by decide)⟩)
    clear hset hsucc hg hlen hsan
    have hdd : decide ((k : Int) < (C : Int)) = true := decide_eq_true (by omega)
    generalize hROW : (flatOu (fitToO F k (padCos C ys))).toArray = ROW at *
    obtain ⟨r0, r1, r3, r4, r6, r7⟩ := HCELL.out
    clear HCELL
    go_wp2_with fail
    refine Chain.chain (fun ph wx => Lit w.heap.size w w.heap.size (.cells #[.int .i64 (F : Int), .int .i64 d, .int .i64 r, .int .i64 p, .float .f64 e1, .float .f64 e2, .float .f64 e3, .slice A C cap] 25 (0, 0)) wx ∧ Lit (w.heap.size + 1) (w.alloc (.cells #[.int .i64 (F : Int), .int .i64 d, .int .i64 r, .int .i64 p, .float .f64 e1, .float .f64 e2, .float .f64 e3, .slice A C cap] 25)) (w.heap.size + 1) (.cells #[.int .u32 (au2 : Int), .int .u32 (ad2 : Int), .int .u32 (su2 : Int), .int .u32 (sd2 : Int), .bool bad, .bool full, .int .i64 (st2 : Int), .slice A' ys.length cp] 46 (0, 0)) wx ∧ Lit 0 w (w.heap.size + 2) (.cells #[.int .u32 0, .int .u32 0, .int .u32 0, .int .u32 0, .bool false, .bool false, .int .i64 0, .slice none 0 0] 46 (0, 0)) wx ∧ Lit W2.heap.size W2 W2.heap.size (.cells (([ROW, ((((ROW).setIfInBounds (k * 9) (.int .u32 ((q.iu &&& U : Nat) : Int)))).setIfInBounds (k * 9 + 1) (.int .u32 ((q.id &&& D : Nat) : Int)))] : List (Array Value)).getD ph #[]) 93 (0, 0)) wx) (fun _ _ => False) [21] (by kernel_rfl) (by kernel_rfl) (fun _ _ _ _ h => h.elim) (by exact ⟨HK.out.1.next (Below.refl _ _).drew, HK.out.2.1.next (Below.refl _ _).drew, HK.out.2.2.1.next (Below.refl _ _).drew, HK.out.2.2.2.next (Below.refl _ _).drew⟩) ?_
    clear HK
    apply Chain.walk_quiet (by rfl) (by decide)
    · intro ph wx hp hwn hx K hK
      rcases (show ph = 0 ∨ ph = 1 from by have h : ph ≤ 1 := hp; omega) with rfl | rfl
      · have y := (show Lit W2.heap.size W2 W2.heap.size (.cells ROW 93 (0, 0)) wx from hx.2.2.2)
        have z_0 := (y.cell (k * 9)).trans (r0)
        have z_1 := (y.cell (k * 9 + 1)).trans (r1)
        clear y
        have HX := Lib.hid hx
        clear hx hwn hp
        go_simp
        go_at_K
        exact hK _ HX.out
      · have y := (show Lit W2.heap.size W2 W2.heap.size (.cells ((((ROW).setIfInBounds (k * 9) (.int .u32 ((q.iu &&& U : Nat) : Int)))).setIfInBounds (k * 9 + 1) (.int .u32 ((q.id &&& D : Nat) : Int))) 93 (0, 0)) wx from hx.2.2.2)
        clear y
        have HX := Lib.hid hx
        clear hx hwn hp
        go_simp
        go_at_K
        exact hK _ HX.out
    · exact ⟨_, rfl⟩
    apply Chain.walk_quiet (by rfl) (by decide)
    · intro ph wx hp hwn hx K hK
      rcases (show ph = 0 ∨ ph = 1 from by have h : ph ≤ 1 := hp; omega) with rfl | rfl
      · have y := (show Lit W2.heap.size W2 W2.heap.size (.cells ROW 93 (0, 0)) wx from hx.2.2.2)
        have z_0 := (y.cell (k * 9)).trans (r0)
        have z_1 := (y.cell (k * 9 + 1)).trans (r1)
        clear y
        have HX := Lib.hid hx
        clear hx hwn hp
        go_simp
        go_at_K
        exact hK _ HX.out
      · have y := (show Lit W2.heap.size W2 W2.heap.size (.cells ((((ROW).setIfInBounds (k * 9) (.int .u32 ((q.iu &&& U : Nat) : Int)))).setIfInBounds (k * 9 + 1) (.int .u32 ((q.id &&& D : Nat) : Int))) 93 (0, 0)) wx from hx.2.2.2)
        clear y
        have HX := Lib.hid hx
        clear hx hwn hp
        go_simp
        go_at_K
        exact hK _ HX.out
    · exact ⟨_, rfl⟩
    apply Chain.walk_quiet (by rfl) (by decide)
    · intro ph wx hp hwn hx K hK
      rcases (show ph = 0 ∨ ph = 1 from by have h : ph ≤ 1 := hp; omega) with rfl | rfl
      · have y := (show Lit W2.heap.size W2 W2.heap.size (.cells ROW 93 (0, 0)) wx from hx.2.2.2)
        have z_0 := (y.cell (k * 9)).trans (r0)
        have z_1 := (y.cell (k * 9 + 1)).trans (r1)
        clear y
        have HX := Lib.hid hx
        clear hx hwn hp
        go_simp
        go_at_K
        exact hK _ HX.out
      · have y := (show Lit W2.heap.size W2 W2.heap.size (.cells ((((ROW).setIfInBounds (k * 9) (.int .u32 ((q.iu &&& U : Nat) : Int)))).setIfInBounds (k * 9 + 1) (.int .u32 ((q.id &&& D : Nat) : Int))) 93 (0, 0)) wx from hx.2.2.2)
        clear y
        have HX := Lib.hid hx
        clear hx hwn hp
        go_simp
        go_at_K
        exact hK _ HX.out
    · exact ⟨_, rfl⟩
    apply Chain.walk_quiet (by rfl) (by decide)
    · intro ph wx hp hwn hx K hK
      rcases (show ph = 0 ∨ ph = 1 from by have h : ph ≤ 1 := hp; omega) with rfl | rfl
      · have y := (show Lit W2.heap.size W2 W2.heap.size (.cells ROW 93 (0, 0)) wx from hx.2.2.2)
        have z_0 := (y.cell (k * 9)).trans (r0)
        have z_1 := (y.cell (k * 9 + 1)).trans (r1)
        clear y
        have HX := Lib.hid hx
        clear hx hwn hp
        go_simp
        go_at_K
        exact hK _ HX.out
      · have y := (show Lit W2.heap.size W2 W2.heap.size (.cells ((((ROW).setIfInBounds (k * 9) (.int .u32 ((q.iu &&& U : Nat) : Int)))).setIfInBounds (k * 9 + 1) (.int .u32 ((q.id &&& D : Nat) : Int))) 93 (0, 0)) wx from hx.2.2.2)
        clear y
        have HX := Lib.hid hx
        clear hx hwn hp
        go_simp
        go_at_K
        exact hK _ HX.out
    · exact ⟨_, rfl⟩
    apply Chain.walk_quiet (by rfl) (by decide)
    · intro ph wx hp hwn hx K hK
      rcases (show ph = 0 ∨ ph = 1 from by have h : ph ≤ 1 := hp; omega) with rfl | rfl
      · have y := (show Lit W2.heap.size W2 W2.heap.size (.cells ROW 93 (0, 0)) wx from hx.2.2.2)
        have z_0 := (y.cell (k * 9)).trans (r0)
        have z_1 := (y.cell (k * 9 + 1)).trans (r1)
        clear y
        have HX := Lib.hid hx
        clear hx hwn hp
        go_simp
        go_at_K
        exact hK _ HX.out
      · have y := (show Lit W2.heap.size W2 W2.heap.size (.cells ((((ROW).setIfInBounds (k * 9) (.int .u32 ((q.iu &&& U : Nat) : Int)))).setIfInBounds (k * 9 + 1) (.int .u32 ((q.id &&& D : Nat) : Int))) 93 (0, 0)) wx from hx.2.2.2)
        clear y
        have HX := Lib.hid hx
        clear hx hwn hp
        go_simp
        go_at_K
        exact hK _ HX.out
    · exact ⟨_, rfl⟩
    apply Chain.walk_quiet (by rfl) (by decide)
    · intro ph wx hp hwn hx K hK
      rcases (show ph = 0 ∨ ph = 1 from by have h : ph ≤ 1 := hp; omega) with rfl | rfl
      · have y := (show Lit W2.heap.size W2 W2.heap.size (.cells ROW 93 (0, 0)) wx from hx.2.2.2)
        have z_0 := (y.cell (k * 9)).trans (r0)
        have z_1 := (y.cell (k * 9 + 1)).trans (r1)
        clear y
        have HX := Lib.hid hx
        clear hx hwn hp
        go_simp
        go_at_K
        exact hK _ HX.out
      · have y := (show Lit W2.heap.size W2 W2.heap.size (.cells ((((ROW).setIfInBounds (k * 9) (.int .u32 ((q.iu &&& U : Nat) : Int)))).setIfInBounds (k * 9 + 1) (.int .u32 ((q.id &&& D : Nat) : Int))) 93 (0, 0)) wx from hx.2.2.2)
        clear y
        have HX := Lib.hid hx
        clear hx hwn hp
        go_simp
        go_at_K
        exact hK _ HX.out
    · exact ⟨_, rfl⟩
    apply Chain.walk_quiet (by rfl) (by decide)
    · intro ph wx hp hwn hx K hK
      rcases (show ph = 0 ∨ ph = 1 from by have h : ph ≤ 1 := hp; omega) with rfl | rfl
      · have y := (show Lit W2.heap.size W2 W2.heap.size (.cells ROW 93 (0, 0)) wx from hx.2.2.2)
        have z_0 := (y.cell (k * 9)).trans (r0)
        have z_1 := (y.cell (k * 9 + 1)).trans (r1)
        clear y
        have HX := Lib.hid hx
        clear hx hwn hp
        go_simp
        go_at_K
        exact hK _ HX.out
      · exact absurd ((Eq.symm (show _ = false by kernel_rfl)).trans hwn) Bool.false_ne_true
    · exact ⟨_, rfl⟩
    apply Chain.walk_quiet (by rfl) (by decide)
    · intro ph wx hp hwn hx K hK
      rcases (show ph = 0 ∨ ph = 1 from by have h : ph ≤ 1 := hp; omega) with rfl | rfl
      · have y := (show Lit W2.heap.size W2 W2.heap.size (.cells ROW 93 (0, 0)) wx from hx.2.2.2)
        have z_0 := (y.cell (k * 9)).trans (r0)
        have z_1 := (y.cell (k * 9 + 1)).trans (r1)
        clear y
        have HX := Lib.hid hx
        clear hx hwn hp
        go_simp
        go_at_K
        exact hK _ HX.out
      · have y := (show Lit W2.heap.size W2 W2.heap.size (.cells ((((ROW).setIfInBounds (k * 9) (.int .u32 ((q.iu &&& U : Nat) : Int)))).setIfInBounds (k * 9 + 1) (.int .u32 ((q.id &&& D : Nat) : Int))) 93 (0, 0)) wx from hx.2.2.2)
        clear y
        have HX := Lib.hid hx
        clear hx hwn hp
        go_simp
        go_at_K
        exact hK _ HX.out
    · exact ⟨_, rfl⟩
    apply Chain.walk_quiet (by rfl) (by decide)
    · intro ph wx hp hwn hx K hK
      rcases (show ph = 0 ∨ ph = 1 from by have h : ph ≤ 1 := hp; omega) with rfl | rfl
      · have y := (show Lit W2.heap.size W2 W2.heap.size (.cells ROW 93 (0, 0)) wx from hx.2.2.2)
        have z_0 := (y.cell (k * 9)).trans (r0)
        have z_1 := (y.cell (k * 9 + 1)).trans (r1)
        clear y
        have HX := Lib.hid hx
        clear hx hwn hp
        go_simp
        go_at_K
        exact hK _ HX.out
      · have y := (show Lit W2.heap.size W2 W2.heap.size (.cells ((((ROW).setIfInBounds (k * 9) (.int .u32 ((q.iu &&& U : Nat) : Int)))).setIfInBounds (k * 9 + 1) (.int .u32 ((q.id &&& D : Nat) : Int))) 93 (0, 0)) wx from hx.2.2.2)
        clear y
        have HX := Lib.hid hx
        clear hx hwn hp
        go_simp
        go_at_K
        exact hK _ HX.out
    · exact ⟨_, rfl⟩
    apply Chain.walk_quiet (by rfl) (by decide)
    · intro ph wx hp hwn hx K hK
      rcases (show ph = 0 ∨ ph = 1 from by have h : ph ≤ 1 := hp; omega) with rfl | rfl
      · have y := (show Lit W2.heap.size W2 W2.heap.size (.cells ROW 93 (0, 0)) wx from hx.2.2.2)
        have z_0 := (y.cell (k * 9)).trans (r0)
        have z_1 := (y.cell (k * 9 + 1)).trans (r1)
        clear y
        have HX := Lib.hid hx
        clear hx hwn hp
        go_simp
        go_at_K
        exact hK _ HX.out
      · have y := (show Lit W2.heap.size W2 W2.heap.size (.cells ((((ROW).setIfInBounds (k * 9) (.int .u32 ((q.iu &&& U : Nat) : Int)))).setIfInBounds (k * 9 + 1) (.int .u32 ((q.id &&& D : Nat) : Int))) 93 (0, 0)) wx from hx.2.2.2)
        clear y
        have HX := Lib.hid hx
        clear hx hwn hp
        go_simp
        go_at_K
        exact hK _ HX.out
    · exact ⟨_, rfl⟩
    apply Chain.walk_quiet (by rfl) (by decide)
    · intro ph wx hp hwn hx K hK
      rcases (show ph = 0 ∨ ph = 1 from by have h : ph ≤ 1 := hp; omega) with rfl | rfl
      · have y := (show Lit W2.heap.size W2 W2.heap.size (.cells ROW 93 (0, 0)) wx from hx.2.2.2)
        have z_0 := (y.cell (k * 9)).trans (r0)
        have z_1 := (y.cell (k * 9 + 1)).trans (r1)
        clear y
        have HX := Lib.hid hx
        clear hx hwn hp
        go_simp
        go_at_K
        exact hK _ HX.out
      · have y := (show Lit W2.heap.size W2 W2.heap.size (.cells ((((ROW).setIfInBounds (k * 9) (.int .u32 ((q.iu &&& U : Nat) : Int)))).setIfInBounds (k * 9 + 1) (.int .u32 ((q.id &&& D : Nat) : Int))) 93 (0, 0)) wx from hx.2.2.2)
        clear y
        have HX := Lib.hid hx
        clear hx hwn hp
        go_simp
        go_at_K
        exact hK _ HX.out
    · exact ⟨_, rfl⟩
    apply Chain.walk_quiet (by rfl) (by decide)
    · intro ph wx hp hwn hx K hK
      rcases (show ph = 0 ∨ ph = 1 from by have h : ph ≤ 1 := hp; omega) with rfl | rfl
      · have y := (show Lit W2.heap.size W2 W2.heap.size (.cells ROW 93 (0, 0)) wx from hx.2.2.2)
        have z_0 := (y.cell (k * 9)).trans (r0)
        have z_1 := (y.cell (k * 9 + 1)).trans (r1)
        clear y
        have HX := Lib.hid hx
        clear hx hwn hp
        go_simp
        go_at_K
        exact hK _ HX.out
      · have y := (show Lit W2.heap.size W2 W2.heap.size (.cells ((((ROW).setIfInBounds (k * 9) (.int .u32 ((q.iu &&& U : Nat) : Int)))).setIfInBounds (k * 9 + 1) (.int .u32 ((q.id &&& D : Nat) : Int))) 93 (0, 0)) wx from hx.2.2.2)
        clear y
        have HX := Lib.hid hx
        clear hx hwn hp
        go_simp
        go_at_K
        exact hK _ HX.out
    · exact ⟨_, rfl⟩
    apply Chain.walk_quiet (by rfl) (by decide)
    · intro ph wx hp hwn hx K hK
      rcases (show ph = 0 ∨ ph = 1 from by have h : ph ≤ 1 := hp; omega) with rfl | rfl
      · have y := (show Lit W2.heap.size W2 W2.heap.size (.cells ROW 93 (0, 0)) wx from hx.2.2.2)
        have z_0 := (y.cell (k * 9)).trans (r0)
        have z_1 := (y.cell (k * 9 + 1)).trans (r1)
        clear y
        have HX := Lib.hid hx
        clear hx hwn hp
        go_simp
        go_at_K
        exact hK _ HX.out
      · have y := (show Lit W2.heap.size W2 W2.heap.size (.cells ((((ROW).setIfInBounds (k * 9) (.int .u32 ((q.iu &&& U : Nat) : Int)))).setIfInBounds (k * 9 + 1) (.int .u32 ((q.id &&& D : Nat) : Int))) 93 (0, 0)) wx from hx.2.2.2)
        clear y
        have HX := Lib.hid hx
        clear hx hwn hp
        go_simp
        go_at_K
        exact hK _ HX.out
    · exact ⟨_, rfl⟩
    apply Chain.walk_quiet (by rfl) (by decide)
    · intro ph wx hp hwn hx K hK
      rcases (show ph = 0 ∨ ph = 1 from by have h : ph ≤ 1 := hp; omega) with rfl | rfl
      · have y := (show Lit W2.heap.size W2 W2.heap.size (.cells ROW 93 (0, 0)) wx from hx.2.2.2)
        have z_0 := (y.cell (k * 9)).trans (r0)
        have z_1 := (y.cell (k * 9 + 1)).trans (r1)
        clear y
        have HX := Lib.hid hx
        clear hx hwn hp
        go_simp
        go_at_K
        exact hK _ HX.out
      · have y := (show Lit W2.heap.size W2 W2.heap.size (.cells ((((ROW).setIfInBounds (k * 9) (.int .u32 ((q.iu &&& U : Nat) : Int)))).setIfInBounds (k * 9 + 1) (.int .u32 ((q.id &&& D : Nat) : Int))) 93 (0, 0)) wx from hx.2.2.2)
        clear y
        have HX := Lib.hid hx
        clear hx hwn hp
        go_simp
        go_at_K
        exact hK _ HX.out
    · exact ⟨_, rfl⟩
    apply Chain.walk_quiet (by rfl) (by decide)
    · intro ph wx hp hwn hx K hK
      rcases (show ph = 0 ∨ ph = 1 from by have h : ph ≤ 1 := hp; omega) with rfl | rfl
      · have y := (show Lit W2.heap.size W2 W2.heap.size (.cells ROW 93 (0, 0)) wx from hx.2.2.2)
        have z_0 := (y.cell (k * 9)).trans (r0)
        have z_1 := (y.cell (k * 9 + 1)).trans (r1)
        clear y
        have HX := Lib.hid hx
        clear hx hwn hp
        go_simp
        go_at_K
        exact hK _ HX.out
      · exact absurd ((Eq.symm (show _ = false by kernel_rfl)).trans hwn) Bool.false_ne_true
    · exact ⟨_, rfl⟩
    apply Chain.walk_quiet (by rfl) (by decide)
    · intro ph wx hp hwn hx K hK
      rcases (show ph = 0 ∨ ph = 1 from by have h : ph ≤ 1 := hp; omega) with rfl | rfl
      · have y := (show Lit W2.heap.size W2 W2.heap.size (.cells ROW 93 (0, 0)) wx from hx.2.2.2)
        have z_0 := (y.cell (k * 9)).trans (r0)
        have z_1 := (y.cell (k * 9 + 1)).trans (r1)
        clear y
        have HX := Lib.hid hx
        clear hx hwn hp
        go_simp
        go_at_K
        exact hK _ HX.out
      · have y := (show Lit W2.heap.size W2 W2.heap.size (.cells ((((ROW).setIfInBounds (k * 9) (.int .u32 ((q.iu &&& U : Nat) : Int)))).setIfInBounds (k * 9 + 1) (.int .u32 ((q.id &&& D : Nat) : Int))) 93 (0, 0)) wx from hx.2.2.2)
        clear y
        have HX := Lib.hid hx
        clear hx hwn hp
        go_simp
        go_at_K
        exact hK _ HX.out
    · exact ⟨_, rfl⟩
    apply Chain.walk_quiet (by rfl) (by decide)
    · intro ph wx hp hwn hx K hK
      rcases (show ph = 0 ∨ ph = 1 from by have h : ph ≤ 1 := hp; omega) with rfl | rfl
      · have y := (show Lit W2.heap.size W2 W2.heap.size (.cells ROW 93 (0, 0)) wx from hx.2.2.2)
        have z_0 := (y.cell (k * 9)).trans (r0)
        have z_1 := (y.cell (k * 9 + 1)).trans (r1)
        clear y
        have HX := Lib.hid hx
        clear hx hwn hp
        go_simp
        go_at_K
        exact hK _ HX.out
      · have y := (show Lit W2.heap.size W2 W2.heap.size (.cells ((((ROW).setIfInBounds (k * 9) (.int .u32 ((q.iu &&& U : Nat) : Int)))).setIfInBounds (k * 9 + 1) (.int .u32 ((q.id &&& D : Nat) : Int))) 93 (0, 0)) wx from hx.2.2.2)
        clear y
        have HX := Lib.hid hx
        clear hx hwn hp
        go_simp
        go_at_K
        exact hK _ HX.out
    · exact ⟨_, rfl⟩
    apply Chain.walk_quiet (by rfl) (by decide)
    · intro ph wx hp hwn hx K hK
      rcases (show ph = 0 ∨ ph = 1 from by have h : ph ≤ 1 := hp; omega) with rfl | rfl
      · have y := (show Lit W2.heap.size W2 W2.heap.size (.cells ROW 93 (0, 0)) wx from hx.2.2.2)
        have z_0 := (y.cell (k * 9)).trans (r0)
        have z_1 := (y.cell (k * 9 + 1)).trans (r1)
        clear y
        have HX := Lib.hid hx
        clear hx hwn hp
        go_simp
        go_at_K
        exact hK _ HX.out
      · have y := (show Lit W2.heap.size W2 W2.heap.size (.cells ((((ROW).setIfInBounds (k * 9) (.int .u32 ((q.iu &&& U : Nat) : Int)))).setIfInBounds (k * 9 + 1) (.int .u32 ((q.id &&& D : Nat) : Int))) 93 (0, 0)) wx from hx.2.2.2)
        clear y
        have HX := Lib.hid hx
        clear hx hwn hp
        go_simp
        go_at_K
        exact hK _ HX.out
    · exact ⟨_, rfl⟩
    apply Chain.walk_quiet (by rfl) (by decide)
    · intro ph wx hp hwn hx K hK
      rcases (show ph = 0 ∨ ph = 1 from by have h : ph ≤ 1 := hp; omega) with rfl | rfl
      · have y := (show Lit W2.heap.size W2 W2.heap.size (.cells ROW 93 (0, 0)) wx from hx.2.2.2)
        have z_0 := (y.cell (k * 9)).trans (r0)
        have z_1 := (y.cell (k * 9 + 1)).trans (r1)
        clear y
        have HX := Lib.hid hx
        clear hx hwn hp
        go_simp
        go_at_K
        exact hK _ HX.out
      · have y := (show Lit W2.heap.size W2 W2.heap.size (.cells ((((ROW).setIfInBounds (k * 9) (.int .u32 ((q.iu &&& U : Nat) : Int)))).setIfInBounds (k * 9 + 1) (.int .u32 ((q.id &&& D : Nat) : Int))) 93 (0, 0)) wx from hx.2.2.2)
        clear y
        have HX := Lib.hid hx
        clear hx hwn hp
        go_simp
        go_at_K
        exact hK _ HX.out
    · exact ⟨_, rfl⟩
    apply Chain.walk_quiet (by rfl) (by decide)
    · intro ph wx hp hwn hx K hK
      rcases (show ph = 0 ∨ ph = 1 from by have h : ph ≤ 1 := hp; omega) with rfl | rfl
      · have y := (show Lit W2.heap.size W2 W2.heap.size (.cells ROW 93 (0, 0)) wx from hx.2.2.2)
        have z_0 := (y.cell (k * 9)).trans (r0)
        have z_1 := (y.cell (k * 9 + 1)).trans (r1)
        clear y
        have HX := Lib.hid hx
        clear hx hwn hp
        go_simp
        go_at_K
        exact hK _ HX.out
      · have y := (show Lit W2.heap.size W2 W2.heap.size (.cells ((((ROW).setIfInBounds (k * 9) (.int .u32 ((q.iu &&& U : Nat) : Int)))).setIfInBounds (k * 9 + 1) (.int .u32 ((q.id &&& D : Nat) : Int))) 93 (0, 0)) wx from hx.2.2.2)
        clear y
        have HX := Lib.hid hx
        clear hx hwn hp
        go_simp
        go_at_K
        exact hK _ HX.out
    · exact ⟨_, rfl⟩
    apply Chain.walk_quiet (by rfl) (by decide)
    · intro ph wx hp hwn hx K hK
      rcases (show ph = 0 ∨ ph = 1 from by have h : ph ≤ 1 := hp; omega) with rfl | rfl
      · have y := (show Lit W2.heap.size W2 W2.heap.size (.cells ROW 93 (0, 0)) wx from hx.2.2.2)
        have z_0 := (y.cell (k * 9)).trans (r0)
        have z_1 := (y.cell (k * 9 + 1)).trans (r1)
        clear y
        have HX := Lib.hid hx
        clear hx hwn hp
        go_simp
        go_at_K
        exact hK _ HX.out
      · have y := (show Lit W2.heap.size W2 W2.heap.size (.cells ((((ROW).setIfInBounds (k * 9) (.int .u32 ((q.iu &&& U : Nat) : Int)))).setIfInBounds (k * 9 + 1) (.int .u32 ((q.id &&& D : Nat) : Int))) 93 (0, 0)) wx from hx.2.2.2)
        clear y
        have HX := Lib.hid hx
        clear hx hwn hp
        go_simp
        go_at_K
        exact hK _ HX.out
    · exact ⟨_, rfl⟩
    apply Chain.walk_turn 0 (by rfl) (by rfl)
    · intro wx hx K hK
      have y := (show Lit W2.heap.size W2 W2.heap.size (.cells ROW 93 (0, 0)) wx from hx.2.2.2)
      have z0 := (y.cell (k * 9)).trans (r0)
      have ff0 := y.free (k * 9)
      have z1 := (y.cell (k * 9 + 1)).trans (r1)
      have ff1 := y.free (k * 9 + 1)
      have g : Hid (Lit w.heap.size w w.heap.size (.cells #[.int .i64 (F : Int), .int .i64 d, .int .i64 r, .int .i64 p, .float .f64 e1, .float .f64 e2, .float .f64 e3, .slice A C cap] 25 (0, 0)) ((wx.setCell ⟨W2.heap.size, k * 9, none⟩ (.int .u32 ((q.iu &&& U : Nat) : Int))).setCell ⟨W2.heap.size, k * 9 + 1, none⟩ (.int .u32 ((q.id &&& D : Nat) : Int))) ∧ Lit (w.heap.size + 1) (w.alloc (.cells #[.int .i64 (F : Int), .int .i64 d, .int .i64 r, .int .i64 p, .float .f64 e1, .float .f64 e2, .float .f64 e3, .slice A C cap] 25)) (w.heap.size + 1) (.cells #[.int .u32 (au2 : Int), .int .u32 (ad2 : Int), .int .u32 (su2 : Int), .int .u32 (sd2 : Int), .bool bad, .bool full, .int .i64 (st2 : Int), .slice A' ys.length cp] 46 (0, 0)) ((wx.setCell ⟨W2.heap.size, k * 9, none⟩ (.int .u32 ((q.iu &&& U : Nat) : Int))).setCell ⟨W2.heap.size, k * 9 + 1, none⟩ (.int .u32 ((q.id &&& D : Nat) : Int))) ∧ Lit 0 w (w.heap.size + 2) (.cells #[.int .u32 0, .int .u32 0, .int .u32 0, .int .u32 0, .bool false, .bool false, .int .i64 0, .slice none 0 0] 46 (0, 0)) ((wx.setCell ⟨W2.heap.size, k * 9, none⟩ (.int .u32 ((q.iu &&& U : Nat) : Int))).setCell ⟨W2.heap.size, k * 9 + 1, none⟩ (.int .u32 ((q.id &&& D : Nat) : Int))) ∧ Lit W2.heap.size W2 W2.heap.size (.cells ((((ROW).setIfInBounds (k * 9) (.int .u32 ((q.iu &&& U : Nat) : Int)))).setIfInBounds (k * 9 + 1) (.int .u32 ((q.id &&& D : Nat) : Int))) 93 (0, 0)) ((wx.setCell ⟨W2.heap.size, k * 9, none⟩ (.int .u32 ((q.iu &&& U : Nat) : Int))).setCell ⟨W2.heap.size, k * 9 + 1, none⟩ (.int .u32 ((q.id &&& D : Nat) : Int)))) := Lib.hid ⟨((hx.1.putOther (by omega) (by omega) _ _).putOther (by omega) (by omega) _ _), ((hx.2.1.putOther (by omega) (by omega) _ _).putOther (by omega) (by omega) _ _), ((hx.2.2.1.putOther (Nat.zero_le _) (by omega) _ _).putOther (Nat.zero_le _) (by omega) _ _), ((y.put (Nat.le_refl _) _ _).put (Nat.le_refl _) _ _)⟩
      have HK2 := Lib.hid hK
      clear hx y hK
      go_simp
      exact HK2.out _ g.out
    · exact ⟨undef, rfl⟩
    refine Chain.walk_nil (fun W4 hx => ?_)
    have K4 := (show Lit W2.heap.size W2 W2.heap.size (.cells ((((ROW).setIfInBounds (k * 9) (.int .u32 ((q.iu &&& U : Nat) : Int)))).setIfInBounds (k * 9 + 1) (.int .u32 ((q.id &&& D : Nat) : Int))) 93 (0, 0)) W4 from hx.2.2.2)
    have HK := Lib.hid (And.intro hx.1 (And.intro hx.2.1 (And.intro hx.2.2.1 K4)))
    clear hx K4
    have t3 : (((((ROW).setIfInBounds (k * 9) (.int .u32 ((q.iu &&& U : Nat) : Int)))).setIfInBounds (k * 9 + 1) (.int .u32 ((q.id &&& D : Nat) : Int))))[k * 9 + 3]? = some (.int .u32 (q.lu : Int)) := (Array.getElem?_setIfInBounds_ne (by omega)).trans ((Array.getElem?_setIfInBounds_ne (by omega)).trans (r3))
    have t4 : (((((ROW).setIfInBounds (k * 9) (.int .u32 ((q.iu &&& U : Nat) : Int)))).setIfInBounds (k * 9 + 1) (.int .u32 ((q.id &&& D : Nat) : Int))))[k * 9 + 4]? = some (.int .u32 (q.ld : Int)) := (Array.getElem?_setIfInBounds_ne (by omega)).trans ((Array.getElem?_setIfInBounds_ne (by omega)).trans (r4))
    have t6 : (((((ROW).setIfInBounds (k * 9) (.int .u32 ((q.iu &&& U : Nat) : Int)))).setIfInBounds (k * 9 + 1) (.int .u32 ((q.id &&& D : Nat) : Int))))[k * 9 + 6]? = some (.int .i64 q.cmd) := (Array.getElem?_setIfInBounds_ne (by omega)).trans ((Array.getElem?_setIfInBounds_ne (by omega)).trans (r6))
    have t7 : (((((ROW).setIfInBounds (k * 9) (.int .u32 ((q.iu &&& U : Nat) : Int)))).setIfInBounds (k * 9 + 1) (.int .u32 ((q.id &&& D : Nat) : Int))))[k * 9 + 7]? = some (.int .i64 q.ph) := (Array.getElem?_setIfInBounds_ne (by omega)).trans ((Array.getElem?_setIfInBounds_ne (by omega)).trans (r7))
    generalize hROW1 : ((((ROW).setIfInBounds (k * 9) (.int .u32 ((q.iu &&& U : Nat) : Int)))).setIfInBounds (k * 9 + 1) (.int .u32 ((q.id &&& D : Nat) : Int))) = ROW1 at *
    have HROW1 := Lib.hid hROW1
    clear hROW1 r0 r1 r3 r4 r6 r7
    go_wp2_with fail
    refine Chain.chain (fun ph wx => Lit w.heap.size w w.heap.size (.cells #[.int .i64 (F : Int), .int .i64 d, .int .i64 r, .int .i64 p, .float .f64 e1, .float .f64 e2, .float .f64 e3, .slice A C cap] 25 (0, 0)) wx ∧ Lit (w.heap.size + 1) (w.alloc (.cells #[.int .i64 (F : Int), .int .i64 d, .int .i64 r, .int .i64 p, .float .f64 e1, .float .f64 e2, .float .f64 e3, .slice A C cap] 25)) (w.heap.size + 1) (.cells #[.int .u32 (au2 : Int), .int .u32 (ad2 : Int), .int .u32 (su2 : Int), .int .u32 (sd2 : Int), .bool bad, .bool full, .int .i64 (st2 : Int), .slice A' ys.length cp] 46 (0, 0)) wx ∧ Lit 0 w (w.heap.size + 2) (.cells #[.int .u32 0, .int .u32 0, .int .u32 0, .int .u32 0, .bool false, .bool false, .int .i64 0, .slice none 0 0] 46 (0, 0)) wx ∧ Lit W2.heap.size W2 W2.heap.size (.cells (([ROW1, ((((ROW1).setIfInBounds (k * 9 + 3) (.int .u32 ((q.lu &&& U : Nat) : Int)))).setIfInBounds (k * 9 + 4) (.int .u32 ((q.ld &&& D : Nat) : Int)))] : List (Array Value)).getD ph #[]) 93 (0, 0)) wx) (fun _ _ => False) [18] (by kernel_rfl) (by kernel_rfl) (fun _ _ _ _ h => h.elim) (by exact ⟨HK.out.1.next (Below.refl _ _).drew, HK.out.2.1.next (Below.refl _ _).drew, HK.out.2.2.1.next (Below.refl _ _).drew, HK.out.2.2.2.next (Below.refl _ _).drew⟩) ?_
    clear HK
    apply Chain.walk_quiet (by rfl) (by decide)
    · intro ph wx hp hwn hx K hK
      rcases (show ph = 0 ∨ ph = 1 from by have h : ph ≤ 1 := hp; omega) with rfl | rfl
      · have y := (show Lit W2.heap.size W2 W2.heap.size (.cells ROW1 93 (0, 0)) wx from hx.2.2.2)
        have z_3 := (y.cell (k * 9 + 3)).trans (t3)
        have z_4 := (y.cell (k * 9 + 4)).trans (t4)
        clear y
        have HX := Lib.hid hx
        clear hx hwn hp
        go_simp
        go_at_K
        exact hK _ HX.out
      · have y := (show Lit W2.heap.size W2 W2.heap.size (.cells ((((ROW1).setIfInBounds (k * 9 + 3) (.int .u32 ((q.lu &&& U : Nat) : Int)))).setIfInBounds (k * 9 + 4) (.int .u32 ((q.ld &&& D : Nat) : Int))) 93 (0, 0)) wx from hx.2.2.2)
        clear y
        have HX := Lib.hid hx
        clear hx hwn hp
        go_simp
        go_at_K
        exact hK _ HX.out
    · exact ⟨_, rfl⟩
    apply Chain.walk_quiet (by rfl) (by decide)
    · intro ph wx hp hwn hx K hK
      rcases (show ph = 0 ∨ ph = 1 from by have h : ph ≤ 1 := hp; omega) with rfl | rfl
      · have y := (show Lit W2.heap.size W2 W2.heap.size (.cells ROW1 93 (0, 0)) wx from hx.2.2.2)
        have z_3 := (y.cell (k * 9 + 3)).trans (t3)
        have z_4 := (y.cell (k * 9 + 4)).trans (t4)
        clear y
        have HX := Lib.hid hx
        clear hx hwn hp
        go_simp
        go_at_K
        exact hK _ HX.out
      · have y := (show Lit W2.heap.size W2 W2.heap.size (.cells ((((ROW1).setIfInBounds (k * 9 + 3) (.int .u32 ((q.lu &&& U : Nat) : Int)))).setIfInBounds (k * 9 + 4) (.int .u32 ((q.ld &&& D : Nat) : Int))) 93 (0, 0)) wx from hx.2.2.2)
        clear y
        have HX := Lib.hid hx
        clear hx hwn hp
        go_simp
        go_at_K
        exact hK _ HX.out
    · exact ⟨_, rfl⟩
    apply Chain.walk_quiet (by rfl) (by decide)
    · intro ph wx hp hwn hx K hK
      rcases (show ph = 0 ∨ ph = 1 from by have h : ph ≤ 1 := hp; omega) with rfl | rfl
      · have y := (show Lit W2.heap.size W2 W2.heap.size (.cells ROW1 93 (0, 0)) wx from hx.2.2.2)
        have z_3 := (y.cell (k * 9 + 3)).trans (t3)
        have z_4 := (y.cell (k * 9 + 4)).trans (t4)
        clear y
        have HX := Lib.hid hx
        clear hx hwn hp
        go_simp
        go_at_K
        exact hK _ HX.out
      · have y := (show Lit W2.heap.size W2 W2.heap.size (.cells ((((ROW1).setIfInBounds (k * 9 + 3) (.int .u32 ((q.lu &&& U : Nat) : Int)))).setIfInBounds (k * 9 + 4) (.int .u32 ((q.ld &&& D : Nat) : Int))) 93 (0, 0)) wx from hx.2.2.2)
        clear y
        have HX := Lib.hid hx
        clear hx hwn hp
        go_simp
        go_at_K
        exact hK _ HX.out
    · exact ⟨_, rfl⟩
    apply Chain.walk_quiet (by rfl) (by decide)
    · intro ph wx hp hwn hx K hK
      rcases (show ph = 0 ∨ ph = 1 from by have h : ph ≤ 1 := hp; omega) with rfl | rfl
      · have y := (show Lit W2.heap.size W2 W2.heap.size (.cells ROW1 93 (0, 0)) wx from hx.2.2.2)
        have z_3 := (y.cell (k * 9 + 3)).trans (t3)
        have z_4 := (y.cell (k * 9 + 4)).trans (t4)
        clear y
        have HX := Lib.hid hx
        clear hx hwn hp
        go_simp
        go_at_K
        exact hK _ HX.out
      · have y := (show Lit W2.heap.size W2 W2.heap.size (.cells ((((ROW1).setIfInBounds (k * 9 + 3) (.int .u32 ((q.lu &&& U : Nat) : Int)))).setIfInBounds (k * 9 + 4) (.int .u32 ((q.ld &&& D : Nat) : Int))) 93 (0, 0)) wx from hx.2.2.2)
        clear y
        have HX := Lib.hid hx
        clear hx hwn hp
        go_simp
        go_at_K
        exact hK _ HX.out
    · exact ⟨_, rfl⟩
    apply Chain.walk_quiet (by rfl) (by decide)
    · intro ph wx hp hwn hx K hK
      rcases (show ph = 0 ∨ ph = 1 from by have h : ph ≤ 1 := hp; omega) with rfl | rfl
      · have y := (show Lit W2.heap.size W2 W2.heap.size (.cells ROW1 93 (0, 0)) wx from hx.2.2.2)
        have z_3 := (y.cell (k * 9 + 3)).trans (t3)
        have z_4 := (y.cell (k * 9 + 4)).trans (t4)
        clear y
        have HX := Lib.hid hx
        clear hx hwn hp
        go_simp
        go_at_K
        exact hK _ HX.out
      · have y := (show Lit W2.heap.size W2 W2.heap.size (.cells ((((ROW1).setIfInBounds (k * 9 + 3) (.int .u32 ((q.lu &&& U : Nat) : Int)))).setIfInBounds (k * 9 + 4) (.int .u32 ((q.ld &&& D : Nat) : Int))) 93 (0, 0)) wx from hx.2.2.2)
        clear y
        have HX := Lib.hid hx
        clear hx hwn hp
        go_simp
        go_at_K
        exact hK _ HX.out
    · exact ⟨_, rfl⟩
    apply Chain.walk_quiet (by rfl) (by decide)
    · intro ph wx hp hwn hx K hK
      rcases (show ph = 0 ∨ ph = 1 from by have h : ph ≤ 1 := hp; omega) with rfl | rfl
      · have y := (show Lit W2.heap.size W2 W2.heap.size (.cells ROW1 93 (0, 0)) wx from hx.2.2.2)
        have z_3 := (y.cell (k * 9 + 3)).trans (t3)
        have z_4 := (y.cell (k * 9 + 4)).trans (t4)
        clear y
        have HX := Lib.hid hx
        clear hx hwn hp
        go_simp
        go_at_K
        exact hK _ HX.out
      · exact absurd ((Eq.symm (show _ = false by kernel_rfl)).trans hwn) Bool.false_ne_true
    · exact ⟨_, rfl⟩
    apply Chain.walk_quiet (by rfl) (by decide)
    · intro ph wx hp hwn hx K hK
      rcases (show ph = 0 ∨ ph = 1 from by have h : ph ≤ 1 := hp; omega) with rfl | rfl
      · have y := (show Lit W2.heap.size W2 W2.heap.size (.cells ROW1 93 (0, 0)) wx from hx.2.2.2)
        have z_3 := (y.cell (k * 9 + 3)).trans (t3)
        have z_4 := (y.cell (k * 9 + 4)).trans (t4)
        clear y
        have HX := Lib.hid hx
        clear hx hwn hp
        go_simp
        go_at_K
        exact hK _ HX.out
      · have y := (show Lit W2.heap.size W2 W2.heap.size (.cells ((((ROW1).setIfInBounds (k * 9 + 3) (.int .u32 ((q.lu &&& U : Nat) : Int)))).setIfInBounds (k * 9 + 4) (.int .u32 ((q.ld &&& D : Nat) : Int))) 93 (0, 0)) wx from hx.2.2.2)
        clear y
        have HX := Lib.hid hx
        clear hx hwn hp
        go_simp
        go_at_K
        exact hK _ HX.out
    · exact ⟨_, rfl⟩
    apply Chain.walk_quiet (by rfl) (by decide)
    · intro ph wx hp hwn hx K hK
      rcases (show ph = 0 ∨ ph = 1 from by have h : ph ≤ 1 := hp; omega) with rfl | rfl
      · have y := (show Lit W2.heap.size W2 W2.heap.size (.cells ROW1 93 (0, 0)) wx from hx.2.2.2)
        have z_3 := (y.cell (k * 9 + 3)).trans (t3)
        have z_4 := (y.cell (k * 9 + 4)).trans (t4)
        clear y
        have HX := Lib.hid hx
        clear hx hwn hp
        go_simp
        go_at_K
        exact hK _ HX.out
      · have y := (show Lit W2.heap.size W2 W2.heap.size (.cells ((((ROW1).setIfInBounds (k * 9 + 3) (.int .u32 ((q.lu &&& U : Nat) : Int)))).setIfInBounds (k * 9 + 4) (.int .u32 ((q.ld &&& D : Nat) : Int))) 93 (0, 0)) wx from hx.2.2.2)
        clear y
        have HX := Lib.hid hx
        clear hx hwn hp
        go_simp
        go_at_K
        exact hK _ HX.out
    · exact ⟨_, rfl⟩
    apply Chain.walk_quiet (by rfl) (by decide)
    · intro ph wx hp hwn hx K hK
      rcases (show ph = 0 ∨ ph = 1 from by have h : ph ≤ 1 := hp; omega) with rfl | rfl
      · have y := (show Lit W2.heap.size W2 W2.heap.size (.cells ROW1 93 (0, 0)) wx from hx.2.2.2)
        have z_3 := (y.cell (k * 9 + 3)).trans (t3)
        have z_4 := (y.cell (k * 9 + 4)).trans (t4)
        clear y
        have HX := Lib.hid hx
        clear hx hwn hp
        go_simp
        go_at_K
        exact hK _ HX.out
      · have y := (show Lit W2.heap.size W2 W2.heap.size (.cells ((((ROW1).setIfInBounds (k * 9 + 3) (.int .u32 ((q.lu &&& U : Nat) : Int)))).setIfInBounds (k * 9 + 4) (.int .u32 ((q.ld &&& D : Nat) : Int))) 93 (0, 0)) wx from hx.2.2.2)
        clear y
        have HX := Lib.hid hx
        clear hx hwn hp
        go_simp
        go_at_K
        exact hK _ HX.out
    · exact ⟨_, rfl⟩
    apply Chain.walk_quiet (by rfl) (by decide)
    · intro ph wx hp hwn hx K hK
      rcases (show ph = 0 ∨ ph = 1 from by have h : ph ≤ 1 := hp; omega) with rfl | rfl
      · have y := (show Lit W2.heap.size W2 W2.heap.size (.cells ROW1 93 (0, 0)) wx from hx.2.2.2)
        have z_3 := (y.cell (k * 9 + 3)).trans (t3)
        have z_4 := (y.cell (k * 9 + 4)).trans (t4)
        clear y
        have HX := Lib.hid hx
        clear hx hwn hp
        go_simp
        go_at_K
        exact hK _ HX.out
      · have y := (show Lit W2.heap.size W2 W2.heap.size (.cells ((((ROW1).setIfInBounds (k * 9 + 3) (.int .u32 ((q.lu &&& U : Nat) : Int)))).setIfInBounds (k * 9 + 4) (.int .u32 ((q.ld &&& D : Nat) : Int))) 93 (0, 0)) wx from hx.2.2.2)
        clear y
        have HX := Lib.hid hx
        clear hx hwn hp
        go_simp
        go_at_K
        exact hK _ HX.out
    · exact ⟨_, rfl⟩
    apply Chain.walk_quiet (by rfl) (by decide)
    · intro ph wx hp hwn hx K hK
      rcases (show ph = 0 ∨ ph = 1 from by have h : ph ≤ 1 := hp; omega) with rfl | rfl
      · have y := (show Lit W2.heap.size W2 W2.heap.size (.cells ROW1 93 (0, 0)) wx from hx.2.2.2)
        have z_3 := (y.cell (k * 9 + 3)).trans (t3)
        have z_4 := (y.cell (k * 9 + 4)).trans (t4)
        clear y
        have HX := Lib.hid hx
        clear hx hwn hp
        go_simp
        go_at_K
        exact hK _ HX.out
      · have y := (show Lit W2.heap.size W2 W2.heap.size (.cells ((((ROW1).setIfInBounds (k * 9 + 3) (.int .u32 ((q.lu &&& U : Nat) : Int)))).setIfInBounds (k * 9 + 4) (.int .u32 ((q.ld &&& D : Nat) : Int))) 93 (0, 0)) wx from hx.2.2.2)
        clear y
        have HX := Lib.hid hx
        clear hx hwn hp
        go_simp
        go_at_K
        exact hK _ HX.out
    · exact ⟨_, rfl⟩
    apply Chain.walk_quiet (by rfl) (by decide)
    · intro ph wx hp hwn hx K hK
      rcases (show ph = 0 ∨ ph = 1 from by have h : ph ≤ 1 := hp; omega) with rfl | rfl
      · have y := (show Lit W2.heap.size W2 W2.heap.size (.cells ROW1 93 (0, 0)) wx from hx.2.2.2)
        have z_3 := (y.cell (k * 9 + 3)).trans (t3)
        have z_4 := (y.cell (k * 9 + 4)).trans (t4)
        clear y
        have HX := Lib.hid hx
        clear hx hwn hp
        go_simp
        go_at_K
        exact hK _ HX.out
      · have y := (show Lit W2.heap.size W2 W2.heap.size (.cells ((((ROW1).setIfInBounds (k * 9 + 3) (.int .u32 ((q.lu &&& U : Nat) : Int)))).setIfInBounds (k * 9 + 4) (.int .u32 ((q.ld &&& D : Nat) : Int))) 93 (0, 0)) wx from hx.2.2.2)
        clear y
        have HX := Lib.hid hx
        clear hx hwn hp
        go_simp
        go_at_K
        exact hK _ HX.out
    · exact ⟨_, rfl⟩
    apply Chain.walk_quiet (by rfl) (by decide)
    · intro ph wx hp hwn hx K hK
      rcases (show ph = 0 ∨ ph = 1 from by have h : ph ≤ 1 := hp; omega) with rfl | rfl
      · have y := (show Lit W2.heap.size W2 W2.heap.size (.cells ROW1 93 (0, 0)) wx from hx.2.2.2)
        have z_3 := (y.cell (k * 9 + 3)).trans (t3)
        have z_4 := (y.cell (k * 9 + 4)).trans (t4)
        clear y
        have HX := Lib.hid hx
        clear hx hwn hp
        go_simp
        go_at_K
        exact hK _ HX.out
      · exact absurd ((Eq.symm (show _ = false by kernel_rfl)).trans hwn) Bool.false_ne_true
    · exact ⟨_, rfl⟩
    apply Chain.walk_quiet (by rfl) (by decide)
    · intro ph wx hp hwn hx K hK
      rcases (show ph = 0 ∨ ph = 1 from by have h : ph ≤ 1 := hp; omega) with rfl | rfl
      · have y := (show Lit W2.heap.size W2 W2.heap.size (.cells ROW1 93 (0, 0)) wx from hx.2.2.2)
        have z_3 := (y.cell (k * 9 + 3)).trans (t3)
        have z_4 := (y.cell (k * 9 + 4)).trans (t4)
        clear y
        have HX := Lib.hid hx
        clear hx hwn hp
        go_simp
        go_at_K
        exact hK _ HX.out
      · have y := (show Lit W2.heap.size W2 W2.heap.size (.cells ((((ROW1).setIfInBounds (k * 9 + 3) (.int .u32 ((q.lu &&& U : Nat) : Int)))).setIfInBounds (k * 9 + 4) (.int .u32 ((q.ld &&& D : Nat) : Int))) 93 (0, 0)) wx from hx.2.2.2)
        clear y
        have HX := Lib.hid hx
        clear hx hwn hp
        go_simp
        go_at_K
        exact hK _ HX.out
    · exact ⟨_, rfl⟩
    apply Chain.walk_quiet (by rfl) (by decide)
    · intro ph wx hp hwn hx K hK
      rcases (show ph = 0 ∨ ph = 1 from by have h : ph ≤ 1 := hp; omega) with rfl | rfl
      · have y := (show Lit W2.heap.size W2 W2.heap.size (.cells ROW1 93 (0, 0)) wx from hx.2.2.2)
        have z_3 := (y.cell (k * 9 + 3)).trans (t3)
        have z_4 := (y.cell (k * 9 + 4)).trans (t4)
        clear y
        have HX := Lib.hid hx
        clear hx hwn hp
        go_simp
        go_at_K
        exact hK _ HX.out
      · have y := (show Lit W2.heap.size W2 W2.heap.size (.cells ((((ROW1).setIfInBounds (k * 9 + 3) (.int .u32 ((q.lu &&& U : Nat) : Int)))).setIfInBounds (k * 9 + 4) (.int .u32 ((q.ld &&& D : Nat) : Int))) 93 (0, 0)) wx from hx.2.2.2)
        clear y
        have HX := Lib.hid hx
        clear hx hwn hp
        go_simp
        go_at_K
        exact hK _ HX.out
    · exact ⟨_, rfl⟩
    apply Chain.walk_quiet (by rfl) (by decide)
    · intro ph wx hp hwn hx K hK
      rcases (show ph = 0 ∨ ph = 1 from by have h : ph ≤ 1 := hp; omega) with rfl | rfl
      · have y := (show Lit W2.heap.size W2 W2.heap.size (.cells ROW1 93 (0, 0)) wx from hx.2.2.2)
        have z_3 := (y.cell (k * 9 + 3)).trans (t3)
        have z_4 := (y.cell (k * 9 + 4)).trans (t4)
        clear y
        have HX := Lib.hid hx
        clear hx hwn hp
        go_simp
        go_at_K
        exact hK _ HX.out
      · have y := (show Lit W2.heap.size W2 W2.heap.size (.cells ((((ROW1).setIfInBounds (k * 9 + 3) (.int .u32 ((q.lu &&& U : Nat) : Int)))).setIfInBounds (k * 9 + 4) (.int .u32 ((q.ld &&& D : Nat) : Int))) 93 (0, 0)) wx from hx.2.2.2)
        clear y
        have HX := Lib.hid hx
        clear hx hwn hp
        go_simp
        go_at_K
        exact hK _ HX.out
    · exact ⟨_, rfl⟩
    apply Chain.walk_quiet (by rfl) (by decide)
    · intro ph wx hp hwn hx K hK
      rcases (show ph = 0 ∨ ph = 1 from by have h : ph ≤ 1 := hp; omega) with rfl | rfl
      · have y := (show Lit W2.heap.size W2 W2.heap.size (.cells ROW1 93 (0, 0)) wx from hx.2.2.2)
        have z_3 := (y.cell (k * 9 + 3)).trans (t3)
        have z_4 := (y.cell (k * 9 + 4)).trans (t4)
        clear y
        have HX := Lib.hid hx
        clear hx hwn hp
        go_simp
        go_at_K
        exact hK _ HX.out
      · have y := (show Lit W2.heap.size W2 W2.heap.size (.cells ((((ROW1).setIfInBounds (k * 9 + 3) (.int .u32 ((q.lu &&& U : Nat) : Int)))).setIfInBounds (k * 9 + 4) (.int .u32 ((q.ld &&& D : Nat) : Int))) 93 (0, 0)) wx from hx.2.2.2)
        clear y
        have HX := Lib.hid hx
        clear hx hwn hp
        go_simp
        go_at_K
        exact hK _ HX.out
    · exact ⟨_, rfl⟩
    apply Chain.walk_quiet (by rfl) (by decide)
    · intro ph wx hp hwn hx K hK
      rcases (show ph = 0 ∨ ph = 1 from by have h : ph ≤ 1 := hp; omega) with rfl | rfl
      · have y := (show Lit W2.heap.size W2 W2.heap.size (.cells ROW1 93 (0, 0)) wx from hx.2.2.2)
        have z_3 := (y.cell (k * 9 + 3)).trans (t3)
        have z_4 := (y.cell (k * 9 + 4)).trans (t4)
        clear y
        have HX := Lib.hid hx
        clear hx hwn hp
        go_simp
        go_at_K
        exact hK _ HX.out
      · have y := (show Lit W2.heap.size W2 W2.heap.size (.cells ((((ROW1).setIfInBounds (k * 9 + 3) (.int .u32 ((q.lu &&& U : Nat) : Int)))).setIfInBounds (k * 9 + 4) (.int .u32 ((q.ld &&& D : Nat) : Int))) 93 (0, 0)) wx from hx.2.2.2)
        clear y
        have HX := Lib.hid hx
        clear hx hwn hp
        go_simp
        go_at_K
        exact hK _ HX.out
    · exact ⟨_, rfl⟩
    apply Chain.walk_turn 0 (by rfl) (by rfl)
    · intro wx hx K hK
      have y := (show Lit W2.heap.size W2 W2.heap.size (.cells ROW1 93 (0, 0)) wx from hx.2.2.2)
      have z0 := (y.cell (k * 9 + 3)).trans (t3)
      have ff0 := y.free (k * 9 + 3)
      have z1 := (y.cell (k * 9 + 4)).trans (t4)
      have ff1 := y.free (k * 9 + 4)
      have g : Hid (Lit w.heap.size w w.heap.size (.cells #[.int .i64 (F : Int), .int .i64 d, .int .i64 r, .int .i64 p, .float .f64 e1, .float .f64 e2, .float .f64 e3, .slice A C cap] 25 (0, 0)) ((wx.setCell ⟨W2.heap.size, k * 9 + 3, none⟩ (.int .u32 ((q.lu &&& U : Nat) : Int))).setCell ⟨W2.heap.size, k * 9 + 4, none⟩ (.int .u32 ((q.ld &&& D : Nat) : Int))) ∧ Lit (w.heap.size + 1) (w.alloc (.cells #[.int .i64 (F : Int), .int .i64 d, .int .i64 r, .int .i64 p, .float .f64 e1, .float .f64 e2, .float .f64 e3, .slice A C cap] 25)) (w.heap.size + 1) (.cells #[.int .u32 (au2 : Int), .int .u32 (ad2 : Int), .int .u32 (su2 : Int), .int .u32 (sd2 : Int), .bool bad, .bool full, .int .i64 (st2 : Int), .slice A' ys.length cp] 46 (0, 0)) ((wx.setCell ⟨W2.heap.size, k * 9 + 3, none⟩ (.int .u32 ((q.lu &&& U : Nat) : Int))).setCell ⟨W2.heap.size, k * 9 + 4, none⟩ (.int .u32 ((q.ld &&& D : Nat) : Int))) ∧ Lit 0 w (w.heap.size + 2) (.cells #[.int .u32 0, .int .u32 0, .int .u32 0, .int .u32 0, .bool false, .bool false, .int .i64 0, .slice none 0 0] 46 (0, 0)) ((wx.setCell ⟨W2.heap.size, k * 9 + 3, none⟩ (.int .u32 ((q.lu &&& U : Nat) : Int))).setCell ⟨W2.heap.size, k * 9 + 4, none⟩ (.int .u32 ((q.ld &&& D : Nat) : Int))) ∧ Lit W2.heap.size W2 W2.heap.size (.cells ((((ROW1).setIfInBounds (k * 9 + 3) (.int .u32 ((q.lu &&& U : Nat) : Int)))).setIfInBounds (k * 9 + 4) (.int .u32 ((q.ld &&& D : Nat) : Int))) 93 (0, 0)) ((wx.setCell ⟨W2.heap.size, k * 9 + 3, none⟩ (.int .u32 ((q.lu &&& U : Nat) : Int))).setCell ⟨W2.heap.size, k * 9 + 4, none⟩ (.int .u32 ((q.ld &&& D : Nat) : Int)))) := Lib.hid ⟨((hx.1.putOther (by omega) (by omega) _ _).putOther (by omega) (by omega) _ _), ((hx.2.1.putOther (by omega) (by omega) _ _).putOther (by omega) (by omega) _ _), ((hx.2.2.1.putOther (Nat.zero_le _) (by omega) _ _).putOther (Nat.zero_le _) (by omega) _ _), ((y.put (Nat.le_refl _) _ _).put (Nat.le_refl _) _ _)⟩
      have HK2 := Lib.hid hK
      clear hx y hK
      go_simp
      exact HK2.out _ g.out
    · exact ⟨undef, rfl⟩
    refine Chain.walk_nil (fun W4 hx => ?_)
    have K4 := (show Lit W2.heap.size W2 W2.heap.size (.cells ((((ROW1).setIfInBounds (k * 9 + 3) (.int .u32 ((q.lu &&& U : Nat) : Int)))).setIfInBounds (k * 9 + 4) (.int .u32 ((q.ld &&& D : Nat) : Int))) 93 (0, 0)) W4 from hx.2.2.2)
    have HK := Lib.hid (And.intro hx.1 (And.intro hx.2.1 (And.intro hx.2.2.1 K4)))
    clear hx K4
    have s6 : (((((ROW1).setIfInBounds (k * 9 + 3) (.int .u32 ((q.lu &&& U : Nat) : Int)))).setIfInBounds (k * 9 + 4) (.int .u32 ((q.ld &&& D : Nat) : Int))))[k * 9 + 6]? = some (.int .i64 q.cmd) := (Array.getElem?_setIfInBounds_ne (by omega)).trans ((Array.getElem?_setIfInBounds_ne (by omega)).trans (t6))
    have s7 : (((((ROW1).setIfInBounds (k * 9 + 3) (.int .u32 ((q.lu &&& U : Nat) : Int)))).setIfInBounds (k * 9 + 4) (.int .u32 ((q.ld &&& D : Nat) : Int))))[k * 9 + 7]? = some (.int .i64 q.ph) := (Array.getElem?_setIfInBounds_ne (by omega)).trans ((Array.getElem?_setIfInBounds_ne (by omega)).trans (t7))
    generalize hROW2 : ((((ROW1).setIfInBounds (k * 9 + 3) (.int .u32 ((q.lu &&& U : Nat) : Int)))).setIfInBounds (k * 9 + 4) (.int .u32 ((q.ld &&& D : Nat) : Int))) = ROW2 at *
    have HROW2 := Lib.hid hROW2
    clear hROW2 t3 t4 t6 t7
    have hqc := m64_wrap q.cmd
    have hqp := m64_wrap q.ph
    have hFIT := HFC.out q
    have HFIT := Lib.hid hFIT
    clear hFIT
    have hq1 : ((m64 q.cmd : Nat) : Int).tmod 6 = ((m64 q.cmd % 6 : Nat) : Int) := by rw [Int.tmod_eq_emod_of_nonneg (by omega)]; omega
    have hq2 : ((m64 q.cmd : Nat) : Int) % 6 = ((m64 q.cmd % 6 : Nat) : Int) := by omega
    have hq3 : ((m64 q.ph : Nat) : Int).tmod 5 = ((m64 q.ph % 5 : Nat) : Int) := by rw [Int.tmod_eq_emod_of_nonneg (by omega)]; omega
    have hq4 : ((m64 q.ph : Nat) : Int) % 5 = ((m64 q.ph % 5 : Nat) : Int) := by omega
    have hq5 : m64 q.cmd % 6 < 6 := Nat.mod_lt _ (by decide)
    have hq6 : m64 q.ph % 5 < 5 := Nat.mod_lt _ (by decide)
    generalize hufe : m64 q.cmd % 6 = uf at *
    generalize hude : m64 q.ph % 5 = ud at *
    generalize m64 q.cmd = mf at *
    generalize m64 q.ph = md at *
    clear hufe hude
    have hq7 : IntKind.i64.wrap (uf : Int) = (uf : Int) := by rw [IntKind.wrap_i64]; omega
    have hq8 : IntKind.i64.wrap (ud : Int) = (ud : Int) := by rw [IntKind.wrap_i64]; omega
    go_wp2_with fail
    refine Chain.chain (fun ph wx => Lit w.heap.size w w.heap.size (.cells #[.int .i64 (F : Int), .int .i64 d, .int .i64 r, .int .i64 p, .float .f64 e1, .float .f64 e2, .float .f64 e3, .slice A C cap] 25 (0, 0)) wx ∧ Lit (w.heap.size + 1) (w.alloc (.cells #[.int .i64 (F : Int), .int .i64 d, .int .i64 r, .int .i64 p, .float .f64 e1, .float .f64 e2, .float .f64 e3, .slice A C cap] 25)) (w.heap.size + 1) (.cells #[.int .u32 (au2 : Int), .int .u32 (ad2 : Int), .int .u32 (su2 : Int), .int .u32 (sd2 : Int), .bool bad, .bool full, .int .i64 (st2 : Int), .slice A' ys.length cp] 46 (0, 0)) wx ∧ Lit 0 w (w.heap.size + 2) (.cells #[.int .u32 0, .int .u32 0, .int .u32 0, .int .u32 0, .bool false, .bool false, .int .i64 0, .slice none 0 0] 46 (0, 0)) wx ∧ Lit W2.heap.size W2 W2.heap.size (.cells (([ROW2, ((ROW2).setIfInBounds (k * 9 + 6) (.int .i64 (uf : Int))), ((((ROW2).setIfInBounds (k * 9 + 6) (.int .i64 (uf : Int)))).setIfInBounds (k * 9 + 7) (.int .i64 (ud : Int)))] : List (Array Value)).getD ph #[]) 93 (0, 0)) wx) (fun _ _ => False) [18, 21] (by kernel_rfl) (by kernel_rfl) (fun _ _ _ _ h => h.elim) (by exact ⟨HK.out.1.next (Below.refl _ _).drew, HK.out.2.1.next (Below.refl _ _).drew, HK.out.2.2.1.next (Below.refl _ _).drew, HK.out.2.2.2.next (Below.refl _ _).drew⟩) ?_
    clear HK
    apply Chain.walk_quiet (by rfl) (by decide)
    · intro ph wx hp hwn hx K hK
      rcases (show ph = 0 ∨ ph = 1 ∨ ph = 2 from by have h : ph ≤ 2 := hp; omega) with rfl | rfl | rfl
      · have y := (show Lit W2.heap.size W2 W2.heap.size (.cells ROW2 93 (0, 0)) wx from hx.2.2.2)
        have z_6 := (y.cell (k * 9 + 6)).trans (s6)
        have z_7 := (y.cell (k * 9 + 7)).trans (s7)
        clear y
        have HX := Lib.hid hx
        clear hx hwn hp
        go_simp
        go_at_K
        exact hK _ HX.out
      · have y := (show Lit W2.heap.size W2 W2.heap.size (.cells ((ROW2).setIfInBounds (k * 9 + 6) (.int .i64 (uf : Int))) 93 (0, 0)) wx from hx.2.2.2)
        have z_7 := (y.cell (k * 9 + 7)).trans ((Array.getElem?_setIfInBounds_ne (by omega)).trans (s7))
        clear y
        have HX := Lib.hid hx
        clear hx hwn hp
        go_simp
        go_at_K
        exact hK _ HX.out
      · have y := (show Lit W2.heap.size W2 W2.heap.size (.cells ((((ROW2).setIfInBounds (k * 9 + 6) (.int .i64 (uf : Int)))).setIfInBounds (k * 9 + 7) (.int .i64 (ud : Int))) 93 (0, 0)) wx from hx.2.2.2)
        clear y
        have HX := Lib.hid hx
        clear hx hwn hp
        go_simp
        go_at_K
        exact hK _ HX.out
    · exact ⟨_, rfl⟩
    apply Chain.walk_quiet (by rfl) (by decide)
    · intro ph wx hp hwn hx K hK
      rcases (show ph = 0 ∨ ph = 1 ∨ ph = 2 from by have h : ph ≤ 2 := hp; omega) with rfl | rfl | rfl
      · have y := (show Lit W2.heap.size W2 W2.heap.size (.cells ROW2 93 (0, 0)) wx from hx.2.2.2)
        have z_6 := (y.cell (k * 9 + 6)).trans (s6)
        have z_7 := (y.cell (k * 9 + 7)).trans (s7)
        clear y
        have HX := Lib.hid hx
        clear hx hwn hp
        go_simp
        go_at_K
        exact hK _ HX.out
      · have y := (show Lit W2.heap.size W2 W2.heap.size (.cells ((ROW2).setIfInBounds (k * 9 + 6) (.int .i64 (uf : Int))) 93 (0, 0)) wx from hx.2.2.2)
        have z_7 := (y.cell (k * 9 + 7)).trans ((Array.getElem?_setIfInBounds_ne (by omega)).trans (s7))
        clear y
        have HX := Lib.hid hx
        clear hx hwn hp
        go_simp
        go_at_K
        exact hK _ HX.out
      · have y := (show Lit W2.heap.size W2 W2.heap.size (.cells ((((ROW2).setIfInBounds (k * 9 + 6) (.int .i64 (uf : Int)))).setIfInBounds (k * 9 + 7) (.int .i64 (ud : Int))) 93 (0, 0)) wx from hx.2.2.2)
        clear y
        have HX := Lib.hid hx
        clear hx hwn hp
        go_simp
        go_at_K
        exact hK _ HX.out
    · exact ⟨_, rfl⟩
    apply Chain.walk_quiet (by rfl) (by decide)
    · intro ph wx hp hwn hx K hK
      rcases (show ph = 0 ∨ ph = 1 ∨ ph = 2 from by have h : ph ≤ 2 := hp; omega) with rfl | rfl | rfl
      · have y := (show Lit W2.heap.size W2 W2.heap.size (.cells ROW2 93 (0, 0)) wx from hx.2.2.2)
        have z_6 := (y.cell (k * 9 + 6)).trans (s6)
        have z_7 := (y.cell (k * 9 + 7)).trans (s7)
        clear y
        have HX := Lib.hid hx
        clear hx hwn hp
        go_simp
        go_at_K
        exact hK _ HX.out
      · have y := (show Lit W2.heap.size W2 W2.heap.size (.cells ((ROW2).setIfInBounds (k * 9 + 6) (.int .i64 (uf : Int))) 93 (0, 0)) wx from hx.2.2.2)
        have z_7 := (y.cell (k * 9 + 7)).trans ((Array.getElem?_setIfInBounds_ne (by omega)).trans (s7))
        clear y
        have HX := Lib.hid hx
        clear hx hwn hp
        go_simp
        go_at_K
        exact hK _ HX.out
      · have y := (show Lit W2.heap.size W2 W2.heap.size (.cells ((((ROW2).setIfInBounds (k * 9 + 6) (.int .i64 (uf : Int)))).setIfInBounds (k * 9 + 7) (.int .i64 (ud : Int))) 93 (0, 0)) wx from hx.2.2.2)
        clear y
        have HX := Lib.hid hx
        clear hx hwn hp
        go_simp
        go_at_K
        exact hK _ HX.out
    · exact ⟨_, rfl⟩
    apply Chain.walk_quiet (by rfl) (by decide)
    · intro ph wx hp hwn hx K hK
      rcases (show ph = 0 ∨ ph = 1 ∨ ph = 2 from by have h : ph ≤ 2 := hp; omega) with rfl | rfl | rfl
      · have y := (show Lit W2.heap.size W2 W2.heap.size (.cells ROW2 93 (0, 0)) wx from hx.2.2.2)
        have z_6 := (y.cell (k * 9 + 6)).trans (s6)
        have z_7 := (y.cell (k * 9 + 7)).trans (s7)
        clear y
        have HX := Lib.hid hx
        clear hx hwn hp
        go_simp
        go_at_K
        exact hK _ HX.out
      · have y := (show Lit W2.heap.size W2 W2.heap.size (.cells ((ROW2).setIfInBounds (k * 9 + 6) (.int .i64 (uf : Int))) 93 (0, 0)) wx from hx.2.2.2)
        have z_7 := (y.cell (k * 9 + 7)).trans ((Array.getElem?_setIfInBounds_ne (by omega)).trans (s7))
        clear y
        have HX := Lib.hid hx
        clear hx hwn hp
        go_simp
        go_at_K
        exact hK _ HX.out
      · have y := (show Lit W2.heap.size W2 W2.heap.size (.cells ((((ROW2).setIfInBounds (k * 9 + 6) (.int .i64 (uf : Int)))).setIfInBounds (k * 9 + 7) (.int .i64 (ud : Int))) 93 (0, 0)) wx from hx.2.2.2)
        clear y
        have HX := Lib.hid hx
        clear hx hwn hp
        go_simp
        go_at_K
        exact hK _ HX.out
    · exact ⟨_, rfl⟩
    apply Chain.walk_quiet (by rfl) (by decide)
    · intro ph wx hp hwn hx K hK
      rcases (show ph = 0 ∨ ph = 1 ∨ ph = 2 from by have h : ph ≤ 2 := hp; omega) with rfl | rfl | rfl
      · have y := (show Lit W2.heap.size W2 W2.heap.size (.cells ROW2 93 (0, 0)) wx from hx.2.2.2)
        have z_6 := (y.cell (k * 9 + 6)).trans (s6)
        have z_7 := (y.cell (k * 9 + 7)).trans (s7)
        clear y
        have HX := Lib.hid hx
        clear hx hwn hp
        go_simp
        go_at_K
        exact hK _ HX.out
      · have y := (show Lit W2.heap.size W2 W2.heap.size (.cells ((ROW2).setIfInBounds (k * 9 + 6) (.int .i64 (uf : Int))) 93 (0, 0)) wx from hx.2.2.2)
        have z_7 := (y.cell (k * 9 + 7)).trans ((Array.getElem?_setIfInBounds_ne (by omega)).trans (s7))
        clear y
        have HX := Lib.hid hx
        clear hx hwn hp
        go_simp
        go_at_K
        exact hK _ HX.out
      · have y := (show Lit W2.heap.size W2 W2.heap.size (.cells ((((ROW2).setIfInBounds (k * 9 + 6) (.int .i64 (uf : Int)))).setIfInBounds (k * 9 + 7) (.int .i64 (ud : Int))) 93 (0, 0)) wx from hx.2.2.2)
        clear y
        have HX := Lib.hid hx
        clear hx hwn hp
        go_simp
        go_at_K
        exact hK _ HX.out
    · exact ⟨_, rfl⟩
    apply Chain.walk_quiet (by rfl) (by decide)
    · intro ph wx hp hwn hx K hK
      rcases (show ph = 0 ∨ ph = 1 ∨ ph = 2 from by have h : ph ≤ 2 := hp; omega) with rfl | rfl | rfl
      · have y := (show Lit W2.heap.size W2 W2.heap.size (.cells ROW2 93 (0, 0)) wx from hx.2.2.2)
        have z_6 := (y.cell (k * 9 + 6)).trans (s6)
        have z_7 := (y.cell (k * 9 + 7)).trans (s7)
        clear y
        have HX := Lib.hid hx
        clear hx hwn hp
        go_simp
        go_at_K
        exact hK _ HX.out
      · exact absurd ((Eq.symm (show _ = false by kernel_rfl)).trans hwn) Bool.false_ne_true
      · exact absurd ((Eq.symm (show _ = false by kernel_rfl)).trans hwn) Bool.false_ne_true
    · exact ⟨_, rfl⟩
    apply Chain.walk_quiet (by rfl) (by decide)
    · intro ph wx hp hwn hx K hK
      rcases (show ph = 0 ∨ ph = 1 ∨ ph = 2 from by have h : ph ≤ 2 := hp; omega) with rfl | rfl | rfl
      · have y := (show Lit W2.heap.size W2 W2.heap.size (.cells ROW2 93 (0, 0)) wx from hx.2.2.2)
        have z_6 := (y.cell (k * 9 + 6)).trans (s6)
        have z_7 := (y.cell (k * 9 + 7)).trans (s7)
        clear y
        have HX := Lib.hid hx
        clear hx hwn hp
        go_simp
        go_at_K
        exact hK _ HX.out
      · have y := (show Lit W2.heap.size W2 W2.heap.size (.cells ((ROW2).setIfInBounds (k * 9 + 6) (.int .i64 (uf : Int))) 93 (0, 0)) wx from hx.2.2.2)
        have z_7 := (y.cell (k * 9 + 7)).trans ((Array.getElem?_setIfInBounds_ne (by omega)).trans (s7))
        clear y
        have HX := Lib.hid hx
        clear hx hwn hp
        go_simp
        go_at_K
        exact hK _ HX.out
      · have y := (show Lit W2.heap.size W2 W2.heap.size (.cells ((((ROW2).setIfInBounds (k * 9 + 6) (.int .i64 (uf : Int)))).setIfInBounds (k * 9 + 7) (.int .i64 (ud : Int))) 93 (0, 0)) wx from hx.2.2.2)
        clear y
        have HX := Lib.hid hx
        clear hx hwn hp
        go_simp
        go_at_K
        exact hK _ HX.out
    · exact ⟨_, rfl⟩
    apply Chain.walk_quiet (by rfl) (by decide)
    · intro ph wx hp hwn hx K hK
      rcases (show ph = 0 ∨ ph = 1 ∨ ph = 2 from by have h : ph ≤ 2 := hp; omega) with rfl | rfl | rfl
      · have y := (show Lit W2.heap.size W2 W2.heap.size (.cells ROW2 93 (0, 0)) wx from hx.2.2.2)
        have z_6 := (y.cell (k * 9 + 6)).trans (s6)
        have z_7 := (y.cell (k * 9 + 7)).trans (s7)
        clear y
        have HX := Lib.hid hx
        clear hx hwn hp
        go_simp
        go_at_K
        exact hK _ HX.out
      · have y := (show Lit W2.heap.size W2 W2.heap.size (.cells ((ROW2).setIfInBounds (k * 9 + 6) (.int .i64 (uf : Int))) 93 (0, 0)) wx from hx.2.2.2)
        have z_7 := (y.cell (k * 9 + 7)).trans ((Array.getElem?_setIfInBounds_ne (by omega)).trans (s7))
        clear y
        have HX := Lib.hid hx
        clear hx hwn hp
        go_simp
        go_at_K
        exact hK _ HX.out
      · have y := (show Lit W2.heap.size W2 W2.heap.size (.cells ((((ROW2).setIfInBounds (k * 9 + 6) (.int .i64 (uf : Int)))).setIfInBounds (k * 9 + 7) (.int .i64 (ud : Int))) 93 (0, 0)) wx from hx.2.2.2)
        clear y
        have HX := Lib.hid hx
        clear hx hwn hp
        go_simp
        go_at_K
        exact hK _ HX.out
    · exact ⟨_, rfl⟩
    apply Chain.walk_quiet (by rfl) (by decide)
    · intro ph wx hp hwn hx K hK
      rcases (show ph = 0 ∨ ph = 1 ∨ ph = 2 from by have h : ph ≤ 2 := hp; omega) with rfl | rfl | rfl
      · have y := (show Lit W2.heap.size W2 W2.heap.size (.cells ROW2 93 (0, 0)) wx from hx.2.2.2)
        have z_6 := (y.cell (k * 9 + 6)).trans (s6)
        have z_7 := (y.cell (k * 9 + 7)).trans (s7)
        clear y
        have HX := Lib.hid hx
        clear hx hwn hp
        go_simp
        go_at_K
        exact hK _ HX.out
      · have y := (show Lit W2.heap.size W2 W2.heap.size (.cells ((ROW2).setIfInBounds (k * 9 + 6) (.int .i64 (uf : Int))) 93 (0, 0)) wx from hx.2.2.2)
        have z_7 := (y.cell (k * 9 + 7)).trans ((Array.getElem?_setIfInBounds_ne (by omega)).trans (s7))
        clear y
        have HX := Lib.hid hx
        clear hx hwn hp
        go_simp
        go_at_K
        exact hK _ HX.out
      · have y := (show Lit W2.heap.size W2 W2.heap.size (.cells ((((ROW2).setIfInBounds (k * 9 + 6) (.int .i64 (uf : Int)))).setIfInBounds (k * 9 + 7) (.int .i64 (ud : Int))) 93 (0, 0)) wx from hx.2.2.2)
        clear y
        have HX := Lib.hid hx
        clear hx hwn hp
        go_simp
        go_at_K
        exact hK _ HX.out
    · exact ⟨_, rfl⟩
    apply Chain.walk_quiet (by rfl) (by decide)
    · intro ph wx hp hwn hx K hK
      rcases (show ph = 0 ∨ ph = 1 ∨ ph = 2 from by have h : ph ≤ 2 := hp; omega) with rfl | rfl | rfl
      · have y := (show Lit W2.heap.size W2 W2.heap.size (.cells ROW2 93 (0, 0)) wx from hx.2.2.2)
        have z_6 := (y.cell (k * 9 + 6)).trans (s6)
        have z_7 := (y.cell (k * 9 + 7)).trans (s7)
        clear y
        have HX := Lib.hid hx
        clear hx hwn hp
        go_simp
        go_at_K
        exact hK _ HX.out
      · have y := (show Lit W2.heap.size W2 W2.heap.size (.cells ((ROW2).setIfInBounds (k * 9 + 6) (.int .i64 (uf : Int))) 93 (0, 0)) wx from hx.2.2.2)
        have z_7 := (y.cell (k * 9 + 7)).trans ((Array.getElem?_setIfInBounds_ne (by omega)).trans (s7))
        clear y
        have HX := Lib.hid hx
        clear hx hwn hp
        go_simp
        go_at_K
        exact hK _ HX.out
      · have y := (show Lit W2.heap.size W2 W2.heap.size (.cells ((((ROW2).setIfInBounds (k * 9 + 6) (.int .i64 (uf : Int)))).setIfInBounds (k * 9 + 7) (.int .i64 (ud : Int))) 93 (0, 0)) wx from hx.2.2.2)
        clear y
        have HX := Lib.hid hx
        clear hx hwn hp
        go_simp
        go_at_K
        exact hK _ HX.out
    · exact ⟨_, rfl⟩
    apply Chain.walk_quiet (by rfl) (by decide)
    · intro ph wx hp hwn hx K hK
      rcases (show ph = 0 ∨ ph = 1 ∨ ph = 2 from by have h : ph ≤ 2 := hp; omega) with rfl | rfl | rfl
      · have y := (show Lit W2.heap.size W2 W2.heap.size (.cells ROW2 93 (0, 0)) wx from hx.2.2.2)
        have z_6 := (y.cell (k * 9 + 6)).trans (s6)
        have z_7 := (y.cell (k * 9 + 7)).trans (s7)
        clear y
        have HX := Lib.hid hx
        clear hx hwn hp
        go_simp
        go_at_K
        exact hK _ HX.out
      · have y := (show Lit W2.heap.size W2 W2.heap.size (.cells ((ROW2).setIfInBounds (k * 9 + 6) (.int .i64 (uf : Int))) 93 (0, 0)) wx from hx.2.2.2)
        have z_7 := (y.cell (k * 9 + 7)).trans ((Array.getElem?_setIfInBounds_ne (by omega)).trans (s7))
        clear y
        have HX := Lib.hid hx
        clear hx hwn hp
        go_simp
        go_at_K
        exact hK _ HX.out
      · have y := (show Lit W2.heap.size W2 W2.heap.size (.cells ((((ROW2).setIfInBounds (k * 9 + 6) (.int .i64 (uf : Int)))).setIfInBounds (k * 9 + 7) (.int .i64 (ud : Int))) 93 (0, 0)) wx from hx.2.2.2)
        clear y
        have HX := Lib.hid hx
        clear hx hwn hp
        go_simp
        go_at_K
        exact hK _ HX.out
    · exact ⟨_, rfl⟩
    apply Chain.walk_quiet (by rfl) (by decide)
    · intro ph wx hp hwn hx K hK
      rcases (show ph = 0 ∨ ph = 1 ∨ ph = 2 from by have h : ph ≤ 2 := hp; omega) with rfl | rfl | rfl
      · have y := (show Lit W2.heap.size W2 W2.heap.size (.cells ROW2 93 (0, 0)) wx from hx.2.2.2)
        have z_6 := (y.cell (k * 9 + 6)).trans (s6)
        have z_7 := (y.cell (k * 9 + 7)).trans (s7)
        clear y
        have HX := Lib.hid hx
        clear hx hwn hp
        go_simp
        go_at_K
        exact hK _ HX.out
      · have y := (show Lit W2.heap.size W2 W2.heap.size (.cells ((ROW2).setIfInBounds (k * 9 + 6) (.int .i64 (uf : Int))) 93 (0, 0)) wx from hx.2.2.2)
        have z_7 := (y.cell (k * 9 + 7)).trans ((Array.getElem?_setIfInBounds_ne (by omega)).trans (s7))
        clear y
        have HX := Lib.hid hx
        clear hx hwn hp
        go_simp
        go_at_K
        exact hK _ HX.out
      · have y := (show Lit W2.heap.size W2 W2.heap.size (.cells ((((ROW2).setIfInBounds (k * 9 + 6) (.int .i64 (uf : Int)))).setIfInBounds (k * 9 + 7) (.int .i64 (ud : Int))) 93 (0, 0)) wx from hx.2.2.2)
        clear y
        have HX := Lib.hid hx
        clear hx hwn hp
        go_simp
        go_at_K
        exact hK _ HX.out
    · exact ⟨_, rfl⟩
    apply Chain.walk_quiet (by rfl) (by decide)
    · intro ph wx hp hwn hx K hK
      rcases (show ph = 0 ∨ ph = 1 ∨ ph = 2 from by have h : ph ≤ 2 := hp; omega) with rfl | rfl | rfl
      · have y := (show Lit W2.heap.size W2 W2.heap.size (.cells ROW2 93 (0, 0)) wx from hx.2.2.2)
        have z_6 := (y.cell (k * 9 + 6)).trans (s6)
        have z_7 := (y.cell (k * 9 + 7)).trans (s7)
        clear y
        have HX := Lib.hid hx
        clear hx hwn hp
        go_simp
        go_at_K
        exact hK _ HX.out
      · have y := (show Lit W2.heap.size W2 W2.heap.size (.cells ((ROW2).setIfInBounds (k * 9 + 6) (.int .i64 (uf : Int))) 93 (0, 0)) wx from hx.2.2.2)
        have z_7 := (y.cell (k * 9 + 7)).trans ((Array.getElem?_setIfInBounds_ne (by omega)).trans (s7))
        clear y
        have HX := Lib.hid hx
        clear hx hwn hp
        go_simp
        go_at_K
        exact hK _ HX.out
      · exact absurd ((Eq.symm (show _ = false by kernel_rfl)).trans hwn) Bool.false_ne_true
    · exact ⟨_, rfl⟩
    apply Chain.walk_quiet (by rfl) (by decide)
    · intro ph wx hp hwn hx K hK
      rcases (show ph = 0 ∨ ph = 1 ∨ ph = 2 from by have h : ph ≤ 2 := hp; omega) with rfl | rfl | rfl
      · have y := (show Lit W2.heap.size W2 W2.heap.size (.cells ROW2 93 (0, 0)) wx from hx.2.2.2)
        have z_6 := (y.cell (k * 9 + 6)).trans (s6)
        have z_7 := (y.cell (k * 9 + 7)).trans (s7)
        clear y
        have HX := Lib.hid hx
        clear hx hwn hp
        go_simp
        go_at_K
        exact hK _ HX.out
      · have y := (show Lit W2.heap.size W2 W2.heap.size (.cells ((ROW2).setIfInBounds (k * 9 + 6) (.int .i64 (uf : Int))) 93 (0, 0)) wx from hx.2.2.2)
        have z_7 := (y.cell (k * 9 + 7)).trans ((Array.getElem?_setIfInBounds_ne (by omega)).trans (s7))
        clear y
        have HX := Lib.hid hx
        clear hx hwn hp
        go_simp
        go_at_K
        exact hK _ HX.out
      · have y := (show Lit W2.heap.size W2 W2.heap.size (.cells ((((ROW2).setIfInBounds (k * 9 + 6) (.int .i64 (uf : Int)))).setIfInBounds (k * 9 + 7) (.int .i64 (ud : Int))) 93 (0, 0)) wx from hx.2.2.2)
        clear y
        have HX := Lib.hid hx
        clear hx hwn hp
        go_simp
        go_at_K
        exact hK _ HX.out
    · exact ⟨_, rfl⟩
    apply Chain.walk_quiet (by rfl) (by decide)
    · intro ph wx hp hwn hx K hK
      rcases (show ph = 0 ∨ ph = 1 ∨ ph = 2 from by have h : ph ≤ 2 := hp; omega) with rfl | rfl | rfl
      · have y := (show Lit W2.heap.size W2 W2.heap.size (.cells ROW2 93 (0, 0)) wx from hx.2.2.2)
        have z_6 := (y.cell (k * 9 + 6)).trans (s6)
        have z_7 := (y.cell (k * 9 + 7)).trans (s7)
        clear y
        have HX := Lib.hid hx
        clear hx hwn hp
        go_simp
        go_at_K
        exact hK _ HX.out
      · have y := (show Lit W2.heap.size W2 W2.heap.size (.cells ((ROW2).setIfInBounds (k * 9 + 6) (.int .i64 (uf : Int))) 93 (0, 0)) wx from hx.2.2.2)
        have z_7 := (y.cell (k * 9 + 7)).trans ((Array.getElem?_setIfInBounds_ne (by omega)).trans (s7))
        clear y
        have HX := Lib.hid hx
        clear hx hwn hp
        go_simp
        go_at_K
        exact hK _ HX.out
      · have y := (show Lit W2.heap.size W2 W2.heap.size (.cells ((((ROW2).setIfInBounds (k * 9 + 6) (.int .i64 (uf : Int)))).setIfInBounds (k * 9 + 7) (.int .i64 (ud : Int))) 93 (0, 0)) wx from hx.2.2.2)
        clear y
        have HX := Lib.hid hx
        clear hx hwn hp
        go_simp
        go_at_K
        exact hK _ HX.out
    · exact ⟨_, rfl⟩
    apply Chain.walk_quiet (by rfl) (by decide)
    · intro ph wx hp hwn hx K hK
      rcases (show ph = 0 ∨ ph = 1 ∨ ph = 2 from by have h : ph ≤ 2 := hp; omega) with rfl | rfl | rfl
      · have y := (show Lit W2.heap.size W2 W2.heap.size (.cells ROW2 93 (0, 0)) wx from hx.2.2.2)
        have z_6 := (y.cell (k * 9 + 6)).trans (s6)
        have z_7 := (y.cell (k * 9 + 7)).trans (s7)
        clear y
        have HX := Lib.hid hx
        clear hx hwn hp
        go_simp
        go_at_K
        exact hK _ HX.out
      · have y := (show Lit W2.heap.size W2 W2.heap.size (.cells ((ROW2).setIfInBounds (k * 9 + 6) (.int .i64 (uf : Int))) 93 (0, 0)) wx from hx.2.2.2)
        have z_7 := (y.cell (k * 9 + 7)).trans ((Array.getElem?_setIfInBounds_ne (by omega)).trans (s7))
        clear y
        have HX := Lib.hid hx
        clear hx hwn hp
        go_simp
        go_at_K
        exact hK _ HX.out
      · have y := (show Lit W2.heap.size W2 W2.heap.size (.cells ((((ROW2).setIfInBounds (k * 9 + 6) (.int .i64 (uf : Int)))).setIfInBounds (k * 9 + 7) (.int .i64 (ud : Int))) 93 (0, 0)) wx from hx.2.2.2)
        clear y
        have HX := Lib.hid hx
        clear hx hwn hp
        go_simp
        go_at_K
        exact hK _ HX.out
    · exact ⟨_, rfl⟩
    apply Chain.walk_quiet (by rfl) (by decide)
    · intro ph wx hp hwn hx K hK
      rcases (show ph = 0 ∨ ph = 1 ∨ ph = 2 from by have h : ph ≤ 2 := hp; omega) with rfl | rfl | rfl
      · have y := (show Lit W2.heap.size W2 W2.heap.size (.cells ROW2 93 (0, 0)) wx from hx.2.2.2)
        have z_6 := (y.cell (k * 9 + 6)).trans (s6)
        have z_7 := (y.cell (k * 9 + 7)).trans (s7)
        clear y
        have HX := Lib.hid hx
        clear hx hwn hp
        go_simp
        go_at_K
        exact hK _ HX.out
      · have y := (show Lit W2.heap.size W2 W2.heap.size (.cells ((ROW2).setIfInBounds (k * 9 + 6) (.int .i64 (uf : Int))) 93 (0, 0)) wx from hx.2.2.2)
        have z_7 := (y.cell (k * 9 + 7)).trans ((Array.getElem?_setIfInBounds_ne (by omega)).trans (s7))
        clear y
        have HX := Lib.hid hx
        clear hx hwn hp
        go_simp
        go_at_K
        exact hK _ HX.out
      · have y := (show Lit W2.heap.size W2 W2.heap.size (.cells ((((ROW2).setIfInBounds (k * 9 + 6) (.int .i64 (uf : Int)))).setIfInBounds (k * 9 + 7) (.int .i64 (ud : Int))) 93 (0, 0)) wx from hx.2.2.2)
        clear y
        have HX := Lib.hid hx
        clear hx hwn hp
        go_simp
        go_at_K
        exact hK _ HX.out
    · exact ⟨_, rfl⟩
    apply Chain.walk_quiet (by rfl) (by decide)
    · intro ph wx hp hwn hx K hK
      rcases (show ph = 0 ∨ ph = 1 ∨ ph = 2 from by have h : ph ≤ 2 := hp; omega) with rfl | rfl | rfl
      · have y := (show Lit W2.heap.size W2 W2.heap.size (.cells ROW2 93 (0, 0)) wx from hx.2.2.2)
        have z_6 := (y.cell (k * 9 + 6)).trans (s6)
        have z_7 := (y.cell (k * 9 + 7)).trans (s7)
        clear y
        have HX := Lib.hid hx
        clear hx hwn hp
        go_simp
        go_at_K
        exact hK _ HX.out
      · have y := (show Lit W2.heap.size W2 W2.heap.size (.cells ((ROW2).setIfInBounds (k * 9 + 6) (.int .i64 (uf : Int))) 93 (0, 0)) wx from hx.2.2.2)
        have z_7 := (y.cell (k * 9 + 7)).trans ((Array.getElem?_setIfInBounds_ne (by omega)).trans (s7))
        clear y
        have HX := Lib.hid hx
        clear hx hwn hp
        go_simp
        go_at_K
        exact hK _ HX.out
      · have y := (show Lit W2.heap.size W2 W2.heap.size (.cells ((((ROW2).setIfInBounds (k * 9 + 6) (.int .i64 (uf : Int)))).setIfInBounds (k * 9 + 7) (.int .i64 (ud : Int))) 93 (0, 0)) wx from hx.2.2.2)
        clear y
        have HX := Lib.hid hx
        clear hx hwn hp
        go_simp
        go_at_K
        exact hK _ HX.out
    · exact ⟨_, rfl⟩
    apply Chain.walk_turn 0 (by rfl) (by rfl)
    · intro wx hx K hK
      have y := (show Lit W2.heap.size W2 W2.heap.size (.cells ROW2 93 (0, 0)) wx from hx.2.2.2)
      have z0 := (y.cell (k * 9 + 6)).trans (s6)
      have ff0 := y.free (k * 9 + 6)
      have g : Hid (Lit w.heap.size w w.heap.size (.cells #[.int .i64 (F : Int), .int .i64 d, .int .i64 r, .int .i64 p, .float .f64 e1, .float .f64 e2, .float .f64 e3, .slice A C cap] 25 (0, 0)) (wx.setCell ⟨W2.heap.size, k * 9 + 6, none⟩ (.int .i64 (uf : Int))) ∧ Lit (w.heap.size + 1) (w.alloc (.cells #[.int .i64 (F : Int), .int .i64 d, .int .i64 r, .int .i64 p, .float .f64 e1, .float .f64 e2, .float .f64 e3, .slice A C cap] 25)) (w.heap.size + 1) (.cells #[.int .u32 (au2 : Int), .int .u32 (ad2 : Int), .int .u32 (su2 : Int), .int .u32 (sd2 : Int), .bool bad, .bool full, .int .i64 (st2 : Int), .slice A' ys.length cp] 46 (0, 0)) (wx.setCell ⟨W2.heap.size, k * 9 + 6, none⟩ (.int .i64 (uf : Int))) ∧ Lit 0 w (w.heap.size + 2) (.cells #[.int .u32 0, .int .u32 0, .int .u32 0, .int .u32 0, .bool false, .bool false, .int .i64 0, .slice none 0 0] 46 (0, 0)) (wx.setCell ⟨W2.heap.size, k * 9 + 6, none⟩ (.int .i64 (uf : Int))) ∧ Lit W2.heap.size W2 W2.heap.size (.cells ((ROW2).setIfInBounds (k * 9 + 6) (.int .i64 (uf : Int))) 93 (0, 0)) (wx.setCell ⟨W2.heap.size, k * 9 + 6, none⟩ (.int .i64 (uf : Int)))) := Lib.hid ⟨(hx.1.putOther (by omega) (by omega) _ _), (hx.2.1.putOther (by omega) (by omega) _ _), (hx.2.2.1.putOther (Nat.zero_le _) (by omega) _ _), (y.put (Nat.le_refl _) _ _)⟩
      have HK2 := Lib.hid hK
      clear hx y hK
      go_simp
      exact HK2.out _ g.out
    · exact ⟨undef, rfl⟩
    apply Chain.walk_quiet (by rfl) (by decide)
    · intro ph wx hp hwn hx K hK
      rcases (show ph = 0 ∨ ph = 1 ∨ ph = 2 from by have h : ph ≤ 2 := hp; omega) with rfl | rfl | rfl
      · have y := (show Lit W2.heap.size W2 W2.heap.size (.cells ROW2 93 (0, 0)) wx from hx.2.2.2)
        have z_6 := (y.cell (k * 9 + 6)).trans (s6)
        have z_7 := (y.cell (k * 9 + 7)).trans (s7)
        clear y
        have HX := Lib.hid hx
        clear hx hwn hp
        go_simp
        go_at_K
        exact hK _ HX.out
      · have y := (show Lit W2.heap.size W2 W2.heap.size (.cells ((ROW2).setIfInBounds (k * 9 + 6) (.int .i64 (uf : Int))) 93 (0, 0)) wx from hx.2.2.2)
        have z_7 := (y.cell (k * 9 + 7)).trans ((Array.getElem?_setIfInBounds_ne (by omega)).trans (s7))
        clear y
        have HX := Lib.hid hx
        clear hx hwn hp
        go_simp
        go_at_K
        exact hK _ HX.out
      · have y := (show Lit W2.heap.size W2 W2.heap.size (.cells ((((ROW2).setIfInBounds (k * 9 + 6) (.int .i64 (uf : Int)))).setIfInBounds (k * 9 + 7) (.int .i64 (ud : Int))) 93 (0, 0)) wx from hx.2.2.2)
        clear y
        have HX := Lib.hid hx
        clear hx hwn hp
        go_simp
        go_at_K
        exact hK _ HX.out
    · exact ⟨_, rfl⟩
    apply Chain.walk_quiet (by rfl) (by decide)
    · intro ph wx hp hwn hx K hK
      rcases (show ph = 0 ∨ ph = 1 ∨ ph = 2 from by have h : ph ≤ 2 := hp; omega) with rfl | rfl | rfl
      · have y := (show Lit W2.heap.size W2 W2.heap.size (.cells ROW2 93 (0, 0)) wx from hx.2.2.2)
        have z_6 := (y.cell (k * 9 + 6)).trans (s6)
        have z_7 := (y.cell (k * 9 + 7)).trans (s7)
        clear y
        have HX := Lib.hid hx
        clear hx hwn hp
        go_simp
        go_at_K
        exact hK _ HX.out
      · have y := (show Lit W2.heap.size W2 W2.heap.size (.cells ((ROW2).setIfInBounds (k * 9 + 6) (.int .i64 (uf : Int))) 93 (0, 0)) wx from hx.2.2.2)
        have z_7 := (y.cell (k * 9 + 7)).trans ((Array.getElem?_setIfInBounds_ne (by omega)).trans (s7))
        clear y
        have HX := Lib.hid hx
        clear hx hwn hp
        go_simp
        go_at_K
        exact hK _ HX.out
      · have y := (show Lit W2.heap.size W2 W2.heap.size (.cells ((((ROW2).setIfInBounds (k * 9 + 6) (.int .i64 (uf : Int)))).setIfInBounds (k * 9 + 7) (.int .i64 (ud : Int))) 93 (0, 0)) wx from hx.2.2.2)
        clear y
        have HX := Lib.hid hx
        clear hx hwn hp
        go_simp
        go_at_K
        exact hK _ HX.out
    · exact ⟨_, rfl⟩
    apply Chain.walk_turn 1 (by rfl) (by rfl)
    · intro wx hx K hK
      have y := (show Lit W2.heap.size W2 W2.heap.size (.cells ((ROW2).setIfInBounds (k * 9 + 6) (.int .i64 (uf : Int))) 93 (0, 0)) wx from hx.2.2.2)
      have z0 := (y.cell (k * 9 + 7)).trans ((Array.getElem?_setIfInBounds_ne (by omega)).trans (s7))
      have ff0 := y.free (k * 9 + 7)
      have g : Hid (Lit w.heap.size w w.heap.size (.cells #[.int .i64 (F : Int), .int .i64 d, .int .i64 r, .int .i64 p, .float .f64 e1, .float .f64 e2, .float .f64 e3, .slice A C cap] 25 (0, 0)) (wx.setCell ⟨W2.heap.size, k * 9 + 7, none⟩ (.int .i64 (ud : Int))) ∧ Lit (w.heap.size + 1) (w.alloc (.cells #[.int .i64 (F : Int), .int .i64 d, .int .i64 r, .int .i64 p, .float .f64 e1, .float .f64 e2, .float .f64 e3, .slice A C cap] 25)) (w.heap.size + 1) (.cells #[.int .u32 (au2 : Int), .int .u32 (ad2 : Int), .int .u32 (su2 : Int), .int .u32 (sd2 : Int), .bool bad, .bool full, .int .i64 (st2 : Int), .slice A' ys.length cp] 46 (0, 0)) (wx.setCell ⟨W2.heap.size, k * 9 + 7, none⟩ (.int .i64 (ud : Int))) ∧ Lit 0 w (w.heap.size + 2) (.cells #[.int .u32 0, .int .u32 0, .int .u32 0, .int .u32 0, .bool false, .bool false, .int .i64 0, .slice none 0 0] 46 (0, 0)) (wx.setCell ⟨W2.heap.size, k * 9 + 7, none⟩ (.int .i64 (ud : Int))) ∧ Lit W2.heap.size W2 W2.heap.size (.cells ((((ROW2).setIfInBounds (k * 9 + 6) (.int .i64 (uf : Int)))).setIfInBounds (k * 9 + 7) (.int .i64 (ud : Int))) 93 (0, 0)) (wx.setCell ⟨W2.heap.size, k * 9 + 7, none⟩ (.int .i64 (ud : Int)))) := Lib.hid ⟨(hx.1.putOther (by omega) (by omega) _ _), (hx.2.1.putOther (by omega) (by omega) _ _), (hx.2.2.1.putOther (Nat.zero_le _) (by omega) _ _), (y.put (Nat.le_refl _) _ _)⟩
      have HK2 := Lib.hid hK
      clear hx y hK
      go_simp
      exact HK2.out _ g.out
    · exact ⟨undef, rfl⟩
    refine Chain.walk_nil (fun W4 hx => ?_)
    have K4 := (show Lit W2.heap.size W2 W2.heap.size (.cells ((((ROW2).setIfInBounds (k * 9 + 6) (.int .i64 (uf : Int)))).setIfInBounds (k * 9 + 7) (.int .i64 (ud : Int))) 93 (0, 0)) W4 from hx.2.2.2)
    have HK := Lib.hid (And.intro hx.1 (And.intro hx.2.1 (And.intro hx.2.2.1 K4)))
    clear hx K4
    go_wp2_with fail
    go_roundw
    case rel =>
      have e := HSET.out (q.iu &&& U) (q.id &&& D) (q.lu &&& U) (q.ld &&& D) (uf : Int) (ud : Int)
      rw [HROW1.out, HROW2.out, ← HFIT.out, HSUC.out] at e
      refine ⟨k + 1, by omega, by go_num, HK.out.1, HK.out.2.1, HK.out.2.2.1, ?_⟩
      rw [← e]
      exact HK.out.2.2.2
    case measure => simp [intOf]; omega
end
end Go.Proofs.Ytapkjknpoafhjaa
