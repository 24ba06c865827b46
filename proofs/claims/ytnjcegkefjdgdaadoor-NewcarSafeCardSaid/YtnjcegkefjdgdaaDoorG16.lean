/- What the texts behind this one rest on: several texts in one. No statement of the seat is proved here. -/
import Derived.Test.YtnjcegkefjdgdaaDoorG15
import Derived.Test.YtnjcegkefjdgdaaDoorChain
import Derived.Test.YtnjcegkefjdgdaaDoorG8
import Derived.Test.YtnjcegkefjdgdaaDoorG0
import Derived.ChangeMaps5
import Derived.Deep.Slices
import Derived.ChangeSame
import Derived.ChangeOld
namespace Go.Proofs.YtnjcegkefjdgdaaDoor
section
open Go.RowKit

def Ct.agg (c : Ct) : Value := .agg #[.int .u32 c.fl, .bool c.up, .bool c.dn, .bool c.opn, .bool c.cls]
def Ct.cells (c : Ct) : List Value := [.int .u32 c.fl, .bool c.up, .bool c.dn, .bool c.opn, .bool c.cls]
theorem boxOb {w wx : World} {f d g : Int} (h : Below (w.heap.size + 1) (w.alloc (.cells #[.int .i64 f, .int .i64 d, .int .i64 g] 76)) wx) :
    wx.cell? ⟨w.heap.size, 0, none⟩ = some (.int .i64 f) ∧ wx.cell? ⟨w.heap.size, 1, none⟩ = some (.int .i64 d) ∧ wx.cell? ⟨w.heap.size, 2, none⟩ = some (.int .i64 g) :=
  ⟨cell_new_below h 0, cell_new_below h 1, cell_new_below h 2⟩

/-- IsObs, step by step. -/
theorem isObs_eq (n : Int) (o : Ob) : Ind.isObs n o = (((Ind.okF n && decide (-1 ≤ o.f ∧ o.f ≤ n - 1)) && decide (0 ≤ o.d ∧ o.d ≤ 3)) && decide (0 ≤ o.g ∧ o.g ≤ 3)) := by
  unfold Ind.isObs
  cases Ind.okF n
  · simp
  · simp only [Bool.true_and]
    rw [← Bool.decide_and, ← Bool.decide_and]
    exact decide_eq_decide.2 (by omega)
set_option maxHeartbeats 1000000 in
theorem isObs_any (n : Int) (o : Ob) (w : World) :
    Calls Tryd.prog 46 #[.int .i64 n, o.agg] w fun e w' => e = .returned (.bool (Ind.isObs n o)) ∧ Below w.heap.size w w' := by
  rw [isObs_eq]
  have hbx := fun (wx : World) (h : Below (w.heap.size + 1) (w.alloc (.cells #[.int .i64 o.f, .int .i64 o.d, .int .i64 o.g] 76)) wx) => boxOb h
  have HBX := Lib.hid hbx
  clear hbx
  obtain ⟨f, d, g⟩ := o
  simp only [Ob.agg]
  simp only at HBX
  have G := Lib.hid (fun w => areFloors_any n w)
  have F1 := Lib.hid (fun w => iwithin_any (-1) (n - 1) f w)
  have F2 := Lib.hid (fun w => iwithin_any 0 3 d w)
  have F3 := Lib.hid (fun w => iwithin_any 0 3 g w)
  cases hn : Ind.okF n
  · rw [hn] at G
    clear F1 F2 F3
    go_enter Tryd.func46, Tryd.ntmps46
    go_wp2_with fail
    refine (G.out _).mono ?_
    rintro e w2 ⟨rfl, rfl⟩
    go_wp2
    go_ret
    exact ⟨rfl, by go_grown⟩
  · rw [hn] at G
    have h32 := Ind.okF_iff.1 hn
    have hw : IntKind.i64.wrap (n - 1) = n - 1 := by rw [IntKind.wrap_i64]; omega
    generalize decide (-1 ≤ f ∧ f ≤ n - 1) = z1 at *
    generalize decide (0 ≤ d ∧ d ≤ 3) = z2 at *
    generalize decide (0 ≤ g ∧ g ≤ 3) = z3 at *
    cases z1 <;> cases z2 <;> cases z3
    all_goals
      go_enter Tryd.func46, Tryd.ntmps46
      go_wp2_with (first | (go_at_call 61; refine (G.out _).mono ?_; rintro e w2 ⟨rfl, rfl⟩) | (go_at_call 62; with_reducible first | refine (F1.out _).mono ?_ | refine (F2.out _).mono ?_ | refine (F3.out _).mono ?_); (rintro e w2 ⟨rfl, rfl⟩))
      go_ret
      exact ⟨rfl, by go_grown⟩
end

section
open Go.RowKit

/-- All that was there at w lies as it lay (the size of w stands in no text: a name that is given to a block does not reach it). -/
def Kw (w wx : World) : Prop := Below w.heap.size w wx
theorem Kw.of {w wx : World} (h : Below w.heap.size w wx) : Kw w wx := h
/-- p of the two stores are done. -/
structure Tw (W1 : World) (b1 : Nat) (Z1 R1 : Array Value) (T1 : TypeId) (b2 : Nat) (Z2 R2 : Array Value) (T2 : TypeId) (p : Nat) (wx : World) : Prop where
  os : wx.os = W1.os
  tape : wx.tape = W1.tape
  output : wx.output = W1.output
  size : W1.heap.size ≤ wx.heap.size
  other : ∀ j, j < W1.heap.size → j ≠ b1 → j ≠ b2 → wx.heap[j]? = W1.heap[j]?
  row1 : wx.heap[b1]? = some (.cells (if p = 0 then Z1 else R1) T1 (0, 0))
  row2 : wx.heap[b2]? = some (.cells (if p ≤ 1 then Z2 else R2) T2 (0, 0))
namespace Tw
variable {W1 : World} {b1 : Nat} {Z1 R1 : Array Value} {T1 : TypeId} {b2 : Nat} {Z2 R2 : Array Value} {T2 : TypeId}
theorem start (h1 : W1.heap[b1]? = some (.cells Z1 T1 (0, 0))) (h2 : W1.heap[b2]? = some (.cells Z2 T2 (0, 0))) : Tw W1 b1 Z1 R1 T1 b2 Z2 R2 T2 0 { W1 with drawn := W1.drawn + 1 } :=
  ⟨rfl, rfl, rfl, Nat.le_refl _, fun _ _ _ _ => rfl, h1, h2⟩
theorem next {p : Nat} {wx w' : World} (h : Tw W1 b1 Z1 R1 T1 b2 Z2 R2 T2 p wx) (hb : Below wx.heap.size wx w') : Tw W1 b1 Z1 R1 T1 b2 Z2 R2 T2 p w' :=
  ⟨hb.os.trans h.os, hb.tape.trans h.tape, hb.output.trans h.output, Nat.le_trans h.size hb.size, fun j hj h3 h4 => (hb.block j (Nat.lt_of_lt_of_le hj h.size)).trans (h.other j hj h3 h4),
    (hb.block b1 (Array.getElem?_eq_some_iff.1 h.row1).1).trans h.row1, (hb.block b2 (Array.getElem?_eq_some_iff.1 h.row2).1).trans h.row2⟩
theorem below {p : Nat} {wx : World} {B : Nat} (h : Tw W1 b1 Z1 R1 T1 b2 Z2 R2 T2 p wx) (hB : B ≤ W1.heap.size) (hb1 : B ≤ b1) (hb2 : B ≤ b2) : Below B W1 wx :=
  ⟨h.os, h.tape, h.output, h.size, fun j hj => h.other j (by omega) (by omega) (by omega)⟩
theorem first {wx : World} (h : Tw W1 b1 Z1 R1 T1 b2 Z2 R2 T2 0 wx) : wx.heap[b1]? = some (.cells Z1 T1 (0, 0)) := h.row1
theorem second {p : Nat} (hp : p ≤ 1) {wx : World} (h : Tw W1 b1 Z1 R1 T1 b2 Z2 R2 T2 p wx) : wx.heap[b2]? = some (.cells Z2 T2 (0, 0)) := by have := h.row2; rw [if_pos hp] at this; exact this
theorem store1 {P : Program} {op : Oper} {A : Act} {K : Act → World → Prop} {Q : Exit → Act → World → Prop} {wx : World} (h : Tw W1 b1 Z1 R1 T1 b2 Z2 R2 T2 0 wx) (hbb : b2 ≠ b1)
    (ty : TypeId) (x y : Operand) (ho : op.op = .store ty x y) (hx : A.eval x = .pointer (some ⟨b1, 0, none⟩)) (hy : A.eval y = .agg R1)
    (hi : (P.info? ty).map (·.size) = some R1.size) (hsz : Z1.size = R1.size) (h1c : R1.all (·.oneCell') = true)
    (hk : ∀ w', Tw W1 b1 Z1 R1 T1 b2 Z2 R2 T2 1 w' → K (A.put op.dst undef) w') : op.wp P A wx K Q :=
  wp_put ty x y ho b1 R1 Z1 T1 hx hy h.row1 hi hsz h1c (fun w2 hr2 hg => hk w2
    ⟨hg.out.os.trans h.os, hg.out.tape.trans h.tape, hg.out.output.trans h.output, Nat.le_trans h.size hg.out.size, fun j hj h3 h4 => (hg.out.block j (Nat.lt_of_lt_of_le hj h.size) (fun e => h3 (Option.some.inj e))).trans (h.other j hj h3 h4),
      hr2.out, (hg.out.block b2 (Array.getElem?_eq_some_iff.1 h.row2).1 (fun e => hbb (Option.some.inj e))).trans h.row2⟩)
theorem store2 {P : Program} {op : Oper} {A : Act} {K : Act → World → Prop} {Q : Exit → Act → World → Prop} {wx : World} (h : Tw W1 b1 Z1 R1 T1 b2 Z2 R2 T2 1 wx) (hbb : b1 ≠ b2)
    (ty : TypeId) (x y : Operand) (ho : op.op = .store ty x y) (hx : A.eval x = .pointer (some ⟨b2, 0, none⟩)) (hy : A.eval y = .agg R2)
    (hi : (P.info? ty).map (·.size) = some R2.size) (hsz : Z2.size = R2.size) (h1c : R2.all (·.oneCell') = true)
    (hk : ∀ w', Tw W1 b1 Z1 R1 T1 b2 Z2 R2 T2 2 w' → K (A.put op.dst undef) w') : op.wp P A wx K Q :=
  wp_put ty x y ho b2 R2 Z2 T2 hx hy h.row2 hi hsz h1c (fun w2 hr2 hg => hk w2
    ⟨hg.out.os.trans h.os, hg.out.tape.trans h.tape, hg.out.output.trans h.output, Nat.le_trans h.size hg.out.size, fun j hj h3 h4 => (hg.out.block j (Nat.lt_of_lt_of_le hj h.size) (fun e => h4 (Option.some.inj e))).trans (h.other j hj h3 h4),
      (hg.out.block b1 (Array.getElem?_eq_some_iff.1 h.row1).1 (fun e => hbb (Option.some.inj e))).trans h.row1, hr2.out⟩)
theorem done {wx w : World} {X X2 : List (Nat × Obj)} (h : Tw W1 b1 Z1 R1 T1 b2 Z2 R2 T2 2 wx) (hB : Bx w X W1) (hb1 : w.heap.size ≤ b1) (hb2 : w.heap.size ≤ b2)
    (hX : ∀ p ∈ X2, p = (b1, .cells R1 T1 (0, 0)) ∨ p = (b2, .cells R2 T2 (0, 0)) ∨ (p ∈ X ∧ p.1 ≠ b1 ∧ p.1 ≠ b2)) : Bx w X2 wx := by
  refine ⟨hB.below.trans (h.below hB.below.size hb1 hb2), fun p hp => ?_⟩
  rcases hX p hp with rfl | rfl | ⟨h3, h4, h5⟩
  · exact h.row1
  · exact h.row2
  · exact (h.other p.1 (hB.lt h3) h4 h5).trans (hB.rows p h3)
end Tw
end

section
open Go.RowKit Go.ChangeShapes Go.WideShapes Go.Deep

set_option maxRecDepth 100000

theorem laidOut : laidOutB Tryd.prog = true := by kernel_rfl
theorem own : ownKnob Tryd.prog.godebug = none := by kernel_rfl
theorem u8_nat {x : Int} (h : (Lit.int .u8 x).wf = true) : ∃ n : Nat, x = (n : Int) ∧ n < 256 := by
  simp [Lit.wf, IntKind.min, IntKind.max, IntKind.bits, IntKind.signed] at h
  exact ⟨x.toNat, by omega, by omega⟩
theorem u32_nat {x : Int} (h : (Lit.int .u32 x).wf = true) : ∃ n : Nat, x = (n : Int) ∧ n < 4294967296 := by
  simp [Lit.wf, IntKind.min, IntKind.max, IntKind.bits, IntKind.signed] at h
  exact ⟨x.toNat, by omega, by omega⟩
theorem list_ofCt {α : Type} (P : Nat → α → Prop) : ∀ n : Nat, (∀ i, i < n → ∃ c, P i c) → ∃ l : List α, l.length = n ∧ ∀ i (h : i < l.length), P i l[i]
  | 0, _ => ⟨[], rfl, fun i hi => absurd hi (by simp)⟩
  | n + 1, h => by
    obtain ⟨l, hl, hp⟩ := list_ofCt P n (fun i hi => h i (by omega))
    obtain ⟨c, hc⟩ := h n (by omega)
    refine ⟨l ++ [c], by simp [hl], fun i hi => ?_⟩
    rcases Nat.lt_or_ge i l.length with hlt | hge
    · rw [List.getElem_append_left hlt]; exact hp i hlt
    · have : i = n := by simp at hi; omega
      subst this
      rw [List.getElem_append_right hge]
      simpa [hl] using hc

section
variable {H : Type} {enc : TypeId × Value → H} {w : World} {base : Nat} {spare : Nat → Bool} {held : Bool}
theorem trod_ints {P : Program} {fuel n : Nat} {t e : TypeId} {k : IntKind} {cs : List Value} {x : DataW H × List MemPlace} (ht : P.underlying t = some (.array n e)) (he : P.underlying e = some (.int k)) (hc : P.cellsOf e = 1) (hct : P.cellsOf t = n)
    (h : DataW.trod enc P w base spare held fuel t cs = some x) : ∃ ys : List Int, ys.length = n ∧ cs = (ys.map fun y => (Value.int k y)) ∧ x.1 = .agg (ys.map fun y => (DataW.lit (.int k y))) ∧ ∀ y ∈ ys, (Lit.int k y).wf = true := by
  obtain ⟨xs, m, _, hx, hlen, hxl, hg⟩ := DataW.trod_array ht h
  rw [hct] at hlen
  have hone : ∀ i, i < n → ∃ y : Int, cs[i]? = some (.int k y) ∧ (xs[i]?).map (·.1) = some (.lit (.int k y)) ∧ (Lit.int k y).wf = true := fun i hi => by
    have h1 := (hg i hi).trans (List.getElem?_eq_getElem (by omega : i < xs.length))
    rw [hc, Nat.mul_one, List.drop_eq_getElem_cons (by omega : i < cs.length)] at h1
    have h2 : DataW.trod enc P w base spare held m e [cs[i]'(by omega)] = some (xs[i]'(by omega)) := h1
    obtain ⟨y, hy, hd, hw⟩ := DataW.trod_int he h2
    simp only [List.cons.injEq, and_true] at hy
    exact ⟨y, by rw [List.getElem?_eq_getElem (by omega : i < cs.length), hy], by rw [List.getElem?_eq_getElem (by omega : i < xs.length), hd]; rfl, hw⟩
  obtain ⟨l, hl, hp⟩ := list_ofCt (fun i (y : Int) => cs[i]? = some (.int k y) ∧ (xs[i]?).map (·.1) = some (.lit (.int k y)) ∧ (Lit.int k y).wf = true) n hone
  refine ⟨l, hl, ?_, ?_, ?_⟩
  · apply List.ext_getElem?
    intro i
    rcases Nat.lt_or_ge i n with h | h
    · rw [(hp i (by omega)).1, List.getElem?_map, List.getElem?_eq_getElem (by omega : i < l.length)]; rfl
    · rw [List.getElem?_eq_none (by omega), List.getElem?_eq_none (by rw [List.length_map]; omega)]
  · rw [hx]
    refine congrArg DataW.agg ?_
    apply List.ext_getElem?
    intro i
    rw [List.getElem?_map, List.getElem?_map]
    rcases Nat.lt_or_ge i n with h | h
    · rw [(hp i (by omega)).2.1, List.getElem?_eq_getElem (by omega : i < l.length)]; rfl
    · rw [List.getElem?_eq_none (by omega : xs.length ≤ i), List.getElem?_eq_none (by omega : l.length ≤ i)]; rfl
  · intro y hy
    obtain ⟨i, hi, rfl⟩ := List.getElem_of_mem hy
    exact (hp i hi).2.2

/-- Values at an address, and as a slice. -/
def VAt (w : World) (A : Option Addr) (vs : List Value) : Prop := vs = [] ∨ ∃ b off, A = some ⟨b, off, none⟩ ∧ b < w.heap.size ∧ ∀ j, j < vs.length → w.cell? ⟨b, off + j, none⟩ = vs[j]?
def VV (w : World) (v : Value) (vs : List Value) : Prop := ∃ A cap, v = .slice A vs.length cap ∧ VAt w A vs
theorem VAt.below {w w' : World} {A : Option Addr} {l : List Value} (h : VAt w A l) (hb : RowKit.Below w.heap.size w w') : VAt w' A l := by
  rcases h with h | ⟨b, off, hA, hlt, hr⟩
  · exact .inl h
  · exact .inr ⟨b, off, hA, Nat.lt_of_lt_of_le hlt hb.size, fun j hj => (hb.cell (p := ⟨b, _, none⟩) hlt).trans (hr j hj)⟩
theorem VV.below {w w' : World} {v : Value} {l : List Value} (h : VV w v l) (hb : RowKit.Below w.heap.size w w') : VV w' v l := by
  obtain ⟨A, cap, hv, hA⟩ := h
  exact ⟨A, cap, hv, hA.below hb⟩
theorem VAt.at_ {w : World} {A : Option Addr} {vs : List Value} (h : VAt w A vs) {k : Nat} (hk : k < vs.length) : ∃ b off, A = some ⟨b, off, none⟩ ∧ b < w.heap.size ∧ w.cell? ⟨b, off + k, none⟩ = some vs[k] := by
  rcases h with h | ⟨b, off, hA, hlt, hr⟩
  · subst h; simp at hk
  · exact ⟨b, off, hA, hlt, (hr k hk).trans (List.getElem?_eq_getElem hk)⟩
end
end
end Go.Proofs.YtnjcegkefjdgdaaDoor
