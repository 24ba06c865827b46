/- What the texts behind this one rest on: several texts in one. No statement of the seat is proved here. -/
import Derived.Test.YtnjcegkefjdgdaaDoorG19
import Derived.Test.YtnjcegkefjdgdaaDoorG14
import Derived.Test.YtnjcegkefjdgdaaDoorG11
import Derived.Test.YtnjcegkefjdgdaaDoorG21
import Derived.Test.YtnjcegkefjdgdaaDoorG8
import Derived.Test.YtnjcegkefjdgdaaDoorG16
import Derived.ChangeVars
import Derived.LaidMore
import Derived.LaidLaws
import Derived.Stop.Joined
import Derived.SevenTiedAt
namespace Go.Proofs.YtnjcegkefjdgdaaDoor
section
open Go.RowKit

theorem cellsSw : Tryd.prog.cellsOf 31 = 2 := by kernel_rfl
theorem cellsDr : Tryd.prog.cellsOf 33 = 5 := by kernel_rfl
theorem cellsMo : Tryd.prog.cellsOf 35 = 3 := by kernel_rfl
theorem fieldsNc : Tryd.prog.underlying 38 = some (.struct (Tryd.prog.fieldsOf 38)) := by kernel_rfl
theorem stoodNc : Tryd.prog.stoodInHeld 38 = false := by kernel_rfl
theorem listNc : (Tryd.prog.fieldsOf 38).toList = [{ name := "Sweep", type := 31, offset := 0, embedded := false, tag := "", pkgPath := "", byteOffset := 0 }, { name := "Door", type := 33, offset := 2, embedded := false, tag := "", pkgPath := "", byteOffset := 16 }, { name := "Motion", type := 35, offset := 7, embedded := false, tag := "", pkgPath := "", byteOffset := 56 }, { name := "Calls", type := 36, offset := 10, embedded := false, tag := "", pkgPath := "", byteOffset := 80 }, { name := "Shown", type := 3, offset := 11, embedded := false, tag := "", pkgPath := "", byteOffset := 88 }, { name := "Idle", type := 3, offset := 12, embedded := false, tag := "", pkgPath := "", byteOffset := 96 }, { name := "Fault", type := 4, offset := 13, embedded := false, tag := "", pkgPath := "", byteOffset := 104 }] := by kernel_rfl
/-- A struct that is compared field by field, where each field's comparison is known. -/
theorem equalNc (n : Nat) (x y : Nc) (w : World) : (Op.equalIn (n + 3) 38 x.agg y.agg).run Tryd.prog w = .ok (Nc.same x y) w := by
  obtain ⟨a1, a2, ⟨a3, a4, a5, a6, a7⟩, ⟨a8, a9, a10⟩, a11, a12, a13, a14⟩ := x
  obtain ⟨b1, b2, ⟨b3, b4, b5, b6, b7⟩, ⟨b8, b9, b10⟩, b11, b12, b13, b14⟩ := y
  unfold Nc.agg
  rw [run_equalIn_struct w (n + 2) 38 _ _ fieldsNc stoodNc, listNc]
  have hsw := equalSw n a1 a2 b1 b2 w
  have hdr := equalDr n a3 a4 a5 a6 a7 b3 b4 b5 b6 b7 w
  have hmo := equalMo n a8 a9 a10 b8 b9 b10 w
  have h0 := fun (xs : Array Value) off v => run_part_plain (P := Tryd.prog) w (e := 3) (off := off) (xs := xs) (v := v) (by kernel_rfl)
  have hu := fun (xs : Array Value) off v => run_part_plain (P := Tryd.prog) w (e := 36) (off := off) (xs := xs) (v := v) (by kernel_rfl)
  have hb := fun (xs : Array Value) off v => run_part_plain (P := Tryd.prog) w (e := 4) (off := off) (xs := xs) (v := v) (by kernel_rfl)
  have hi := fun k1 k2 => run_equalIn_int w (n + 1) 3 .i64 .i64 k1 k2 Tryd.underlying3
  have hcast : ∀ x y : Nat, ((x : Int) == (y : Int)) = (x == y) := fun x y => by rw [Bool.eq_iff_iff, beq_iff_eq, beq_iff_eq]; omega
  have hiu : ∀ k1 k2 : Nat, (Op.equalIn (n + 1 + 1) 36 (.int .u32 (k1 : Int)) (.int .u32 (k2 : Int))).run Tryd.prog w = .ok (k1 == k2) w := fun k1 k2 => by rw [run_equalIn_int w (n + 1) 36 .u32 .u32 k1 k2 Tryd.underlying36, hcast]
  clear hcast
  have hib := fun x y => run_equalIn_bool w (n + 1) 4 x y Tryd.underlying4
  have p0 : ∀ v0 v1 v2 v3 v4 v5 v6 v7 v8 v9 v10 v11 v12 v13 : Value, (part 31 #[v0, v1, v2, v3, v4, v5, v6, v7, v8, v9, v10, v11, v12, v13] 0).run Tryd.prog w = .ok (.agg #[v0, v1]) w := fun _ _ _ _ _ _ _ _ _ _ _ _ _ _ => by
    rw [run_part_struct w fieldsSw, cellsSw]; rfl
  have p1 : ∀ v0 v1 v2 v3 v4 v5 v6 v7 v8 v9 v10 v11 v12 v13 : Value, (part 33 #[v0, v1, v2, v3, v4, v5, v6, v7, v8, v9, v10, v11, v12, v13] 2).run Tryd.prog w = .ok (.agg #[v2, v3, v4, v5, v6]) w := fun _ _ _ _ _ _ _ _ _ _ _ _ _ _ => by
    rw [run_part_struct w fieldsDr, cellsDr]; rfl
  have p2 : ∀ v0 v1 v2 v3 v4 v5 v6 v7 v8 v9 v10 v11 v12 v13 : Value, (part 35 #[v0, v1, v2, v3, v4, v5, v6, v7, v8, v9, v10, v11, v12, v13] 7).run Tryd.prog w = .ok (.agg #[v7, v8, v9]) w := fun _ _ _ _ _ _ _ _ _ _ _ _ _ _ => by
    rw [run_part_struct w fieldsMo, cellsMo]; rfl
  have p3 := fun v0 v1 v2 v3 v4 v5 v6 v7 v8 v9 v10 v11 v12 v13 => hu #[v0, v1, v2, v3, v4, v5, v6, v7, v8, v9, v10, v11, v12, v13] 10 v10 rfl
  have p4 := fun v0 v1 v2 v3 v4 v5 v6 v7 v8 v9 v10 v11 v12 v13 => h0 #[v0, v1, v2, v3, v4, v5, v6, v7, v8, v9, v10, v11, v12, v13] 11 v11 rfl
  have p5 := fun v0 v1 v2 v3 v4 v5 v6 v7 v8 v9 v10 v11 v12 v13 => h0 #[v0, v1, v2, v3, v4, v5, v6, v7, v8, v9, v10, v11, v12, v13] 12 v12 rfl
  have p6 := fun v0 v1 v2 v3 v4 v5 v6 v7 v8 v9 v10 v11 v12 v13 => hb #[v0, v1, v2, v3, v4, v5, v6, v7, v8, v9, v10, v11, v12, v13] 13 v13 rfl
  rw [show Nc.same ⟨a1, a2, ⟨a3, a4, a5, a6, a7⟩, ⟨a8, a9, a10⟩, a11, a12, a13, a14⟩ ⟨b1, b2, ⟨b3, b4, b5, b6, b7⟩, ⟨b8, b9, b10⟩, b11, b12, b13, b14⟩ = ((a1 == b1 && a2 == b2) && (Dr.same ⟨a3, a4, a5, a6, a7⟩ ⟨b3, b4, b5, b6, b7⟩ && (Mo.same ⟨a8, a9, a10⟩ ⟨b8, b9, b10⟩ && (a11 == b11 && (a12 == b12 && (a13 == b13 && a14 == b14)))))) from rfl]
  generalize Dr.same ⟨a3, a4, a5, a6, a7⟩ ⟨b3, b4, b5, b6, b7⟩ = q1 at *
  generalize Mo.same ⟨a8, a9, a10⟩ ⟨b8, b9, b10⟩ = q2 at *
  generalize (a1 == b1 && a2 == b2) = q0 at *
  simp [Op.eqFields, p0, p1, p2, p3, p4, p5, p6, hsw, hdr, hmo, hi, hiu, hib]
  cases q0 <;> cases q1 <;> cases q2 <;> by_cases h11 : a11 = b11 <;> by_cases h12 : a12 = b12 <;> by_cases h13 : a13 = b13 <;> by_cases h14 : a14 = b14 <;> simp [h11, h12, h13, h14]
theorem eqlNc (x y : Nc) (w : World) : (binOp .eql 38 x.agg y.agg).run Tryd.prog w = .ok (.bool (Nc.same x y)) w := by
  rw [Nc.agg, Nc.agg, run_eql_struct, ← Nc.agg, ← Nc.agg, equalNc 9997]; rfl
theorem neqNc (x y : Nc) (w : World) : (binOp .neq 38 x.agg y.agg).run Tryd.prog w = .ok (.bool (!Nc.same x y)) w := by
  rw [Nc.agg, Nc.agg, run_neq_struct, ← Nc.agg, ← Nc.agg, equalNc 9997]; rfl
end

section
open Go.RowKit
namespace Rg
variable (F fl am tk t : Int)
theorem e0_door {dd : Int} : stepF F ⟨fl, fl, 0, dd, 0, 0⟩ 0 t = ⟨fl, fl, 0, dd, 0, 0⟩ := by
  unfold stepF
  rw [if_neg (by show ¬ (0 : Int) < 0; decide), if_neg (fun e => e.2.1 rfl), if_pos (.inl rfl)]
theorem e0_on (h : 1 ≤ am ∧ am ≤ 2) : stepF F ⟨fl, fl, 0, 0, am, tk⟩ 0 t = shut ⟨fl, fl, 0, 0, am, tk - 1⟩ am := by
  unfold stepF
  rw [if_neg (by show ¬ (0 : Int) < 0; decide), if_neg (fun e => e.2.1 rfl), if_neg (by show ¬ (am = 0 ∨ am = 0); omega), if_pos ⟨rfl, rfl⟩]
  rfl
theorem e1_open : stepF F ⟨fl, fl, 0, 1, 0, 0⟩ 1 t = ⟨fl, fl, 0, 1, 0, 0⟩ := by
  unfold stepF
  rw [if_neg (by show ¬ (0 : Int) < 0; decide), if_neg (fun e => by have := e.1; simp at this), if_pos (.inl rfl)]
theorem e1_out (h : ¬ (0 ≤ fl + 1 ∧ fl + 1 ≤ F - 1)) : stepF F ⟨fl, fl, 0, 2, 0, 0⟩ 1 t = ⟨fl, fl, 0, 2, 0, 0⟩ := by
  unfold stepF
  rw [if_neg (by show ¬ (0 : Int) < 0; decide), if_neg (fun e => h e.2.2), if_pos (.inl rfl)]
theorem e1_on (h : 1 ≤ am ∧ am ≤ 2) : stepF F ⟨fl, fl, 0, 0, am, tk⟩ 1 t = shut ⟨fl, fl, 0, 0, am, tk - 1⟩ am := by
  unfold stepF
  rw [if_neg (by show ¬ (0 : Int) < 0; decide), if_neg (fun e => by have := e.1; simp at this), if_neg (by show ¬ (am = 0 ∨ am = 0); omega), if_pos ⟨rfl, rfl⟩]
  rfl
theorem e2_open : stepF F ⟨fl, fl, 0, 1, 0, 0⟩ 2 t = ⟨fl, fl, 0, 1, 0, 0⟩ := by
  unfold stepF
  rw [if_neg (by show ¬ (0 : Int) < 0; decide), if_neg (fun e => by have := e.1; simp at this), if_pos (.inl rfl)]
theorem e2_out (h : ¬ (0 ≤ fl - 1 ∧ fl - 1 ≤ F - 1)) : stepF F ⟨fl, fl, 0, 2, 0, 0⟩ 2 t = ⟨fl, fl, 0, 2, 0, 0⟩ := by
  unfold stepF
  rw [if_neg (by show ¬ (0 : Int) < 0; decide), if_neg (fun e => h e.2.2), if_pos (.inl rfl)]
theorem e2_on (h : 1 ≤ am ∧ am ≤ 2) : stepF F ⟨fl, fl, 0, 0, am, tk⟩ 2 t = shut ⟨fl, fl, 0, 0, am, tk - 1⟩ am := by
  unfold stepF
  rw [if_neg (by show ¬ (0 : Int) < 0; decide), if_neg (fun e => by have := e.1; simp at this), if_neg (by show ¬ (am = 0 ∨ am = 0); omega), if_pos ⟨rfl, rfl⟩]
  rfl
theorem e3_still : stepF F ⟨fl, fl, 0, 1, 0, 0⟩ 3 t = ⟨fl, fl, 0, 1, 0, 0⟩ := by
  unfold stepF
  rw [if_neg (by show ¬ (0 : Int) < 0; decide), if_neg (fun e => e.2.1 rfl), if_pos (.inr rfl)]
theorem e3_on : stepF F ⟨fl, fl, 0, 0, 1, tk⟩ 3 t = shut ⟨fl, fl, 0, 0, 1, tk - 1⟩ 1 := by
  unfold stepF
  rw [if_neg (by show ¬ (0 : Int) < 0; decide), if_neg (fun e => e.2.1 rfl), if_neg (by show ¬ ((1 : Int) = 0 ∨ (1 : Int) = 0); decide), if_pos ⟨rfl, rfl⟩]
  rfl
theorem e3_back : stepF F ⟨fl, fl, 0, 0, 2, tk⟩ 3 t = shut ⟨fl, fl, 0, 0, 1, t - 1⟩ 1 := by
  unfold stepF
  rw [if_neg (by show ¬ (0 : Int) < 0; decide), if_neg (fun e => e.2.1 rfl), if_neg (by show ¬ ((1 : Int) = 0 ∨ (1 : Int) = 0); decide), if_neg (by show ¬ ((0 : Int) = 0 ∧ (1 : Int) = 2); decide)]
  rfl
theorem e3_turn : stepF F ⟨fl, fl, 0, 2, 0, 0⟩ 3 t = shut ⟨fl, fl, 0, 0, 1, t - 1⟩ 1 := by
  unfold stepF
  rw [if_neg (by show ¬ (0 : Int) < 0; decide), if_neg (fun e => e.2.1 rfl), if_neg (by show ¬ ((1 : Int) = 0 ∨ (1 : Int) = 2); decide), if_neg (by show ¬ ((2 : Int) = 0 ∧ (1 : Int) = 0); decide)]
  rfl
theorem e4_still : stepF F ⟨fl, fl, 0, 2, 0, 0⟩ 4 t = ⟨fl, fl, 0, 2, 0, 0⟩ := by
  unfold stepF
  rw [if_neg (by show ¬ (0 : Int) < 0; decide), if_neg (fun e => e.2.1 rfl), if_pos (.inr rfl)]
theorem e4_on : stepF F ⟨fl, fl, 0, 0, 2, tk⟩ 4 t = shut ⟨fl, fl, 0, 0, 2, tk - 1⟩ 2 := by
  unfold stepF
  rw [if_neg (by show ¬ (0 : Int) < 0; decide), if_neg (fun e => e.2.1 rfl), if_neg (by show ¬ ((2 : Int) = 0 ∨ (2 : Int) = 0); decide), if_pos ⟨rfl, rfl⟩]
  rfl
theorem e4_back : stepF F ⟨fl, fl, 0, 0, 1, tk⟩ 4 t = shut ⟨fl, fl, 0, 0, 2, t - 1⟩ 2 := by
  unfold stepF
  rw [if_neg (by show ¬ (0 : Int) < 0; decide), if_neg (fun e => e.2.1 rfl), if_neg (by show ¬ ((2 : Int) = 0 ∨ (2 : Int) = 0); decide), if_neg (by show ¬ ((0 : Int) = 0 ∧ (2 : Int) = 1); decide)]
  rfl
theorem e4_turn : stepF F ⟨fl, fl, 0, 1, 0, 0⟩ 4 t = shut ⟨fl, fl, 0, 0, 2, t - 1⟩ 2 := by
  unfold stepF
  rw [if_neg (by show ¬ (0 : Int) < 0; decide), if_neg (fun e => e.2.1 rfl), if_neg (by show ¬ ((2 : Int) = 0 ∨ (2 : Int) = 1); decide), if_neg (by show ¬ ((1 : Int) = 0 ∧ (2 : Int) = 0); decide)]
  rfl
theorem e5_still : stepF F ⟨fl, fl, 0, 2, 0, 0⟩ 5 t = ⟨fl, fl, 0, 2, 0, 0⟩ := by
  unfold stepF
  rw [if_neg (by show ¬ (0 : Int) < 0; decide), if_neg (fun e => e.2.1 rfl), if_pos (.inr rfl)]
theorem e5_on : stepF F ⟨fl, fl, 0, 0, 2, tk⟩ 5 t = shut ⟨fl, fl, 0, 0, 2, tk - 1⟩ 2 := by
  unfold stepF
  rw [if_neg (by show ¬ (0 : Int) < 0; decide), if_neg (fun e => e.2.1 rfl), if_neg (by show ¬ ((2 : Int) = 0 ∨ (2 : Int) = 0); decide), if_pos ⟨rfl, rfl⟩]
  rfl
theorem e5_back : stepF F ⟨fl, fl, 0, 0, 1, tk⟩ 5 t = shut ⟨fl, fl, 0, 0, 2, t - 1⟩ 2 := by
  unfold stepF
  rw [if_neg (by show ¬ (0 : Int) < 0; decide), if_neg (fun e => e.2.1 rfl), if_neg (by show ¬ ((2 : Int) = 0 ∨ (2 : Int) = 0); decide), if_neg (by show ¬ ((0 : Int) = 0 ∧ (2 : Int) = 1); decide)]
  rfl
theorem e5_turn : stepF F ⟨fl, fl, 0, 1, 0, 0⟩ 5 t = shut ⟨fl, fl, 0, 0, 2, t - 1⟩ 2 := by
  unfold stepF
  rw [if_neg (by show ¬ (0 : Int) < 0; decide), if_neg (fun e => e.2.1 rfl), if_neg (by show ¬ ((2 : Int) = 0 ∨ (2 : Int) = 1); decide), if_neg (by show ¬ ((1 : Int) = 0 ∧ (2 : Int) = 0); decide)]
  rfl
end Rg
end

section
open Go.RowKit Go.ChangeShapes Go.WideShapes Go.Deep
set_option maxRecDepth 100000

/-- What happens to a car in a tick. -/
structure Nt where
  fb : Fb
  pr : Nat
  h : Cs
def Nt.ok (t : Nt) : Prop := t.pr < 4294967296 ∧ t.h.ok
def Fb.cells (t : Fb) : List Value := [.int .i64 t.fl, .bool t.lv, .int .i64 t.dd, .bool t.bl]
def Cs.cells (c : Cs) : List Value := [.int .u32 c.up, .int .u32 c.dn]
def Nt.cells (t : Nt) : List Value := [.int .i64 t.fb.fl, .bool t.fb.lv, .int .i64 t.fb.dd, .bool t.fb.bl, .int .u32 t.pr, .int .u32 t.h.up, .int .u32 t.h.dn]
def flatN (l : List Nt) : List Value := l.flatMap Nt.cells
theorem flatN_cons (c : Nt) (l : List Nt) : flatN (c :: l) = c.cells ++ flatN l := rfl
theorem flatN_length (l : List Nt) : (flatN l).length = l.length * 7 := by
  induction l with
  | nil => rfl
  | cons c l ih => rw [flatN_cons, List.length_append, ih, List.length_cons]; show 7 + _ = _; omega
theorem flatN_get : ∀ (l : List Nt) (i : Nat) (h : i < l.length) (j : Nat), j < 7 → (flatN l)[i * 7 + j]? = (l[i]).cells[j]?
  | c :: l, 0, _, j, hj => by
    rw [flatN_cons, Nat.zero_mul, Nat.zero_add, List.getElem?_append_left (by show j < 7; exact hj)]; rfl
  | c :: l, i + 1, h, j, hj => by
    rw [flatN_cons, List.getElem?_append_right (by show 7 ≤ _; omega), show (i + 1) * 7 + j - c.cells.length = i * 7 + j from by show (i + 1) * 7 + j - 7 = _; omega]
    exact flatN_get l i (by simpa using h) j hj
/-- A list of these at an address, and as a slice. -/
def NAt (w : World) (A : Option Addr) (l : List Nt) : Prop := l = [] ∨ ∃ b off, A = some ⟨b, off, none⟩ ∧ w.rangeAt b off (flatN l)
def NV (w : World) (v : Value) (l : List Nt) : Prop := ∃ A cap, v = .slice A l.length cap ∧ NAt w A l
theorem NAt.below {w w' : World} {A : Option Addr} {l : List Nt} (h : NAt w A l) (hb : RowKit.Below w.heap.size w w') : NAt w' A l := by
  rcases h with h | ⟨b, off, hA, hr⟩
  · exact .inl h
  · exact .inr ⟨b, off, hA, fun j v hv => (hb.cell (World.block_lt_of_cell? w _ (hr j v hv))).trans (hr j v hv)⟩
theorem NV.below {w w' : World} {v : Value} {l : List Nt} (h : NV w v l) (hb : RowKit.Below w.heap.size w w') : NV w' v l := by
  obtain ⟨A, cap, hv, hA⟩ := h
  exact ⟨A, cap, hv, hA.below hb⟩
theorem NAt.at_ {w : World} {A : Option Addr} {l : List Nt} (h : NAt w A l) {k : Nat} (hk : k < l.length) :
    ∃ b off, A = some ⟨b, off, none⟩ ∧ b < w.heap.size ∧ w.cell? ⟨b, off + k * 7, none⟩ = some (.int .i64 (l[k]).fb.fl) ∧ w.cell? ⟨b, off + k * 7 + 1, none⟩ = some (.bool (l[k]).fb.lv) ∧ w.cell? ⟨b, off + k * 7 + 2, none⟩ = some (.int .i64 (l[k]).fb.dd) ∧ w.cell? ⟨b, off + k * 7 + 3, none⟩ = some (.bool (l[k]).fb.bl) ∧ w.cell? ⟨b, off + k * 7 + 4, none⟩ = some (.int .u32 (l[k]).pr) ∧ w.cell? ⟨b, off + k * 7 + 5, none⟩ = some (.int .u32 (l[k]).h.up) ∧ w.cell? ⟨b, off + k * 7 + 6, none⟩ = some (.int .u32 (l[k]).h.dn) := by
  rcases h with h | ⟨b, off, hA, hr⟩
  · rw [h] at hk; simp at hk
  · have hc := fun j v (hj : j < 7) (e : (l[k]).cells[j]? = some v) => hr (k * 7 + j) v ((flatN_get l k hk j hj).trans e)
    have h0 := hc 0 _ (by omega) rfl
    refine ⟨b, off, hA, World.block_lt_of_cell? w _ h0, h0, hc 1 _ (by omega) rfl, hc 2 _ (by omega) rfl, hc 3 _ (by omega) rfl, hc 4 _ (by omega) rfl, hc 5 _ (by omega) rfl, hc 6 _ (by omega) rfl⟩

section
variable {H : Type} {enc : TypeId × Value → H} {w : World} {base : Nat} {spare : Nat → Bool} {held : Bool}
theorem trod_fb {fuel : Nat} {cs : List Value} {x : DataW H × List MemPlace} (h : DataW.trod enc Tryd.prog w base spare held fuel 40 cs = some x) : ∃ c : Fb, cs = c.cells := by
  obtain ⟨xs, n, _, _, hlen, hxl, hg⟩ := DataW.trod_struct Tryd.underlying40 h
  have hC : Tryd.prog.cellsOf 40 = 4 := by kernel_rfl
  have hkbool : Tryd.prog.cellsOf 4 = 1 := by kernel_rfl
  have hkint : Tryd.prog.cellsOf 3 = 1 := by kernel_rfl
  rw [hC] at hlen
  match cs, hlen with
  | [c0, c1, c2, c3], _ =>
    have hyl : xs.length = 4 := by rw [hxl]; rfl
    have at_ : ∀ j, j < 4 → ∃ y, xs[j]? = some y := fun j hj => ⟨_, List.getElem?_eq_getElem (by omega)⟩
    obtain ⟨y0, e0⟩ := at_ 0 (by omega)
    obtain ⟨y1, e1⟩ := at_ 1 (by omega)
    obtain ⟨y2, e2⟩ := at_ 2 (by omega)
    obtain ⟨y3, e3⟩ := at_ 3 (by omega)
    have i0 := (hg 0 _ rfl).trans e0
    have i1 := (hg 1 _ rfl).trans e1
    have i2 := (hg 2 _ rfl).trans e2
    have i3 := (hg 3 _ rfl).trans e3
    simp [hkbool, hkint] at i0 i1 i2 i3
    obtain ⟨z0, a0, _, wf0⟩ := DataW.trod_int Tryd.underlying3 i0
    obtain ⟨z1, a1, _⟩ := DataW.trod_bool Tryd.underlying4 i1
    obtain ⟨z2, a2, _, wf2⟩ := DataW.trod_int Tryd.underlying3 i2
    obtain ⟨z3, a3, _⟩ := DataW.trod_bool Tryd.underlying4 i3
    simp only [List.cons.injEq, and_true] at a0 a1 a2 a3
    subst a0 a1 a2 a3
    exact ⟨⟨z0, z1, z2, z3⟩, rfl⟩
theorem trod_cs {fuel : Nat} {cs : List Value} {x : DataW H × List MemPlace} (h : DataW.trod enc Tryd.prog w base spare held fuel 42 cs = some x) : ∃ c : Cs, cs = c.cells ∧ c.ok := by
  obtain ⟨xs, n, _, _, hlen, hxl, hg⟩ := DataW.trod_struct Tryd.underlying42 h
  have hC : Tryd.prog.cellsOf 42 = 2 := by kernel_rfl
  have hkuint32 : Tryd.prog.cellsOf 36 = 1 := by kernel_rfl
  rw [hC] at hlen
  match cs, hlen with
  | [c0, c1], _ =>
    have hyl : xs.length = 2 := by rw [hxl]; rfl
    have at_ : ∀ j, j < 2 → ∃ y, xs[j]? = some y := fun j hj => ⟨_, List.getElem?_eq_getElem (by omega)⟩
    obtain ⟨y0, e0⟩ := at_ 0 (by omega)
    obtain ⟨y1, e1⟩ := at_ 1 (by omega)
    have i0 := (hg 0 _ rfl).trans e0
    have i1 := (hg 1 _ rfl).trans e1
    simp [hkuint32] at i0 i1
    obtain ⟨z0, a0, _, wf0⟩ := DataW.trod_int Tryd.underlying36 i0
    obtain ⟨z1, a1, _, wf1⟩ := DataW.trod_int Tryd.underlying36 i1
    simp only [List.cons.injEq, and_true] at a0 a1
    subst a0 a1
    obtain ⟨n0, rfl, h0⟩ := u32_nat wf0
    obtain ⟨n1, rfl, h1⟩ := u32_nat wf1
    exact ⟨⟨n0, n1⟩, rfl, ⟨h0, h1⟩⟩
theorem trod_nt {fuel : Nat} {cs : List Value} {x : DataW H × List MemPlace} (h : DataW.trod enc Tryd.prog w base spare held fuel 44 cs = some x) : ∃ c : Nt, cs = c.cells ∧ c.ok := by
  obtain ⟨xs, n, _, _, hlen, hxl, hg⟩ := DataW.trod_struct Tryd.underlying44 h
  have hC : Tryd.prog.cellsOf 44 = 7 := by kernel_rfl
  have hk0 : Tryd.prog.cellsOf 40 = 4 := by kernel_rfl
  have hk1 : Tryd.prog.cellsOf 36 = 1 := by kernel_rfl
  have hk2 : Tryd.prog.cellsOf 42 = 2 := by kernel_rfl
  rw [hC] at hlen
  match cs, hlen with
  | [c0, c1, c2, c3, c4, c5, c6], _ =>
    have hyl : xs.length = 3 := by rw [hxl]; rfl
    have at_ : ∀ j, j < 3 → ∃ y, xs[j]? = some y := fun j hj => ⟨_, List.getElem?_eq_getElem (by omega)⟩
    obtain ⟨y0, e0⟩ := at_ 0 (by omega)
    obtain ⟨y1, e1⟩ := at_ 1 (by omega)
    obtain ⟨y2, e2⟩ := at_ 2 (by omega)
    have i0 := (hg 0 _ rfl).trans e0
    have i1 := (hg 1 _ rfl).trans e1
    have i2 := (hg 2 _ rfl).trans e2
    simp [hk0] at i0
    simp [hk1] at i1
    simp [hk2] at i2
    obtain ⟨z0, a0⟩ := trod_fb i0
    obtain ⟨z1, a1, _, wf1⟩ := DataW.trod_int Tryd.underlying36 i1
    obtain ⟨n1, rfl, hn1⟩ := u32_nat wf1
    obtain ⟨z2, a2, hz2⟩ := trod_cs i2
    simp only [List.cons.injEq, and_true] at a1
    refine ⟨⟨z0, n1, z2⟩, ?_, hn1, hz2⟩
    show [c0, c1, c2, c3, c4, c5, c6] = z0.cells ++ .int .u32 (n1 : Int) :: z2.cells
    rw [← a0, ← a2, ← a1]
    rfl
theorem open_nts {fuel : Nat} {v : Value} {x : DataW H × List MemPlace} (h : DataW.trod enc Tryd.prog w base spare held fuel 23 [v] = some x) : ∃ l : List Nt, NV w v l ∧ (∀ c ∈ l, c.ok) ∧ l.length ≤ maxLen := by
  rcases open_slice Tryd.underlying23 h with ⟨hcs, _⟩ | ⟨a, len, cap, m, n, D, Pl, hcs, _, hl, hm, hmm, _, hi⟩
  · simp only [List.cons.injEq, and_true] at hcs
    exact ⟨[], ⟨none, 0, hcs, .inl rfl⟩, by simp, by simp [maxLen]⟩
  · simp only [List.cons.injEq, and_true] at hcs
    subst hcs
    have hC : Tryd.prog.cellsOf 44 = 7 := by kernel_rfl
    have hml : len ≤ m := by rw [hmm]; split <;> omega
    obtain ⟨l, hll, hp⟩ := list_ofCt (fun i (c : Nt) => c.ok ∧ ∀ j v, c.cells[j]? = some v → w.cell? (a.add (i * 7 + j)) = some v) len (fun i hil => by
      obtain ⟨cs', hc, ht⟩ := hi i (by omega)
      rw [hC] at hc
      obtain ⟨c, hcc, hok⟩ := trod_nt ht
      obtain ⟨_, hcl, hat⟩ := World.cells?_some hc
      refine ⟨c, hok, fun j v hv => ?_⟩
      have hj : j < 7 := by
        rcases Nat.lt_or_ge j 7 with h | h
        · exact h
        · rw [List.getElem?_eq_none (by show 7 ≤ j; exact h)] at hv; cases hv
      rw [← Go.Deep.add_add, hat j hj, hcc]; exact hv)
    refine ⟨l, ⟨some a, cap, by rw [hll], ?_⟩, fun c hc => ?_, by omega⟩
    · rcases Nat.eq_zero_or_pos len with h0 | h0
      · exact .inl (List.eq_nil_of_length_eq_zero (by omega))
      · obtain ⟨b, off, spot⟩ := a
        have hfirst := (hp 0 (by omega)).2 0 _ rfl
        have hsp : spot = none := by
          cases spot with
          | none => rfl
          | some s =>
            simp only [Nat.zero_mul, Nat.add_zero, Addr.add, if_true] at hfirst
            unfold World.cell? at hfirst
            split at hfirst <;> simp at hfirst
        subst hsp
        refine .inr ⟨b, off, rfl, fun j v hv => ?_⟩
        have hj : j < l.length * 7 := by
          rcases Nat.lt_or_ge j (l.length * 7) with h | h
          · exact h
          · rw [List.getElem?_eq_none (by rw [flatN_length]; exact h)] at hv; cases hv
        have hg := flatN_get l (j / 7) (by omega) (j % 7) (Nat.mod_lt _ (by decide))
        rw [show j / 7 * 7 + j % 7 = j from by omega, hv] at hg
        have := (hp (j / 7) (by omega)).2 (j % 7) v hg.symm
        rw [show j / 7 * 7 + j % 7 = j from by omega] at this
        rw [← Addr.add_mid b off j]
        exact this
    · obtain ⟨i, hi', rfl⟩ := List.getElem_of_mem hc
      exact (hp i hi').1

theorem open_au8_2 {r : Reach} {b0 : Nat} {v : Value} {d : DataW H} {p : List MemPlace} (hv : Value.okWide Tryd.prog w r b0 22 v) (h : DataW.Trod enc Tryd.prog w base spare held 22 v d p) :
    ∃ x y : Int, v = .agg #[.int .u8 x, .int .u8 y] ∧ (Lit.int .u8 x).wf = true ∧ (Lit.int .u8 y).wf = true := by
  have hcs : ∃ cs, v = .agg cs ∧ cs.size = Tryd.prog.cellsOf 22 := by
    simp only [Value.okWide, Tryd.underlying22] at hv
    obtain ⟨cs, h1, h2, _⟩ := hv
    exact ⟨cs, h1, h2⟩
  obtain ⟨⟨l⟩, rfl, hsz⟩ := hcs
  obtain ⟨fuel, hf⟩ := h
  obtain ⟨ys, hl, hcs, _, hw⟩ := trod_ints Tryd.underlying22 Tryd.underlying5 (by kernel_rfl) (by kernel_rfl) hf
  match ys, hl with
  | [x, y], _ =>
    refine ⟨x, y, ?_, hw x (by simp), hw y (by simp)⟩
    have : l = [.int .u8 x, .int .u8 y] := by simpa [Value.cells] using hcs
    rw [this]
/-- An array of whole numbers, cell by cell. -/
theorem trod_intsT {P : Program} {fuel n : Nat} {t e : TypeId} {k : IntKind} {cs : List Value} {x : DataW H × List MemPlace} (ht : P.underlying t = some (.array n e)) (he : P.underlying e = some (.int k)) (hc : P.cellsOf e = 1) (hct : P.cellsOf t = n)
    (h : DataW.trod enc P w base spare held fuel t cs = some x) : ∃ ys : List Int, ys.length = n ∧ cs = (ys.map fun y => (Value.int k y)) ∧ x.1 = .agg (ys.map fun y => (DataW.lit (.int k y))) ∧ ∀ y ∈ ys, (Lit.int k y).wf = true := by
  obtain ⟨xs, m, _, hx, hlen, hxl, hg⟩ := DataW.trod_array ht h
  rw [hct] at hlen
  have hone : ∀ i, i < n → ∃ y : Int, cs[i]? = some (.int k y) ∧ (xs[i]?).map (·.1) = some (.lit (.int k y)) ∧ (Lit.int k y).wf = true := fun i hi => by
    have h1 := (hg i hi).trans (List.getElem?_eq_getElem (by omega : i < xs.length))
    rw [hc, Nat.mul_one, List.drop_eq_getElem_cons (by omega : i < cs.length)] at h1
    have h2 : DataW.trod enc P w base spare held m e [cs[i]'(by omega)] = some (xs[i]'(by omega)) := h1
    obtain ⟨y, hy, hd, hw⟩ := DataW.trod_int he h2
    simp only [List.cons.injEq, and_true] at hy
    exact ⟨y, by rw [List.getElem?_eq_getElem (by omega : i < cs.length), hy], by rw [List.getElem?_eq_getElem (by omega : i < xs.length), hd]; rfl, hw⟩
  obtain ⟨l, hl, hp⟩ := list_ofCt (fun i (y : Int) => cs[i]? = some (.int k y) ∧ (xs[i]?).map (·.1) = some (.lit (.int k y)) ∧ (Lit.int k y).wf = true) n hone
  refine ⟨l, hl, ?_, ?_, ?_⟩
  · apply List.ext_getElem?
    intro i
    rcases Nat.lt_or_ge i n with h | h
    · rw [(hp i (by omega)).1, List.getElem?_map, List.getElem?_eq_getElem (by omega : i < l.length)]; rfl
    · rw [List.getElem?_eq_none (by omega), List.getElem?_eq_none (by rw [List.length_map]; omega)]
  · rw [hx]
    refine congrArg DataW.agg ?_
    apply List.ext_getElem?
    intro i
    rw [List.getElem?_map, List.getElem?_map]
    rcases Nat.lt_or_ge i n with h | h
    · rw [(hp i (by omega)).2.1, List.getElem?_eq_getElem (by omega : i < l.length)]; rfl
    · rw [List.getElem?_eq_none (by omega : xs.length ≤ i), List.getElem?_eq_none (by omega : l.length ≤ i)]; rfl
  · intro y hy
    obtain ⟨i, hi, rfl⟩ := List.getElem_of_mem hy
    exact (hp i hi).2.2
end
/-- A table in a package-level variable: its cells. -/
theorem table_cells {P : Program} {W : World} {g n : Nat} {name : String} {t e : TypeId} {k : IntKind} {cs : Array Value} {fuel : Nat} {spare : Nat → Bool} {held : Bool} {enc : TypeId × Value → Unit} {base : Nat} {d : DataW Unit} {p : List MemPlace} (ys : List Int)
    (ht : P.underlying t = some (.array n e)) (he : P.underlying e = some (.int k)) (hc : P.cellsOf e = 1) (hct : P.cellsOf t = n)
    (hg : P.globalNamed name = some g) (hv : W.var? P name = some cs) (hd : DataW.trod enc P W base spare held fuel t cs.toList = some (d, p))
    (hx : d = .agg (ys.map fun y => (DataW.lit (.int k y)))) : ∀ j, j < n → W.cell? ⟨g, j, none⟩ = some (.int k (ys.getD j 0)) := by
  obtain ⟨zs, hl, hcs, hz, _⟩ := trod_intsT ht he hc hct hd
  have hzy : zs = ys := by
    rw [hx] at hz
    have h1 := DataW.agg.inj hz
    have : ∀ (a b : List Int), (a.map fun y => (DataW.lit (.int k y) : DataW Unit)) = (b.map fun y => (DataW.lit (.int k y))) → a = b := by
      intro a
      induction a with
      | nil => intro b h; cases b with
        | nil => rfl
        | cons y r => simp at h
      | cons y r ih => intro b h; cases b with
        | nil => simp at h
        | cons y' r' =>
          simp only [List.map_cons, List.cons.injEq, DataW.lit.injEq, Lit.int.injEq, true_and] at h
          rw [h.1, ih r' h.2]
    exact (this _ _ h1).symm
  subst hzy
  intro j hj
  have := World.var?_cell hg hv j
  rw [this, ← Array.getElem?_toList, hcs, List.getElem?_map, List.getElem?_eq_getElem (by omega : j < zs.length), List.getD_eq_getElem?_getD, List.getElem?_eq_getElem (by omega : j < zs.length)]
  rfl

noncomputable abbrev laidAll : List (String × DataW Unit) := [("math/bits.deBruijn32tab", Rows.laid_math_bits_deBruijn32tab), ("overlay/motion.ahead", Rows.laid_overlay_motion_ahead), ("overlay/collective.steps", Rows.laid_overlay_collective_steps)]
/-- The door's own heap meets the condition. -/
theorem door_met (os : Os) (args : Array Value) : laidMetH Tryd.prog laidAll ((World.doorLaid Tryd.prog 24 os).forCall (fun _ _ => 0) ⟨#[], args, []⟩).memory :=
  laidMetH_of_parts3 (fuel := 8) (laidMet_of_run' 8 (by kernel_rfl) (by kernel_rfl)) (by kernel_rfl) (by kernel_rfl)

theorem tabs_of_laid {W : World} (h : laidMetH Tryd.prog laidAll W) : Tabs W := by
  rw [MakeChecks.laidMetH_plain _ _ _ (by kernel_rfl)] at h
  obtain ⟨ps, ⟨g0, t0, cs0, f0, p0, q0, hg0, ht0, hv0, hd0, ⟨g1, t1, cs1, f1, p1, q1, hg1, ht1, hv1, hd1, ⟨g2, t2, cs2, f2, p2, q2, hg2, ht2, hv2, hd2, _, _⟩, _⟩, _⟩, _, _⟩ := h
  obtain rfl := Option.some.inj ((show Tryd.prog.globalNamed "math/bits.deBruijn32tab" = some 3 by kernel_rfl).symm.trans hg0)
  obtain rfl := Option.some.inj ((show Tryd.prog.globalNamed "overlay/motion.ahead" = some 1 by kernel_rfl).symm.trans hg1)
  obtain rfl := Option.some.inj ((show Tryd.prog.globalNamed "overlay/collective.steps" = some 2 by kernel_rfl).symm.trans hg2)
  obtain rfl := Option.some.inj ((show (Tryd.prog.globals[3]?).map (·.type) = some 141 by kernel_rfl).symm.trans ht0)
  obtain rfl := Option.some.inj ((show (Tryd.prog.globals[1]?).map (·.type) = some 115 by kernel_rfl).symm.trans ht1)
  obtain rfl := Option.some.inj ((show (Tryd.prog.globals[2]?).map (·.type) = some 115 by kernel_rfl).symm.trans ht2)
  have c0 := table_cells (n := 32) (Go.Lib.deBruijn32tab.map fun x : Nat => (x : Int)) Tryd.underlying141 Tryd.underlying5 (by kernel_rfl) (by kernel_rfl) hg0 hv0 hd0 rfl
  have c1 := table_cells (n := 3) [0, 1, -1] Tryd.underlying115 Tryd.underlying3 (by kernel_rfl) (by kernel_rfl) hg1 hv1 hd1 rfl
  have c2 := table_cells (n := 3) [0, 1, 2] Tryd.underlying115 Tryd.underlying3 (by kernel_rfl) (by kernel_rfl) hg2 hv2 hd2 rfl
  have ahd : ∀ j : Nat, j < 3 → ([0, 1, -1] : List Int).getD j 0 = Mo.ah j := by decide
  have three : ∀ j : Nat, j < 3 → ([0, 1, 2] : List Int).getD j 0 = (j : Int) := by decide
  have tz : ∀ j : Nat, j < 32 → (Go.Lib.deBruijn32tab.map fun x : Nat => (x : Int)).getD j 0 = ((Go.Lib.deBruijn32tab.getD j 0 : Nat) : Int) := by decide +kernel
  exact ⟨fun j hj => by rw [c2 j hj, three j hj], fun j hj => by rw [c1 j hj, ahd j hj], fun j hj => by rw [c0 j hj, tz j hj]⟩
end
end Go.Proofs.YtnjcegkefjdgdaaDoor
