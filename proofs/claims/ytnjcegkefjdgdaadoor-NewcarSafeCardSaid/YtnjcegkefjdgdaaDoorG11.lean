/- What the texts behind this one rest on: several texts in one. No statement of the seat is proved here. -/
import Derived.Test.YtnjcegkefjdgdaaDoorG0
import Derived.Test.YtnjcegkefjdgdaaDoorG10
import Derived.DeepKeys
import Derived.Test.YtnjcegkefjdgdaaDoorCsLeaf
namespace Go.Proofs.YtnjcegkefjdgdaaDoor
section
open Go.RowKit

theorem run_part_struct {P : Program} (w : World) {e : TypeId} {fs : Array Field} {off : Nat} {xs : Array Value} (hu : P.underlying e = some (.struct fs)) :
    (part e xs off).run P w = .ok (.agg (xs.extract off (off + P.cellsOf e))) w := by
  obtain ⟨i, hi⟩ := info_of_underlying hu
  simp [part, isAgg, run_underlying hu, run_sizeOf w hi]
theorem fieldsSt : Tryd.prog.underlying 105 = some (.struct (Tryd.prog.fieldsOf 105)) := by kernel_rfl
theorem stoodSt : Tryd.prog.stoodInHeld 105 = false := by kernel_rfl
theorem listSt : (Tryd.prog.fieldsOf 105).toList = [{ name := "Car", type := 36, offset := 0, embedded := false, tag := "", pkgPath := "", byteOffset := 0 }, { name := "Hall", type := 42, offset := 1, embedded := false, tag := "", pkgPath := "", byteOffset := 4 }] := by kernel_rfl
theorem cellsCs : Tryd.prog.cellsOf 42 = 2 := by kernel_rfl
theorem equalSt (d : Nat) (x0 x1 x2 y0 y1 y2 : Int) (w : World) : (Op.equalIn (d + 3) 105 (.agg #[.int .u32 x0, .int .u32 x1, .int .u32 x2]) (.agg #[.int .u32 y0, .int .u32 y1, .int .u32 y2])).run Tryd.prog w = .ok (x0 == y0 && (x1 == y1 && x2 == y2)) w := by
  rw [run_equalIn_struct w (d + 2) 105 _ _ fieldsSt stoodSt, listSt]
  have h0 := fun (xs : Array Value) off v => run_part_plain (P := Tryd.prog) w (e := 36) (off := off) (xs := xs) (v := v) (by kernel_rfl)
  have hi := fun k1 k2 => run_equalIn_int w (d + 1) 36 .u32 .u32 k1 k2 Tryd.underlying36
  have p0 := fun a b c => h0 #[a, b, c] 0 a rfl
  have p1 : ∀ a b c : Value, (part 42 #[a, b, c] 1).run Tryd.prog w = .ok (.agg #[b, c]) w := fun a b c => by
    rw [run_part_struct w fieldsCs, cellsCs]
    rfl
  have hc := equalCs d x1 x2 y1 y2 w
  simp [Op.eqFields, p0, p1, hi, hc]
  by_cases hx : x0 = y0 <;> by_cases hy : x1 = y1 <;> by_cases hz : x2 = y2 <;> simp [hx, hy, hz]
theorem eqlSt (x0 x1 x2 y0 y1 y2 : Int) (w : World) : (binOp .eql 105 (.agg #[.int .u32 x0, .int .u32 x1, .int .u32 x2]) (.agg #[.int .u32 y0, .int .u32 y1, .int .u32 y2])).run Tryd.prog w = .ok (.bool (x0 == y0 && (x1 == y1 && x2 == y2))) w := by
  rw [run_eql_struct, equalSt 9997]; rfl
theorem fieldsSw : Tryd.prog.underlying 31 = some (.struct (Tryd.prog.fieldsOf 31)) := by kernel_rfl
theorem stoodSw : Tryd.prog.stoodInHeld 31 = false := by kernel_rfl
theorem listSw : (Tryd.prog.fieldsOf 31).toList = [{ name := "Dir", type := 3, offset := 0, embedded := false, tag := "", pkgPath := "", byteOffset := 0 }, { name := "Opened", type := 3, offset := 1, embedded := false, tag := "", pkgPath := "", byteOffset := 8 }] := by kernel_rfl
theorem equalSw (d : Nat) (x0 x1 y0 y1 : Int) (w : World) : (Op.equalIn (d + 2) 31 (.agg #[.int .i64 x0, .int .i64 x1]) (.agg #[.int .i64 y0, .int .i64 y1])).run Tryd.prog w = .ok (x0 == y0 && x1 == y1) w := by
  rw [run_equalIn_struct w (d + 1) 31 _ _ fieldsSw stoodSw, listSw]
  have h0 := fun (xs : Array Value) off v => run_part_plain (P := Tryd.prog) w (e := 3) (off := off) (xs := xs) (v := v) (by kernel_rfl)
  have hi := fun k1 k2 => run_equalIn_int w d 3 .i64 .i64 k1 k2 Tryd.underlying3
  have p0 := fun a b => h0 #[a, b] 0 a rfl
  have p1 := fun a b => h0 #[a, b] 1 b rfl
  simp [Op.eqFields, p0, p1, hi]
  by_cases hx : x0 = y0 <;> by_cases hy : x1 = y1 <;> simp [hx, hy]
end

section
open Go.RowKit

set_option maxRecDepth 100000

theorem Lit.drew {B b : Nat} {W1 wx : World} {row : Obj} (h : Lit B W1 b row wx) {n : Nat} : Lit B W1 b row { wx with drawn := n } := ⟨⟨h.below.os, h.below.tape, h.below.output, h.below.size, h.below.block⟩, h.size, h.row⟩
theorem size1 {w wx : World} {o : Obj} (h : Below (w.heap.size + 1) (w.alloc o) wx) : w.heap.size + 1 ≤ wx.heap.size := by
  have := h.size
  simpa using this
theorem boxCs {w wx : World} {c : Cs} (h : Below (w.heap.size + 1) (w.alloc (.cells #[.int .u32 c.up, .int .u32 c.dn] 42)) wx) :
    wx.cell? ⟨w.heap.size, 0, none⟩ = some (.int .u32 c.up) ∧ wx.cell? ⟨w.heap.size, 1, none⟩ = some (.int .u32 c.dn) := ⟨cell_new_below h 0, cell_new_below h 1⟩
set_option maxHeartbeats 1000000 in
theorem has_any (c : Cs) (f d : Int) (w : World) (hc : c.ok) :
    Calls Tryd.prog 78 #[c.agg, .int .i64 f, .int .i64 d] w fun e w' => e = .returned (.bool (Cs.has c f d)) ∧ Below w.heap.size w w' := by
  have F := Lib.hid (fun w => one_any f d w)
  have G := Lib.hid (fun w => both_any c (Cs.one f d) w hc (Cs.one_ok f d))
  have HBX := Lib.hid (fun (wx : World) (h : Below (w.heap.size + 1) (w.alloc (.cells #[.int .u32 c.up, .int .u32 c.dn] 42)) wx) => boxCs h)
  have HH : Cs.has c f d = !(Cs.eqB (Cs.both c (Cs.one f d)) Cs.empty) := rfl
  rw [HH]
  clear HH
  generalize Cs.both c (Cs.one f d) = B at *
  generalize Cs.one f d = O at *
  obtain ⟨c1, c2⟩ := c
  obtain ⟨b1, b2⟩ := B
  obtain ⟨o1, o2⟩ := O
  simp only [Cs.agg, Cs.eqB, Cs.empty] at *
  clear hc
  have hne := fun wx => neqCs (b1 : Int) (b2 : Int) 0 0 wx
  have hq : (!((b1 : Int) == 0 && (b2 : Int) == 0)) = !(b1 == 0 && b2 == 0) := by cases b1 <;> cases b2 <;> rfl
  rw [hq] at hne
  clear hq
  generalize (!(b1 == 0 && b2 == 0)) = r at *
  go_enter Tryd.func78, Tryd.ntmps78
  go_wp2_with fail
  refine Bag.region (fun wx => Below (w.heap.size + 1) (w.alloc (.cells #[.int .u32 c1, .int .u32 c2] 42)) wx) (by kernel_rfl) (by kernel_rfl) (Below.refl _ _).drew ?_
  iterate 8 (first
      | (apply Bag.walk_yes (by rfl)
         (intro wx hx K hK
          obtain ⟨k0, k1⟩ := HBX.out _ hx
          first
            | (go_simp
               first
                | (go_at_call 88; refine (F.out _).mono ?_; rintro e x1 ⟨rfl, hb⟩; exact hK _ (hx.trans (hb.mono (size1 hx))))
                | (go_at_call 86; refine (G.out _).mono ?_; rintro e x1 ⟨rfl, hb⟩; exact hK _ (hx.trans (hb.mono (size1 hx))))
                | (go_at_K; exact hK _ hx)))
         rfl)
      | (refine Bag.walk_no (by rfl) ?_; simp only [Act.put, List.setIfInBounds_toArray, List.set_cons_succ, List.set_cons_zero]))
  refine Bag.walk_nil (fun w1 hB => ?_)
  go_wp2
  go_ret
  exact ⟨rfl, below_of_new hB⟩
end
end Go.Proofs.YtnjcegkefjdgdaaDoor
