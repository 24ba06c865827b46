/- Go's '==' of stops, choices and sweeps. No statement of the seat is proved here. -/
import Derived.Test.YteniimbcbjbegaaDoorCvMath
import Derived.Test.YteniimbcbjbegaaDoorCsEq
import Derived.DeepKeys
namespace Go.Proofs.YteniimbcbjbegaaDoor
open Go.RowKit

theorem run_part_struct {P : Program} (w : World) {e : TypeId} {fs : Array Field} {off : Nat} {xs : Array Value} (hu : P.underlying e = some (.struct fs)) :
    (part e xs off).run P w = .ok (.agg (xs.extract off (off + P.cellsOf e))) w := by
  obtain ⟨i, hi⟩ := info_of_underlying hu
  simp [part, isAgg, run_underlying hu, run_sizeOf w hi]
theorem fieldsSt : Tryd.prog.underlying 30 = some (.struct (Tryd.prog.fieldsOf 30)) := by kernel_rfl
theorem stoodSt : Tryd.prog.stoodInHeld 30 = false := by kernel_rfl
theorem listSt : (Tryd.prog.fieldsOf 30).toList = [{ name := "Car", type := 26, offset := 0, embedded := false, tag := "", pkgPath := "", byteOffset := 0 }, { name := "Hall", type := 28, offset := 1, embedded := false, tag := "", pkgPath := "", byteOffset := 4 }] := by kernel_rfl
theorem cellsCs : Tryd.prog.cellsOf 28 = 2 := by kernel_rfl
theorem equalSt (d : Nat) (x0 x1 x2 y0 y1 y2 : Int) (w : World) : (Op.equalIn (d + 3) 30 (.agg #[.int .u32 x0, .int .u32 x1, .int .u32 x2]) (.agg #[.int .u32 y0, .int .u32 y1, .int .u32 y2])).run Tryd.prog w = .ok (x0 == y0 && (x1 == y1 && x2 == y2)) w := by
  rw [run_equalIn_struct w (d + 2) 30 _ _ fieldsSt stoodSt, listSt]
  have h0 := fun (xs : Array Value) off v => run_part_plain (P := Tryd.prog) w (e := 26) (off := off) (xs := xs) (v := v) (by kernel_rfl)
  have hi := fun k1 k2 => run_equalIn_int w (d + 1) 26 .u32 .u32 k1 k2 Tryd.underlying26
  have p0 := fun a b c => h0 #[a, b, c] 0 a rfl
  have p1 : ∀ a b c : Value, (part 28 #[a, b, c] 1).run Tryd.prog w = .ok (.agg #[b, c]) w := fun a b c => by
    rw [run_part_struct w fieldsCs, cellsCs]
    rfl
  have hc := equalCs d x1 x2 y1 y2 w
  simp [Op.eqFields, p0, p1, hi, hc]
  by_cases hx : x0 = y0 <;> by_cases hy : x1 = y1 <;> by_cases hz : x2 = y2 <;> simp [hx, hy, hz]
theorem eqlSt (x0 x1 x2 y0 y1 y2 : Int) (w : World) : (binOp .eql 30 (.agg #[.int .u32 x0, .int .u32 x1, .int .u32 x2]) (.agg #[.int .u32 y0, .int .u32 y1, .int .u32 y2])).run Tryd.prog w = .ok (.bool (x0 == y0 && (x1 == y1 && x2 == y2))) w := by
  rw [run_eql_struct, equalSt 9997]; rfl
theorem fieldsCh : Tryd.prog.underlying 38 = some (.struct (Tryd.prog.fieldsOf 38)) := by kernel_rfl
theorem stoodCh : Tryd.prog.stoodInHeld 38 = false := by kernel_rfl
theorem listCh : (Tryd.prog.fieldsOf 38).toList = [{ name := "Do", type := 3, offset := 0, embedded := false, tag := "", pkgPath := "", byteOffset := 0 }, { name := "Dir", type := 3, offset := 1, embedded := false, tag := "", pkgPath := "", byteOffset := 8 }, { name := "Shown", type := 3, offset := 2, embedded := false, tag := "", pkgPath := "", byteOffset := 16 }] := by kernel_rfl
theorem equalCh (d : Nat) (x0 x1 x2 y0 y1 y2 : Int) (w : World) : (Op.equalIn (d + 2) 38 (.agg #[.int .i64 x0, .int .i64 x1, .int .i64 x2]) (.agg #[.int .i64 y0, .int .i64 y1, .int .i64 y2])).run Tryd.prog w = .ok (x0 == y0 && (x1 == y1 && x2 == y2)) w := by
  rw [run_equalIn_struct w (d + 1) 38 _ _ fieldsCh stoodCh, listCh]
  have h0 := fun (xs : Array Value) off v => run_part_plain (P := Tryd.prog) w (e := 3) (off := off) (xs := xs) (v := v) (by kernel_rfl)
  have hi := fun k1 k2 => run_equalIn_int w d 3 .i64 .i64 k1 k2 Tryd.underlying3
  have p0 := fun a b c => h0 #[a, b, c] 0 a rfl
  have p1 := fun a b c => h0 #[a, b, c] 1 b rfl
  have p2 := fun a b c => h0 #[a, b, c] 2 c rfl
  simp [Op.eqFields, p0, p1, p2, hi]
  by_cases hx : x0 = y0 <;> by_cases hy : x1 = y1 <;> by_cases hz : x2 = y2 <;> simp [hx, hy, hz]
theorem eqlCh (x0 x1 x2 y0 y1 y2 : Int) (w : World) : (binOp .eql 38 (.agg #[.int .i64 x0, .int .i64 x1, .int .i64 x2]) (.agg #[.int .i64 y0, .int .i64 y1, .int .i64 y2])).run Tryd.prog w = .ok (.bool (x0 == y0 && (x1 == y1 && x2 == y2))) w := by
  rw [run_eql_struct, equalCh 9998]; rfl
theorem neqCh (x0 x1 x2 y0 y1 y2 : Int) (w : World) : (binOp .neq 38 (.agg #[.int .i64 x0, .int .i64 x1, .int .i64 x2]) (.agg #[.int .i64 y0, .int .i64 y1, .int .i64 y2])).run Tryd.prog w = .ok (.bool (!(x0 == y0 && (x1 == y1 && x2 == y2)))) w := by
  rw [run_neq_struct, equalCh 9998]; rfl
theorem fieldsSw : Tryd.prog.underlying 23 = some (.struct (Tryd.prog.fieldsOf 23)) := by kernel_rfl
theorem stoodSw : Tryd.prog.stoodInHeld 23 = false := by kernel_rfl
theorem listSw : (Tryd.prog.fieldsOf 23).toList = [{ name := "Dir", type := 3, offset := 0, embedded := false, tag := "", pkgPath := "", byteOffset := 0 }, { name := "Opened", type := 3, offset := 1, embedded := false, tag := "", pkgPath := "", byteOffset := 8 }] := by kernel_rfl
theorem equalSw (d : Nat) (x0 x1 y0 y1 : Int) (w : World) : (Op.equalIn (d + 2) 23 (.agg #[.int .i64 x0, .int .i64 x1]) (.agg #[.int .i64 y0, .int .i64 y1])).run Tryd.prog w = .ok (x0 == y0 && x1 == y1) w := by
  rw [run_equalIn_struct w (d + 1) 23 _ _ fieldsSw stoodSw, listSw]
  have h0 := fun (xs : Array Value) off v => run_part_plain (P := Tryd.prog) w (e := 3) (off := off) (xs := xs) (v := v) (by kernel_rfl)
  have hi := fun k1 k2 => run_equalIn_int w d 3 .i64 .i64 k1 k2 Tryd.underlying3
  have p0 := fun a b => h0 #[a, b] 0 a rfl
  have p1 := fun a b => h0 #[a, b] 1 b rfl
  simp [Op.eqFields, p0, p1, hi]
  by_cases hx : x0 = y0 <;> by_cases hy : x1 = y1 <;> simp [hx, hy]
theorem eqlSw (x0 x1 y0 y1 : Int) (w : World) : (binOp .eql 23 (.agg #[.int .i64 x0, .int .i64 x1]) (.agg #[.int .i64 y0, .int .i64 y1])).run Tryd.prog w = .ok (.bool (x0 == y0 && x1 == y1)) w := by
  rw [run_eql_struct, equalSw 9998]; rfl
end Go.Proofs.YteniimbcbjbegaaDoor
