/- Go's '==' of sets of calls and of entries. No statement of the seat is proved here. -/
import Derived.Test.YtclkfclbnapamaaCsMath
import Derived.ChangeKeysEq
namespace Go.Proofs.Ytclkfclbnapamaa
open Go.RowKit

theorem fieldsCs : Try.prog.underlying 24 = some (.struct (Try.prog.fieldsOf 24)) := by kernel_rfl
theorem stoodCs : Try.prog.stoodInHeld 24 = false := by kernel_rfl
theorem listCs : (Try.prog.fieldsOf 24).toList = [{ name := "Up", type := 22, offset := 0, embedded := false, tag := "", pkgPath := "", byteOffset := 0 }, { name := "Down", type := 22, offset := 1, embedded := false, tag := "", pkgPath := "", byteOffset := 4 }] := by kernel_rfl
theorem plainU32 : Try.prog.underlying 22 = some (.int .u32) := Try.underlying22
theorem equalCs (d : Nat) (x1 x2 y1 y2 : Int) (w : World) : (Op.equalIn (d + 2) 24 (.agg #[.int .u32 x1, .int .u32 x2]) (.agg #[.int .u32 y1, .int .u32 y2])).run Try.prog w = .ok (x1 == y1 && x2 == y2) w := by
  rw [run_equalIn_struct w (d + 1) 24 _ _ fieldsCs stoodCs, listCs]
  have h0 := fun (xs : Array Value) off v => run_part_plain (P := Try.prog) w (e := 22) (off := off) (xs := xs) (v := v) (by kernel_rfl)
  have hi := fun k1 k2 => run_equalIn_int w d 22 .u32 .u32 k1 k2 Try.underlying22
  have p0 := fun a b => h0 #[a, b] 0 a rfl
  have p1 := fun a b => h0 #[a, b] 1 b rfl
  simp [Op.eqFields, p0, p1, hi]
  by_cases hx : x1 = y1 <;> by_cases hy : x2 = y2 <;> simp [hx, hy]
theorem eqlCs (x1 x2 y1 y2 : Int) (w : World) : (binOp .eql 24 (.agg #[.int .u32 x1, .int .u32 x2]) (.agg #[.int .u32 y1, .int .u32 y2])).run Try.prog w = .ok (.bool (x1 == y1 && x2 == y2)) w := by
  rw [run_eql_struct, equalCs 9998]; rfl
theorem neqCs (x1 x2 y1 y2 : Int) (w : World) : (binOp .neq 24 (.agg #[.int .u32 x1, .int .u32 x2]) (.agg #[.int .u32 y1, .int .u32 y2])).run Try.prog w = .ok (.bool (!(x1 == y1 && x2 == y2))) w := by
  rw [run_neq_struct, equalCs 9998]; rfl
theorem eqlSame (a : Cs) (w : World) : (binOp .eql 24 (.agg #[.int .u32 a.up, .int .u32 a.dn]) (.agg #[.int .u32 a.up, .int .u32 a.dn])).run Try.prog w = .ok (.bool true) w := by
  rw [eqlCs]; simp
theorem neqSame (a : Cs) (w : World) : (binOp .neq 24 (.agg #[.int .u32 a.up, .int .u32 a.dn]) (.agg #[.int .u32 a.up, .int .u32 a.dn])).run Try.prog w = .ok (.bool false) w := by
  rw [neqCs]; simp

theorem fieldsEn : Try.prog.underlying 38 = some (.struct (Try.prog.fieldsOf 38)) := by kernel_rfl
theorem stoodEn : Try.prog.stoodInHeld 38 = false := by kernel_rfl
theorem listEn : (Try.prog.fieldsOf 38).toList = [{ name := "Floor", type := 3, offset := 0, embedded := false, tag := "", pkgPath := "", byteOffset := 0 }, { name := "Dir", type := 3, offset := 1, embedded := false, tag := "", pkgPath := "", byteOffset := 8 }, { name := "Car", type := 3, offset := 2, embedded := false, tag := "", pkgPath := "", byteOffset := 16 }, { name := "Moves", type := 3, offset := 3, embedded := false, tag := "", pkgPath := "", byteOffset := 24 }, { name := "Moved", type := 4, offset := 4, embedded := false, tag := "", pkgPath := "", byteOffset := 32 }] := by kernel_rfl
theorem equalEn (d : Nat) (e : En) (w : World) : (Op.equalIn (d + 2) 38 (.agg e.cells.toArray) (.agg e.cells.toArray)).run Try.prog w = .ok true w := by
  rw [run_equalIn_struct w (d + 1) 38 _ _ fieldsEn stoodEn, listEn]
  unfold En.cells
  have h0 := fun (xs : Array Value) off v => run_part_plain (P := Try.prog) w (e := 3) (off := off) (xs := xs) (v := v) (by kernel_rfl)
  have h1 := fun (xs : Array Value) off v => run_part_plain (P := Try.prog) w (e := 4) (off := off) (xs := xs) (v := v) (by kernel_rfl)
  have hi := fun k1 k2 => run_equalIn_int w d 3 .i64 .i64 k1 k2 Try.underlying3
  have hb := fun b1 b2 => run_equalIn_bool w d 4 b1 b2 Try.underlying4
  have p0 := fun a b c e f => h0 #[a, b, c, e, f] 0 a rfl
  have p1 := fun a b c e f => h0 #[a, b, c, e, f] 1 b rfl
  have p2 := fun a b c e f => h0 #[a, b, c, e, f] 2 c rfl
  have p3 := fun a b c e f => h0 #[a, b, c, e, f] 3 e rfl
  have p4 := fun a b c e f => h1 #[a, b, c, e, f] 4 f rfl
  simp [Op.eqFields, p0, p1, p2, p3, p4, hi, hb]
theorem eqlEn (e : En) (w : World) : (binOp .eql 38 (.agg e.cells.toArray) (.agg e.cells.toArray)).run Try.prog w = .ok (.bool true) w := by
  rw [run_eql_struct, equalEn 9998]; rfl
theorem neqEn (e : En) (w : World) : (binOp .neq 38 (.agg e.cells.toArray) (.agg e.cells.toArray)).run Try.prog w = .ok (.bool false) w := by
  rw [run_neq_struct, equalEn 9998]; rfl
end Go.Proofs.Ytclkfclbnapamaa
