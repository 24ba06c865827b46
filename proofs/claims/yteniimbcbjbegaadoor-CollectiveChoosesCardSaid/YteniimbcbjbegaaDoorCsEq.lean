/- Go's '==' of sets of calls and of entries. No statement of the seat is proved here. -/
import Derived.Test.YteniimbcbjbegaaDoorCsMath
import Derived.ChangeKeysEq
namespace Go.Proofs.YteniimbcbjbegaaDoor
open Go.RowKit

theorem fieldsCs : Tryd.prog.underlying 28 = some (.struct (Tryd.prog.fieldsOf 28)) := by kernel_rfl
theorem stoodCs : Tryd.prog.stoodInHeld 28 = false := by kernel_rfl
theorem listCs : (Tryd.prog.fieldsOf 28).toList = [{ name := "Up", type := 26, offset := 0, embedded := false, tag := "", pkgPath := "", byteOffset := 0 }, { name := "Down", type := 26, offset := 1, embedded := false, tag := "", pkgPath := "", byteOffset := 4 }] := by kernel_rfl
theorem plainU32 : Tryd.prog.underlying 26 = some (.int .u32) := Tryd.underlying26
theorem equalCs (d : Nat) (x1 x2 y1 y2 : Int) (w : World) : (Op.equalIn (d + 2) 28 (.agg #[.int .u32 x1, .int .u32 x2]) (.agg #[.int .u32 y1, .int .u32 y2])).run Tryd.prog w = .ok (x1 == y1 && x2 == y2) w := by
  rw [run_equalIn_struct w (d + 1) 28 _ _ fieldsCs stoodCs, listCs]
  have h0 := fun (xs : Array Value) off v => run_part_plain (P := Tryd.prog) w (e := 26) (off := off) (xs := xs) (v := v) (by kernel_rfl)
  have hi := fun k1 k2 => run_equalIn_int w d 26 .u32 .u32 k1 k2 Tryd.underlying26
  have p0 := fun a b => h0 #[a, b] 0 a rfl
  have p1 := fun a b => h0 #[a, b] 1 b rfl
  simp [Op.eqFields, p0, p1, hi]
  by_cases hx : x1 = y1 <;> by_cases hy : x2 = y2 <;> simp [hx, hy]
theorem eqlCs (x1 x2 y1 y2 : Int) (w : World) : (binOp .eql 28 (.agg #[.int .u32 x1, .int .u32 x2]) (.agg #[.int .u32 y1, .int .u32 y2])).run Tryd.prog w = .ok (.bool (x1 == y1 && x2 == y2)) w := by
  rw [run_eql_struct, equalCs 9998]; rfl
theorem neqCs (x1 x2 y1 y2 : Int) (w : World) : (binOp .neq 28 (.agg #[.int .u32 x1, .int .u32 x2]) (.agg #[.int .u32 y1, .int .u32 y2])).run Tryd.prog w = .ok (.bool (!(x1 == y1 && x2 == y2))) w := by
  rw [run_neq_struct, equalCs 9998]; rfl
theorem eqlSame (a : Cs) (w : World) : (binOp .eql 28 (.agg #[.int .u32 a.up, .int .u32 a.dn]) (.agg #[.int .u32 a.up, .int .u32 a.dn])).run Tryd.prog w = .ok (.bool true) w := by
  rw [eqlCs]; simp
theorem neqSame (a : Cs) (w : World) : (binOp .neq 28 (.agg #[.int .u32 a.up, .int .u32 a.dn]) (.agg #[.int .u32 a.up, .int .u32 a.dn])).run Tryd.prog w = .ok (.bool false) w := by
  rw [neqCs]; simp

end Go.Proofs.YteniimbcbjbegaaDoor
