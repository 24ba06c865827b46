/- Go's '==' of doors' states. No statement of the seat is proved here. -/
import Derived.Test.YthniolaeicmjlaaDrMath
import Derived.ChangeKeysEq
namespace Go.Proofs.Ythniolaeicmjlaa
open Go.RowKit

theorem fieldsDr : Try.prog.underlying 25 = some (.struct (Try.prog.fieldsOf 25)) := by kernel_rfl
theorem stoodDr : Try.prog.stoodInHeld 25 = false := by kernel_rfl
theorem listDr : (Try.prog.fieldsOf 25).toList = [{ name := "Stage", type := 3, offset := 0, embedded := false, tag := "", pkgPath := "", byteOffset := 0 }, { name := "Time", type := 3, offset := 1, embedded := false, tag := "", pkgPath := "", byteOffset := 8 }, { name := "Since", type := 3, offset := 2, embedded := false, tag := "", pkgPath := "", byteOffset := 16 }, { name := "Nudge", type := 4, offset := 3, embedded := false, tag := "", pkgPath := "", byteOffset := 24 }, { name := "Cycles", type := 3, offset := 4, embedded := false, tag := "", pkgPath := "", byteOffset := 32 }] := by kernel_rfl
theorem equalDr (n : Nat) (a b c : Int) (d : Bool) (e a' b' c' : Int) (d' : Bool) (e' : Int) (w : World) : (Op.equalIn (n + 2) 25 (.agg #[.int .i64 a, .int .i64 b, .int .i64 c, .bool d, .int .i64 e]) (.agg #[.int .i64 a', .int .i64 b', .int .i64 c', .bool d', .int .i64 e'])).run Try.prog w = .ok (Dr.same ⟨a, b, c, d, e⟩ ⟨a', b', c', d', e'⟩) w := by
  rw [run_equalIn_struct w (n + 1) 25 _ _ fieldsDr stoodDr, listDr]
  have h0 := fun (xs : Array Value) off v => run_part_plain (P := Try.prog) w (e := 3) (off := off) (xs := xs) (v := v) (by kernel_rfl)
  have h1 := fun (xs : Array Value) off v => run_part_plain (P := Try.prog) w (e := 4) (off := off) (xs := xs) (v := v) (by kernel_rfl)
  have hi := fun k1 k2 => run_equalIn_int w n 3 .i64 .i64 k1 k2 Try.underlying3
  have hb := fun b1 b2 => run_equalIn_bool w n 4 b1 b2 Try.underlying4
  have p0 := fun a b c e f => h0 #[a, b, c, e, f] 0 a rfl
  have p1 := fun a b c e f => h0 #[a, b, c, e, f] 1 b rfl
  have p2 := fun a b c e f => h0 #[a, b, c, e, f] 2 c rfl
  have p3 := fun a b c e f => h1 #[a, b, c, e, f] 3 e rfl
  have p4 := fun a b c e f => h0 #[a, b, c, e, f] 4 f rfl
  simp [Op.eqFields, p0, p1, p2, p3, p4, hi, hb, Dr.same]
  by_cases h1 : a = a' <;> by_cases h2 : b = b' <;> by_cases h3 : c = c' <;> by_cases h4 : d = d' <;> by_cases h5 : e = e' <;> simp [h1, h2, h3, h4, h5]
theorem eqlDr (a b c : Int) (d : Bool) (e a' b' c' : Int) (d' : Bool) (e' : Int) (w : World) : (binOp .eql 25 (.agg #[.int .i64 a, .int .i64 b, .int .i64 c, .bool d, .int .i64 e]) (.agg #[.int .i64 a', .int .i64 b', .int .i64 c', .bool d', .int .i64 e'])).run Try.prog w = .ok (.bool (Dr.same ⟨a, b, c, d, e⟩ ⟨a', b', c', d', e'⟩)) w := by
  rw [run_eql_struct, equalDr 9998]; rfl
theorem neqDr (a b c : Int) (d : Bool) (e a' b' c' : Int) (d' : Bool) (e' : Int) (w : World) : (binOp .neq 25 (.agg #[.int .i64 a, .int .i64 b, .int .i64 c, .bool d, .int .i64 e]) (.agg #[.int .i64 a', .int .i64 b', .int .i64 c', .bool d', .int .i64 e'])).run Try.prog w = .ok (.bool (!Dr.same ⟨a, b, c, d, e⟩ ⟨a', b', c', d', e'⟩)) w := by
  rw [run_neq_struct, equalDr 9998]; rfl
end Go.Proofs.Ythniolaeicmjlaa
