/- Go's '==' of drives and of feedbacks. No statement of the seat is proved here. -/
import Derived.Test.YtmfinebkikhceaaRgM
import Derived.ChangeKeysEq
namespace Go.Proofs.Ytmfinebkikhceaa
open Go.RowKit

theorem fieldsRg : Try.prog.underlying 23 = some (.struct (Try.prog.fieldsOf 23)) := by kernel_rfl
theorem stoodRg : Try.prog.stoodInHeld 23 = false := by kernel_rfl
theorem listRg : (Try.prog.fieldsOf 23).toList = [{ name := "Floor", type := 3, offset := 0, embedded := false, tag := "", pkgPath := "", byteOffset := 0 }, { name := "Target", type := 3, offset := 1, embedded := false, tag := "", pkgPath := "", byteOffset := 8 }, { name := "Left", type := 3, offset := 2, embedded := false, tag := "", pkgPath := "", byteOffset := 16 }, { name := "Door", type := 3, offset := 3, embedded := false, tag := "", pkgPath := "", byteOffset := 24 }, { name := "Aim", type := 3, offset := 4, embedded := false, tag := "", pkgPath := "", byteOffset := 32 }, { name := "Ticks", type := 3, offset := 5, embedded := false, tag := "", pkgPath := "", byteOffset := 40 }] := by kernel_rfl
theorem equalRg (n : Nat) (a0 : Int) (a1 : Int) (a2 : Int) (a3 : Int) (a4 : Int) (a5 : Int) (b0 : Int) (b1 : Int) (b2 : Int) (b3 : Int) (b4 : Int) (b5 : Int) (w : World) : (Op.equalIn (n + 2) 23 (.agg #[.int .i64 a0, .int .i64 a1, .int .i64 a2, .int .i64 a3, .int .i64 a4, .int .i64 a5]) (.agg #[.int .i64 b0, .int .i64 b1, .int .i64 b2, .int .i64 b3, .int .i64 b4, .int .i64 b5])).run Try.prog w = .ok (Rg.eqB ⟨a0, a1, a2, a3, a4, a5⟩ ⟨b0, b1, b2, b3, b4, b5⟩) w := by
  rw [run_equalIn_struct w (n + 1) 23 _ _ fieldsRg stoodRg, listRg]
  have h0 := fun (xs : Array Value) off v => run_part_plain (P := Try.prog) w (e := 3) (off := off) (xs := xs) (v := v) (by kernel_rfl)
  have hi := fun k1 k2 => run_equalIn_int w n 3 .i64 .i64 k1 k2 Try.underlying3
  have p0 := fun (a0 : Int) (a1 : Int) (a2 : Int) (a3 : Int) (a4 : Int) (a5 : Int) => h0 #[.int .i64 a0, .int .i64 a1, .int .i64 a2, .int .i64 a3, .int .i64 a4, .int .i64 a5] 0 (.int .i64 a0) rfl
  have p1 := fun (a0 : Int) (a1 : Int) (a2 : Int) (a3 : Int) (a4 : Int) (a5 : Int) => h0 #[.int .i64 a0, .int .i64 a1, .int .i64 a2, .int .i64 a3, .int .i64 a4, .int .i64 a5] 1 (.int .i64 a1) rfl
  have p2 := fun (a0 : Int) (a1 : Int) (a2 : Int) (a3 : Int) (a4 : Int) (a5 : Int) => h0 #[.int .i64 a0, .int .i64 a1, .int .i64 a2, .int .i64 a3, .int .i64 a4, .int .i64 a5] 2 (.int .i64 a2) rfl
  have p3 := fun (a0 : Int) (a1 : Int) (a2 : Int) (a3 : Int) (a4 : Int) (a5 : Int) => h0 #[.int .i64 a0, .int .i64 a1, .int .i64 a2, .int .i64 a3, .int .i64 a4, .int .i64 a5] 3 (.int .i64 a3) rfl
  have p4 := fun (a0 : Int) (a1 : Int) (a2 : Int) (a3 : Int) (a4 : Int) (a5 : Int) => h0 #[.int .i64 a0, .int .i64 a1, .int .i64 a2, .int .i64 a3, .int .i64 a4, .int .i64 a5] 4 (.int .i64 a4) rfl
  have p5 := fun (a0 : Int) (a1 : Int) (a2 : Int) (a3 : Int) (a4 : Int) (a5 : Int) => h0 #[.int .i64 a0, .int .i64 a1, .int .i64 a2, .int .i64 a3, .int .i64 a4, .int .i64 a5] 5 (.int .i64 a5) rfl
  simp [Op.eqFields, p0, p1, p2, p3, p4, p5, hi, Rg.eqB]
  by_cases h1 : a0 = b0 <;> by_cases h2 : a1 = b1 <;> by_cases h3 : a2 = b2 <;> by_cases h4 : a3 = b3 <;> by_cases h5 : a4 = b4 <;> by_cases h6 : a5 = b5 <;> simp [h1, h2, h3, h4, h5, h6]
theorem eqlRg (x y : Rg) (w : World) : (binOp .eql 23 x.agg y.agg).run Try.prog w = .ok (.bool (Rg.eqB x y)) w := by
  have h := equalRg 9998 x.fl x.tg x.lf x.dd x.am x.tk y.fl y.tg y.lf y.dd y.am y.tk w
  show (binOp .eql 23 (.agg _) (.agg _)).run _ _ = _
  rw [run_eql_struct, h]; rfl
theorem neqRg (x y : Rg) (w : World) : (binOp .neq 23 x.agg y.agg).run Try.prog w = .ok (.bool (!Rg.eqB x y)) w := by
  have h := equalRg 9998 x.fl x.tg x.lf x.dd x.am x.tk y.fl y.tg y.lf y.dd y.am y.tk w
  show (binOp .neq 23 (.agg _) (.agg _)).run _ _ = _
  rw [run_neq_struct, h]; rfl
def Fb.eqB (x y : Fb) : Bool := x.fl == y.fl && (x.lv == y.lv && (x.dd == y.dd && x.bl == y.bl))
theorem Fb.eqB_self (x : Fb) : Fb.eqB x x = true := by unfold Fb.eqB; simp
theorem fieldsFb : Try.prog.underlying 32 = some (.struct (Try.prog.fieldsOf 32)) := by kernel_rfl
theorem stoodFb : Try.prog.stoodInHeld 32 = false := by kernel_rfl
theorem listFb : (Try.prog.fieldsOf 32).toList = [{ name := "Floor", type := 3, offset := 0, embedded := false, tag := "", pkgPath := "", byteOffset := 0 }, { name := "Level", type := 4, offset := 1, embedded := false, tag := "", pkgPath := "", byteOffset := 8 }, { name := "Door", type := 3, offset := 2, embedded := false, tag := "", pkgPath := "", byteOffset := 16 }, { name := "Block", type := 4, offset := 3, embedded := false, tag := "", pkgPath := "", byteOffset := 24 }] := by kernel_rfl
theorem equalFb (n : Nat) (a0 : Int) (a1 : Bool) (a2 : Int) (a3 : Bool) (b0 : Int) (b1 : Bool) (b2 : Int) (b3 : Bool) (w : World) : (Op.equalIn (n + 2) 32 (.agg #[.int .i64 a0, .bool a1, .int .i64 a2, .bool a3]) (.agg #[.int .i64 b0, .bool b1, .int .i64 b2, .bool b3])).run Try.prog w = .ok (Fb.eqB ⟨a0, a1, a2, a3⟩ ⟨b0, b1, b2, b3⟩) w := by
  rw [run_equalIn_struct w (n + 1) 32 _ _ fieldsFb stoodFb, listFb]
  have h0 := fun (xs : Array Value) off v => run_part_plain (P := Try.prog) w (e := 3) (off := off) (xs := xs) (v := v) (by kernel_rfl)
  have hi := fun k1 k2 => run_equalIn_int w n 3 .i64 .i64 k1 k2 Try.underlying3
  have g0 := fun (xs : Array Value) off v => run_part_plain (P := Try.prog) w (e := 4) (off := off) (xs := xs) (v := v) (by kernel_rfl)
  have hb := fun k1 k2 => run_equalIn_bool w n 4 k1 k2 Try.underlying4
  have p0 := fun (a0 : Int) (a1 : Bool) (a2 : Int) (a3 : Bool) => h0 #[.int .i64 a0, .bool a1, .int .i64 a2, .bool a3] 0 (.int .i64 a0) rfl
  have p1 := fun (a0 : Int) (a1 : Bool) (a2 : Int) (a3 : Bool) => g0 #[.int .i64 a0, .bool a1, .int .i64 a2, .bool a3] 1 (.bool a1) rfl
  have p2 := fun (a0 : Int) (a1 : Bool) (a2 : Int) (a3 : Bool) => h0 #[.int .i64 a0, .bool a1, .int .i64 a2, .bool a3] 2 (.int .i64 a2) rfl
  have p3 := fun (a0 : Int) (a1 : Bool) (a2 : Int) (a3 : Bool) => g0 #[.int .i64 a0, .bool a1, .int .i64 a2, .bool a3] 3 (.bool a3) rfl
  simp [Op.eqFields, p0, p1, p2, p3, hi, hb, Fb.eqB]
  by_cases h1 : a0 = b0 <;> by_cases h2 : a1 = b1 <;> by_cases h3 : a2 = b2 <;> by_cases h4 : a3 = b3 <;> simp [h1, h2, h3, h4]
theorem eqlFb (x y : Fb) (w : World) : (binOp .eql 32 x.agg y.agg).run Try.prog w = .ok (.bool (Fb.eqB x y)) w := by
  have h := equalFb 9998 x.fl x.lv x.dd x.bl y.fl y.lv y.dd y.bl w
  show (binOp .eql 32 (.agg _) (.agg _)).run _ _ = _
  rw [run_eql_struct, h]; rfl
theorem neqFb (x y : Fb) (w : World) : (binOp .neq 32 x.agg y.agg).run Try.prog w = .ok (.bool (!Fb.eqB x y)) w := by
  have h := equalFb 9998 x.fl x.lv x.dd x.bl y.fl y.lv y.dd y.bl w
  show (binOp .neq 32 (.agg _) (.agg _)).run _ _ = _
  rw [run_neq_struct, h]; rfl
end Go.Proofs.Ytmfinebkikhceaa
