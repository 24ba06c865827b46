/- What the texts behind this one rest on: several texts in one. No statement of the seat is proved here. -/
import Derived.Test.YtnjcegkefjdgdaaDoorG2
import Derived.ChangeKeysEq
import Derived.Test.YtnjcegkefjdgdaaDoorG8
import Derived.Test.YtnjcegkefjdgdaaDoorG4
import Derived.Lib.TrailingZeros
import Derived.Test.YtnjcegkefjdgdaaDoorBag
namespace Go.Proofs.YtnjcegkefjdgdaaDoor
section
open Go.RowKit

theorem fieldsDr : Tryd.prog.underlying 33 = some (.struct (Tryd.prog.fieldsOf 33)) := by kernel_rfl
theorem stoodDr : Tryd.prog.stoodInHeld 33 = false := by kernel_rfl
theorem listDr : (Tryd.prog.fieldsOf 33).toList = [{ name := "Stage", type := 3, offset := 0, embedded := false, tag := "", pkgPath := "", byteOffset := 0 }, { name := "Time", type := 3, offset := 1, embedded := false, tag := "", pkgPath := "", byteOffset := 8 }, { name := "Since", type := 3, offset := 2, embedded := false, tag := "", pkgPath := "", byteOffset := 16 }, { name := "Nudge", type := 4, offset := 3, embedded := false, tag := "", pkgPath := "", byteOffset := 24 }, { name := "Cycles", type := 3, offset := 4, embedded := false, tag := "", pkgPath := "", byteOffset := 32 }] := by kernel_rfl
theorem equalDr (n : Nat) (a b c : Int) (d : Bool) (e a' b' c' : Int) (d' : Bool) (e' : Int) (w : World) : (Op.equalIn (n + 2) 33 (.agg #[.int .i64 a, .int .i64 b, .int .i64 c, .bool d, .int .i64 e]) (.agg #[.int .i64 a', .int .i64 b', .int .i64 c', .bool d', .int .i64 e'])).run Tryd.prog w = .ok (Dr.same ⟨a, b, c, d, e⟩ ⟨a', b', c', d', e'⟩) w := by
  rw [run_equalIn_struct w (n + 1) 33 _ _ fieldsDr stoodDr, listDr]
  have h0 := fun (xs : Array Value) off v => run_part_plain (P := Tryd.prog) w (e := 3) (off := off) (xs := xs) (v := v) (by kernel_rfl)
  have h1 := fun (xs : Array Value) off v => run_part_plain (P := Tryd.prog) w (e := 4) (off := off) (xs := xs) (v := v) (by kernel_rfl)
  have hi := fun k1 k2 => run_equalIn_int w n 3 .i64 .i64 k1 k2 Tryd.underlying3
  have hb := fun b1 b2 => run_equalIn_bool w n 4 b1 b2 Tryd.underlying4
  have p0 := fun a b c e f => h0 #[a, b, c, e, f] 0 a rfl
  have p1 := fun a b c e f => h0 #[a, b, c, e, f] 1 b rfl
  have p2 := fun a b c e f => h0 #[a, b, c, e, f] 2 c rfl
  have p3 := fun a b c e f => h1 #[a, b, c, e, f] 3 e rfl
  have p4 := fun a b c e f => h0 #[a, b, c, e, f] 4 f rfl
  simp [Op.eqFields, p0, p1, p2, p3, p4, hi, hb, Dr.same]
  by_cases h1 : a = a' <;> by_cases h2 : b = b' <;> by_cases h3 : c = c' <;> by_cases h4 : d = d' <;> by_cases h5 : e = e' <;> simp [h1, h2, h3, h4, h5]
theorem eqlDr (a b c : Int) (d : Bool) (e a' b' c' : Int) (d' : Bool) (e' : Int) (w : World) : (binOp .eql 33 (.agg #[.int .i64 a, .int .i64 b, .int .i64 c, .bool d, .int .i64 e]) (.agg #[.int .i64 a', .int .i64 b', .int .i64 c', .bool d', .int .i64 e'])).run Tryd.prog w = .ok (.bool (Dr.same ⟨a, b, c, d, e⟩ ⟨a', b', c', d', e'⟩)) w := by
  rw [run_eql_struct, equalDr 9998]; rfl
end

section
open Go.RowKit
end

section
open Go.RowKit
theorem iwithin_any (a b x : Int) (w : World) :
    Calls Tryd.prog 62 #[.int .i64 a, .int .i64 b, .int .i64 x] w fun e w' => e = .returned (.bool (decide (a ≤ x ∧ x ≤ b))) ∧ w' = w := by
  by_cases h1 : a ≤ x
  · by_cases h2 : x ≤ b
    · rw [decide_eq_true (show a ≤ x ∧ x ≤ b from ⟨h1, h2⟩)]
      go_enter Tryd.func62, Tryd.ntmps62
      go_wp2
      go_ret
      exact ⟨rfl, rfl⟩
    · rw [decide_eq_false (show ¬ (a ≤ x ∧ x ≤ b) from fun h => h2 h.2)]
      go_enter Tryd.func62, Tryd.ntmps62
      go_wp2
      go_ret
      exact ⟨rfl, rfl⟩
  · rw [decide_eq_false (show ¬ (a ≤ x ∧ x ≤ b) from fun h => h1 h.1)]
    go_enter Tryd.func62, Tryd.ntmps62
    go_wp2
    go_ret
    exact ⟨rfl, rfl⟩
theorem areFloors_any (n : Int) (w : World) :
    Calls Tryd.prog 61 #[.int .i64 n] w fun e w' => e = .returned (.bool (Ind.okF n)) ∧ w' = w := by
  have F := Lib.hid (fun w => iwithin_any 2 32 n w)
  unfold Ind.okF
  generalize decide (2 ≤ n ∧ n ≤ 32) = z at *
  go_enter Tryd.func61, Tryd.ntmps61
  go_wp2_with fail
  refine (F.out _).mono ?_
  rintro e x ⟨rfl, rfl⟩
  go_wp2
  go_ret
  exact ⟨rfl, rfl⟩
end
end Go.Proofs.YtnjcegkefjdgdaaDoor
