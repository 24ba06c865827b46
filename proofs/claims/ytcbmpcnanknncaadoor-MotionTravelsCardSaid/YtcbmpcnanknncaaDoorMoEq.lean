/- Go's '==' of motions; IsState by cases. No statement of the seat is proved here. -/
import Derived.Test.YtcbmpcnanknncaaDoorMoMath
import Derived.ChangeKeysEq
namespace Go.Proofs.YtcbmpcnanknncaaDoor
open Go.RowKit

theorem fieldsMo : Tryd.prog.underlying 23 = some (.struct (Tryd.prog.fieldsOf 23)) := by kernel_rfl
theorem stoodMo : Tryd.prog.stoodInHeld 23 = false := by kernel_rfl
theorem listMo : (Tryd.prog.fieldsOf 23).toList = [{ name := "Command", type := 3, offset := 0, embedded := false, tag := "", pkgPath := "", byteOffset := 0 }, { name := "Time", type := 3, offset := 1, embedded := false, tag := "", pkgPath := "", byteOffset := 8 }, { name := "Floor", type := 3, offset := 2, embedded := false, tag := "", pkgPath := "", byteOffset := 16 }] := by kernel_rfl
theorem equalMo (n : Nat) (a b c a' b' c' : Int) (w : World) : (Op.equalIn (n + 2) 23 (.agg #[.int .i64 a, .int .i64 b, .int .i64 c]) (.agg #[.int .i64 a', .int .i64 b', .int .i64 c'])).run Tryd.prog w = .ok (Mo.same ⟨a, b, c⟩ ⟨a', b', c'⟩) w := by
  rw [run_equalIn_struct w (n + 1) 23 _ _ fieldsMo stoodMo, listMo]
  have h0 := fun (xs : Array Value) off v => run_part_plain (P := Tryd.prog) w (e := 3) (off := off) (xs := xs) (v := v) (by kernel_rfl)
  have hi := fun k1 k2 => run_equalIn_int w n 3 .i64 .i64 k1 k2 Tryd.underlying3
  have p0 := fun a b c => h0 #[a, b, c] 0 a rfl
  have p1 := fun a b c => h0 #[a, b, c] 1 b rfl
  have p2 := fun a b c => h0 #[a, b, c] 2 c rfl
  simp [Op.eqFields, p0, p1, p2, hi, Mo.same]
  by_cases h1 : a = a' <;> by_cases h2 : b = b' <;> by_cases h3 : c = c' <;> simp [h1, h2, h3]
theorem eqlMo (a b c a' b' c' : Int) (w : World) : (binOp .eql 23 (.agg #[.int .i64 a, .int .i64 b, .int .i64 c]) (.agg #[.int .i64 a', .int .i64 b', .int .i64 c'])).run Tryd.prog w = .ok (.bool (Mo.same ⟨a, b, c⟩ ⟨a', b', c'⟩)) w := by
  rw [run_eql_struct, equalMo 9998]; rfl
theorem neqMo (a b c a' b' c' : Int) (w : World) : (binOp .neq 23 (.agg #[.int .i64 a, .int .i64 b, .int .i64 c]) (.agg #[.int .i64 a', .int .i64 b', .int .i64 c'])).run Tryd.prog w = .ok (.bool (!Mo.same ⟨a, b, c⟩ ⟨a', b', c'⟩)) w := by
  rw [run_neq_struct, equalMo 9998]; rfl
namespace Mo
theorem isB_bad {F a b c : Int} (h : F < 2 ∨ 32 < F ∨ b < 0 ∨ 1000000 < b) : isB F ⟨a, b, c⟩ = false := by
  cases hc : isB F ⟨a, b, c⟩
  · rfl
  · unfold isB at hc
    simp at hc
    omega
theorem isB_c {F a b c : Int} (hF : 2 ≤ F ∧ F ≤ 32) (hb : 0 ≤ b ∧ b ≤ 1000000) : isB F ⟨a, b, c⟩ = if a = 0 then c == 0 else if a = 1 ∨ a = 2 then isF F c && isF F (tgt ⟨a, b, c⟩) else false := by
  unfold isB
  rw [show decide (2 ≤ F) = true from decide_eq_true hF.1, show decide (F ≤ 32) = true from decide_eq_true hF.2, show decide (0 ≤ b) = true from decide_eq_true hb.1, show decide (b ≤ 1000000) = true from decide_eq_true hb.2]
  simp
theorem isB_range {F a b c : Int} (h : isB F ⟨a, b, c⟩ = true) : (2 ≤ F ∧ F ≤ 32) ∧ (0 ≤ b ∧ b ≤ 1000000) ∧ (a = 0 ∧ c = 0 ∨ (a = 1 ∨ a = 2) ∧ isF F c = true ∧ isF F (tgt ⟨a, b, c⟩) = true) := by
  have h1 : (2 ≤ F ∧ F ≤ 32) ∧ (0 ≤ b ∧ b ≤ 1000000) := by
    refine ⟨⟨?_, ?_⟩, ?_, ?_⟩
    all_goals
      refine Decidable.byContradiction fun hn => ?_
      rw [isB_bad (by omega)] at h
      cases h
  refine ⟨h1.1, h1.2, ?_⟩
  rw [isB_c h1.1 h1.2] at h
  by_cases h0 : a = 0
  · rw [if_pos h0] at h
    exact .inl ⟨h0, by simpa using h⟩
  · rw [if_neg h0] at h
    by_cases h2 : a = 1 ∨ a = 2
    · rw [if_pos h2] at h
      exact .inr ⟨h2, by simpa using h⟩
    · rw [if_neg h2] at h
      cases h
theorem isF_iff {F n : Int} : isF F n = true ↔ 0 ≤ n ∧ n < F := by unfold isF; simp
end Mo
end Go.Proofs.YtcbmpcnanknncaaDoor
