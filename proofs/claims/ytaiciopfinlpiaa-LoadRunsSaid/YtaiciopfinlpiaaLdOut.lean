/- math.NaN, Inf, Copysign, Nextafter as the laws call them: some number comes back, nothing has changed. -/
import Derived.Test.YtaiciopfinlpiaaInf
import Derived.Test.YtaiciopfinlpiaaLdMath
namespace Go.Proofs.Ytaiciopfinlpiaa
open Go.RowKit

theorem bits_run (n : Nat) (w : World) : (callFunc 27 #[.float .f64 n]).run Try.prog w = .ok (.value (.int .u64 n)) w := by
  rw [run_callFunc_extern (e := Extern.MathFloatBits.float64bits) Try.func27 (by kernel_rfl) (by kernel_rfl) (by kernel_rfl) (by kernel_rfl)]
  rfl
theorem infm_any (w : World) : Calls Try.prog 19 #[.int .i64 (-1)] w fun e w' => e = .returned (.float .f64 18442240474082181120) ∧ w = w' := by
  have hr := frombits_run 18442240474082181120
  go_enter Try.func19, Try.ntmps19
  go_wp2
  go_ret
  exact ⟨rfl, rfl⟩
theorem nan_any (w : World) : Calls Try.prog 18 #[] w fun e w' => e = .returned (.float .f64 9221120237041090561) ∧ w = w' := by
  have hr := frombits_run 9221120237041090561
  go_enter Try.func18, Try.ntmps18
  go_wp2
  go_ret
  exact ⟨rfl, rfl⟩
theorem copysign_any (x y : Nat) (w : World) : Calls Try.prog 20 #[.float .f64 x, .float .f64 y] w fun e w' => (∃ r, e = .returned (.float .f64 r)) ∧ w = w' := by
  have hr := frombits_run
  have hb := bits_run
  go_enter Try.func20, Try.ntmps20
  go_wp2
  go_ret
  exact ⟨⟨_, rfl⟩, rfl⟩
theorem copysign_sane (w : World) : Calls Try.prog 20 #[.float .f64 0, .float .f64 13830554455654793216] w fun e w' => e = .returned (.float .f64 9223372036854775808) ∧ w = w' := by
  have hr := frombits_run
  have hb := bits_run
  go_enter Try.func20, Try.ntmps20
  go_wp2
  go_ret
  exact ⟨by first | rfl | decide, rfl⟩
theorem isNaN_any (x : Nat) (w : World) : Calls Try.prog 30 #[.float .f64 x] w fun e w' => e = .returned (.bool (nanB x)) ∧ w = w' := by
  have hn := ne_self x
  go_enter Try.func30, Try.ntmps30
  go_wp2
  go_ret
  exact ⟨rfl, rfl⟩
theorem nextafter_any (x y : Nat) (w : World) : Calls Try.prog 23 #[.float .f64 x, .float .f64 y] w fun e w' => (∃ r, e = .returned (.float .f64 r)) ∧ w = w' := by
  have hr := frombits_run
  have hb := bits_run
  rcases Bool.eq_false_or_eq_true (nanB x) with h1 | h1
  · go_enter Try.func23, Try.ntmps23
    go_wp2_with (first
      | (go_at_call 30; refine (isNaN_any _ _).mono ?_; rintro e w' ⟨rfl, rfl⟩)
      | (go_at_call 18; refine (nan_any _).mono ?_; rintro e w' ⟨rfl, rfl⟩))
    go_ret
    exact ⟨⟨_, rfl⟩, rfl⟩
  · rcases Bool.eq_false_or_eq_true (nanB y) with h2 | h2
    · go_enter Try.func23, Try.ntmps23
      go_wp2_with (first
        | (go_at_call 30; refine (isNaN_any _ _).mono ?_; rintro e w' ⟨rfl, rfl⟩)
        | (go_at_call 18; refine (nan_any _).mono ?_; rintro e w' ⟨rfl, rfl⟩))
      go_ret
      exact ⟨⟨_, rfl⟩, rfl⟩
    · obtain ⟨q1, h3⟩ : ∃ q, (FloatKind.f64.format.order x y == some .eq) = q := ⟨_, rfl⟩
      obtain ⟨q2, h4⟩ : ∃ q, (FloatKind.f64.format.order x 0 == some .eq) = q := ⟨_, rfl⟩
      obtain ⟨q3, h5⟩ : ∃ q, (FloatKind.f64.format.order y x == some .gt) = q := ⟨_, rfl⟩
      obtain ⟨q4, h6⟩ : ∃ q, (FloatKind.f64.format.order x 0 == some .gt) = q := ⟨_, rfl⟩
      cases q1 <;> cases q2 <;> cases q3 <;> cases q4
      all_goals
        go_enter Try.func23, Try.ntmps23
        go_wp2_with (first
          | (go_at_call 30; refine (isNaN_any _ _).mono ?_; rintro e w' ⟨rfl, rfl⟩)
          | (go_at_call 20; refine (copysign_any _ _ _).mono ?_; rintro e w' ⟨⟨r, rfl⟩, rfl⟩))
        go_ret
        exact ⟨⟨_, rfl⟩, rfl⟩
end Go.Proofs.Ytaiciopfinlpiaa
