/- math.Inf, math.NaN, math.Copysign as the law's calls use them; math.Float64frombits is the model's own entry. -/
import Derived.Test.YtgfejleemacabaaMem
namespace Go.Proofs.Ytgfejleemacabaa
open Go.RowKit

theorem frombits_run (n : Int) (w : World) : (callFunc 24 #[.int .u64 n]).run Try.prog w = .ok (.value (.float .f64 n.toNat)) w := by
  rw [run_callFunc_extern (e := Extern.MathFloatBits.float64frombits) Try.func24 (by kernel_rfl) (by kernel_rfl) (by kernel_rfl) (by kernel_rfl)]
  rfl

theorem inf_any (s : Int) (hs : 0 ≤ s) (w : World) : Calls Try.prog 20 #[.int .i64 s] w fun e w' => e = .returned (.float .f64 9218868437227405312) ∧ w = w' := by
  have hr := frombits_run 9218868437227405312
  go_enter Try.func20, Try.ntmps20
  go_wp2
  go_ret
  exact ⟨rfl, rfl⟩
end Go.Proofs.Ytgfejleemacabaa
