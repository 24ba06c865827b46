/- The shifts of crc: crc.shift16 and crc.shift8. No statement of the seat is proved here. -/
import Derived.Test.YtapkjknpoafhjaaRows
import Derived.Test.YtapkjknpoafhjaaCrcMath
import Derived.WalkKit
import Derived.ProofKit
import Derived.OpenShut
import Derived.Lib.Hide
import Derived.Handy
import Derived.BigQuiet
import Derived.Deep.QuietTactic
namespace Go.Proofs.Ytapkjknpoafhjaa
open Go.RowKit

theorem ret_u16 {a b : Int} (h : a = b) : Ending.returned (.int .u16 a) = .returned (.int .u16 b) := by rw [h]
theorem ret_u8 {a b : Int} (h : a = b) : Ending.returned (.int .u8 a) = .returned (.int .u8 b) := by rw [h]

theorem sh16_hi {r : Nat} (h : 32768 ≤ r) : Crc.sh 16 4129 r = (2 * r % 65536) ^^^ 4129 := by
  unfold Crc.sh; rw [if_pos (by omega)]
theorem sh16_lo {r : Nat} (h : r < 32768) : Crc.sh 16 4129 r = 2 * r % 65536 := by
  unfold Crc.sh; rw [if_neg (by omega)]; simp
theorem sh8_hi {r : Nat} (h : 128 ≤ r) : Crc.sh 8 7 r = (2 * r % 256) ^^^ 7 := by
  unfold Crc.sh; rw [if_pos (by omega)]
theorem sh8_lo {r : Nat} (h : r < 128) : Crc.sh 8 7 r = 2 * r % 256 := by
  unfold Crc.sh; rw [if_neg (by omega)]; simp

theorem wrap16 (r : Nat) : IntKind.u16.wrap ((r : Int) * 2) = ((2 * r % 65536 : Nat) : Int) := by rw [IntKind.wrap_u16]; omega

set_option maxHeartbeats 400000 in
theorem shift16_any (r : Nat) (w : World) (hr : r < 65536) :
    Calls Try.prog 85 #[.int .u16 r] w fun e w' => e = .returned (.int .u16 (Crc.sh 16 4129 r : Nat)) ∧ w = w' := by
  by_cases h : 32768 ≤ r
  · have hd : (((r : Int) / 32768) == 1) = true := beq_iff_eq.2 (by omega)
    go_enter Try.func85, Try.ntmps85
    go_wp2
    go_ret
    refine ⟨ret_u16 ?_, rfl⟩
    rw [sh16_hi h, wrap16]
    exact u16_xor_nat _ 4129 (by omega) (by omega)
  · have hd : (((r : Int) / 32768) == 1) = false := beq_eq_false_iff_ne.2 (by omega)
    go_enter Try.func85, Try.ntmps85
    go_wp2
    go_ret
    refine ⟨ret_u16 ?_, rfl⟩
    rw [sh16_lo (by omega)]
    omega
end Go.Proofs.Ytapkjknpoafhjaa
