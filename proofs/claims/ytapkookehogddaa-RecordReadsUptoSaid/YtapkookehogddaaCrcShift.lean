/- The shifts of crc: crc.shift16 and crc.shift8. No statement of the seat is proved here. -/
import Derived.Test.YtapkookehogddaaRows
import Derived.Test.YtapkookehogddaaCrcMath
import Derived.WalkKit
import Derived.ProofKit
import Derived.OpenShut
import Derived.Lib.Hide
import Derived.Handy
import Derived.BigQuiet
import Derived.Deep.QuietTactic
namespace Go.Proofs.Ytapkookehogddaa
open Go.RowKit

theorem ret_u16 {a b : Int} (h : a = b) : Ending.returned (.int .u16 a) = .returned (.int .u16 b) := by rw [h]
theorem ret_u8 {a b : Int} (h : a = b) : Ending.returned (.int .u8 a) = .returned (.int .u8 b) := by rw [h]

theorem sh16_hi {r : Nat} (h : 32768 ≤ r) : Crc.sh 16 4129 r = (2 * r % 65536) ^^^ 4129 := by
  unfold Crc.sh; rw [if_pos (by omega)]
theorem sh16_lo {r : Nat} (h : r < 32768) : Crc.sh 16 4129 r = 2 * r % 65536 := by
  unfold Crc.sh; rw [if_neg (by omega)]; simp
theorem sh8_hi {r : Nat} (h : 128 ≤ r) : Crc.sh 8 7 r = (2 * r % 256) ^^^ 7 := by
  unfold Crc.sh; rw [if_pos (by omega)]
theorem sh8_lo {r : Nat} (h : r < 128) : Crc.sh 8 7 r = 2 * r % 256 := by
  unfold Crc.sh; rw [if_neg (by omega)]; simp

theorem wrap16 (r : Nat) : IntKind.u16.wrap ((r : Int) * 2) = ((2 * r % 65536 : Nat) : Int) := by rw [IntKind.wrap_u16]; omega

set_option maxHeartbeats 400000 in
theorem shift8_any (r : Nat) (w : World) (hr : r < 256) :
    Calls Try.prog 29 #[.int .u8 r] w fun e w' => e = .returned (.int .u8 (Crc.sh 8 7 r : Nat)) ∧ w = w' := by
  by_cases h : 128 ≤ r
  · have hd : (((r : Int) / 128) == 1) = true := beq_iff_eq.2 (by omega)
    go_enter Try.func29, Try.ntmps29
    go_wp2
    go_ret
    refine ⟨ret_u8 ?_, rfl⟩
    rw [sh8_hi h, show (r : Int) * 2 % 256 = ((2 * r % 256 : Nat) : Int) from by omega]
    exact u8_xor_nat _ 7 (by omega) (by omega)
  · have hd : (((r : Int) / 128) == 1) = false := beq_eq_false_iff_ne.2 (by omega)
    go_enter Try.func29, Try.ntmps29
    go_wp2
    go_ret
    refine ⟨ret_u8 ?_, rfl⟩
    rw [sh8_lo (by omega)]
    omega
end Go.Proofs.Ytapkookehogddaa
