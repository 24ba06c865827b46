/- The sums of crc: crc.Sum16 and crc.Sum8 give the register. No statement of the seat is proved here. -/
import Derived.Test.YtapkookehogddaaCrcShift
namespace Go.Proofs.Ytapkookehogddaa
open Go.RowKit

/-- The bytes of a string. -/
abbrev bl (s : ByteArray) : List UInt8 := s.data.toList
theorem take_bl (s : ByteArray) (k : Nat) (h : k < s.size) : (bl s).take (k + 1) = (bl s).take k ++ [s[k]] := by
  rw [List.take_succ_eq_append_getElem (by simpa using h)]; rfl
def sum16 (l : List UInt8) : Nat := Crc.reg 8 4129 65535 l
def sum8 (l : List UInt8) : Nat := Crc.reg 0 7 0 l
theorem sum16_lt (l : List UInt8) : sum16 l < 65536 := Crc.reg_lt (m := 8) (d := 4129) (by decide) (by decide) l
theorem sum8_lt (l : List UInt8) : sum8 l < 256 := Crc.reg_lt (m := 0) (d := 7) (by decide) (by decide) l
theorem sum16_snoc (s : ByteArray) (k : Nat) (h : k < s.size) : sum16 ((bl s).take (k + 1)) = Crc.shN 16 4129 8 (sum16 ((bl s).take k) ^^^ s[k].toNat * 256) := by
  rw [take_bl s k h]; unfold sum16; rw [Crc.reg_append]; rfl
theorem sum8_snoc (s : ByteArray) (k : Nat) (h : k < s.size) : sum8 ((bl s).take (k + 1)) = Crc.shN 8 7 8 (sum8 ((bl s).take k) ^^^ s[k].toNat) := by
  rw [take_bl s k h]; unfold sum8; rw [Crc.reg_append]
  show Crc.step 0 7 _ _ = _
  unfold Crc.step
  rw [Nat.pow_zero, Nat.mul_one]
theorem shN16_lt (j : Nat) {x : Nat} (hx : x < 65536) : Crc.shN 16 4129 j x < 65536 := Crc.shN_lt (n := 15) (d := 4129) (by decide) j hx
theorem shN8_lt (j : Nat) {x : Nat} (hx : x < 256) : Crc.shN 8 7 j x < 256 := Crc.shN_lt (n := 7) (d := 7) (by decide) j hx

theorem byte_in16 (r : Nat) (hr : r < 65536) (c : UInt8) : bits .xor .u16 (r : Int) (IntKind.u16.wrap (IntKind.u16.wrap (c.toNat : Int) * 256)) = ((r ^^^ c.toNat * 256 : Nat) : Int) := by
  have hc := c.toNat_lt
  rw [IntKind.wrap_u16, IntKind.wrap_u16, show (((c.toNat : Int) % 65536 * 256) % 65536) = ((c.toNat * 256 : Nat) : Int) from by omega]
  exact u16_xor_nat _ _ hr (by omega)
theorem byte_in16_lt (r : Nat) (hr : r < 65536) (c : UInt8) : r ^^^ c.toNat * 256 < 65536 := Nat.xor_lt_two_pow (n := 16) hr (by have := c.toNat_lt; omega)
theorem byte_in8 (r : Nat) (hr : r < 256) (c : UInt8) : bits .xor .u8 (r : Int) (c.toNat : Int) = ((r ^^^ c.toNat : Nat) : Int) := u8_xor_nat _ _ hr c.toNat_lt
theorem byte_in8_lt (r : Nat) (hr : r < 256) (c : UInt8) : r ^^^ c.toNat < 256 := Nat.xor_lt_two_pow (n := 8) hr c.toNat_lt

set_option maxHeartbeats 400000 in
theorem sum8_any (s : ByteArray) (w : World) (hs : s.size ≤ maxLen) :
    Calls Try.prog 21 #[.string s] w fun e w' => e = .returned (.int .u8 (sum8 (bl s) : Nat)) ∧ w = w' := by
  unfold maxLen at hs
  go_enter Try.func21, Try.ntmps21
  go_wp2
  go_loop [3, 7] (fun r i => ∃ k : Nat, k ≤ s.size ∧ i = .int .i64 k ∧ r = .int .u8 (sum8 ((bl s).take k) : Nat)) (fun _ i => s.size - (intOf i).toNat)
  case atStart => exact ⟨0, Nat.zero_le _, rfl, rfl⟩
  case round =>
    obtain ⟨k, hk, rfl, rfl⟩ := hrel
    have hb := sum8_lt ((bl s).take k)
    by_cases hlt : k < s.size
    · have HS : Hid (sum8 ((bl s).take (k + 1)) = Crc.shN 8 7 8 (sum8 ((bl s).take k) ^^^ s[k].toNat)) := sum8_snoc s k hlt
      go_wp2
      rw [byte_in8 _ hb]
      have hx := byte_in8_lt _ hb s[k]
      generalize sum8 ((bl s).take k) ^^^ s[k].toNat = x at *
      go_loop [3, 15] (fun r i => ∃ j : Nat, j ≤ 8 ∧ i = .int .i64 j ∧ r = .int .u8 (Crc.shN 8 7 j x : Nat)) (fun _ i => 8 - (intOf i).toNat)
      case atStart => exact ⟨0, Nat.zero_le _, rfl, rfl⟩
      case round =>
        obtain ⟨j, hj, rfl, rfl⟩ := hrel
        have hy := shN8_lt j hx
        by_cases hj8 : j < 8
        · have HJ : Hid (Crc.shN 8 7 (j + 1) x = Crc.sh 8 7 (Crc.shN 8 7 j x)) := Crc.shN_succ _ _ _ _
          go_wp2_with (go_at_call 29; refine (shift8_any _ _ hy).mono ?_; rintro e w' ⟨rfl, rfl⟩)
          go_round
          case rel => exact ⟨j + 1, by omega, by go_num, by rw [HJ.out]⟩
          case measure => simp [intOf]; omega
        · obtain rfl : j = 8 := by omega
          go_wp2
          go_round
          case rel => exact ⟨k + 1, by omega, by go_num, by rw [HS.out]⟩
          case measure => simp [intOf]; omega
    · go_wp2
      go_ret
      exact ⟨ret_u8 (by rw [List.take_of_length_le (by simp; omega)]), rfl⟩
end Go.Proofs.Ytapkookehogddaa
