/- The sums of the reference: they give the register too. No statement of the seat is proved here. -/
import Derived.Test.YtapkookehogddaaCrcSum
namespace Go.Proofs.Ytapkookehogddaa
open Go.RowKit

theorem i64_xor_nat (a b : Nat) (ha : a < 65536) (hb : b < 65536) : bits .xor .i64 (a : Int) (b : Int) = ((a ^^^ b : Nat) : Int) := by
  have hx : a ^^^ b < 2 ^ 16 := Nat.xor_lt_two_pow ha hb
  show IntKind.i64.wrap ((BitVec.ofInt 64 (a : Int) ^^^ BitVec.ofInt 64 (b : Int)).toNat : Int) = _
  have e : ∀ c : Nat, c < 65536 → (BitVec.ofInt 64 (c : Int)).toNat = c := by
    intro c hc; rw [BitVec.ofInt_natCast, BitVec.toNat_ofNat]; exact Nat.mod_eq_of_lt (by omega)
  rw [BitVec.toNat_xor, e a ha, e b hb, IntKind.wrap_i64]
  omega

theorem byte_in64 (r : Nat) (hr : r < 65536) (c : UInt8) : bits .xor .i64 (r : Int) (wrap64 (wrap64 (c.toNat : Int) * 256)) = ((r ^^^ c.toNat * 256 : Nat) : Int) := by
  have hc := c.toNat_lt
  rw [show wrap64 (wrap64 (c.toNat : Int) * 256) = ((c.toNat * 256 : Nat) : Int) from by unfold wrap64; omega]
  exact i64_xor_nat _ _ hr (by omega)
theorem byte_in64' (r : Nat) (hr : r < 256) (c : UInt8) : bits .xor .i64 (r : Int) (wrap64 (c.toNat : Int)) = ((r ^^^ c.toNat : Nat) : Int) := by
  have hc := c.toNat_lt
  rw [show wrap64 (c.toNat : Int) = (c.toNat : Int) from by unfold wrap64; omega]
  exact i64_xor_nat _ _ (by omega) (by omega)

set_option maxRecDepth 100000 in
set_option maxHeartbeats 400000 in
theorem refSum8_any (s : ByteArray) (w : World) (hs : s.size ≤ maxLen) :
    Calls Try.prog 13 #[.string s] w fun e w' => e = .returned (.int .u8 (sum8 (bl s) : Nat)) ∧ w = w' := by
  unfold maxLen at hs
  go_enter Try.func13, Try.ntmps13
  go_wp2
  go_loop [3, 4] (fun r i => ∃ k : Nat, k ≤ s.size ∧ i = .int .i64 k ∧ r = .int .i64 (sum8 ((bl s).take k) : Nat)) (fun _ i => s.size - (intOf i).toNat)
  case atStart => exact ⟨0, Nat.zero_le _, rfl, rfl⟩
  case round =>
    obtain ⟨k, hk, rfl, rfl⟩ := hrel
    have hb := sum8_lt ((bl s).take k)
    by_cases hlt : k < s.size
    · have HS : Hid (sum8 ((bl s).take (k + 1)) = Crc.shN 8 7 8 (sum8 ((bl s).take k) ^^^ s[k].toNat)) := sum8_snoc s k hlt
      go_wp2
      have hx := byte_in8_lt _ hb s[k]
      rw [byte_in64' _ hb]
      generalize sum8 ((bl s).take k) ^^^ s[k].toNat = x at *
      go_loop [3, 5] (fun r i => ∃ j : Nat, j ≤ 8 ∧ i = .int .i64 j ∧ r = .int .i64 (Crc.shN 8 7 j x : Nat)) (fun _ i => 8 - (intOf i).toNat)
      case atStart => exact ⟨0, Nat.zero_le _, rfl, rfl⟩
      case round =>
        obtain ⟨j, hj, rfl, rfl⟩ := hrel
        have hy := shN8_lt j hx
        by_cases hj8 : j < 8
        · have HJ : Hid (Crc.shN 8 7 (j + 1) x = Crc.sh 8 7 (Crc.shN 8 7 j x)) := Crc.shN_succ _ _ _ _
          generalize Crc.shN 8 7 j x = y at *
          obtain ⟨z, hz⟩ : ∃ z : Int, z = (y : Int) := ⟨_, rfl⟩
          have HZ := Lib.hid hz
          have hz0 : 0 ≤ z := by omega
          have hz1 : z < 256 := by omega
          rw [← hz]
          clear hz hy
          by_cases h : 128 ≤ z
          · go_wp2
            go_round
            case rel =>
              refine ⟨j + 1, by omega, by go_num, ?_⟩
              have hz := HZ.out
              rw [HJ.out, sh8_hi (by omega), show z * 2 % 256 = ((2 * y % 256 : Nat) : Int) from by omega]
              exact congrArg _ (i64_xor_nat _ 7 (by omega) (by omega))
            case measure => simp [intOf]; omega
          · go_wp2
            go_round
            case rel =>
              refine ⟨j + 1, by omega, by go_num, ?_⟩
              have hz := HZ.out
              rw [HJ.out, sh8_lo (by omega), show z * 2 % 256 = ((2 * y % 256 : Nat) : Int) from by omega]
            case measure => simp [intOf]; omega
        · obtain rfl : j = 8 := by omega
          go_wp2
          go_round
          case rel => exact ⟨k + 1, by omega, by go_num, by rw [HS.out]⟩
          case measure => simp [intOf]; omega
    · go_wp2
      go_ret
      exact ⟨ret_u8 (by rw [List.take_of_length_le (by simp; omega)]), rfl⟩
end Go.Proofs.Ytapkookehogddaa
