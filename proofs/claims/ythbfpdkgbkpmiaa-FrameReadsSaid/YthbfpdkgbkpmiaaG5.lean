/- What the texts behind this one rest on: several texts in one. No statement of the seat is proved here. -/
import Derived.Test.YthbfpdkgbkpmiaaG4
import Derived.Test.YthbfpdkgbkpmiaaG0
import Derived.Deep.Slices
import Derived.Deep.Fields
import Derived.ChangeSame
import Derived.ChangeOld
import Derived.Test.YthbfpdkgbkpmiaaG2
import Derived.Test.YthbfpdkgbkpmiaaG3
namespace Go.Proofs.Ythbfpdkgbkpmiaa
section
open Go.RowKit

theorem i64_xor_nat (a b : Nat) (ha : a < 65536) (hb : b < 65536) : bits .xor .i64 (a : Int) (b : Int) = ((a ^^^ b : Nat) : Int) := by
  have hx : a ^^^ b < 2 ^ 16 := Nat.xor_lt_two_pow ha hb
  show IntKind.i64.wrap ((BitVec.ofInt 64 (a : Int) ^^^ BitVec.ofInt 64 (b : Int)).toNat : Int) = _
  have e : ∀ c : Nat, c < 65536 → (BitVec.ofInt 64 (c : Int)).toNat = c := by
    intro c hc; rw [BitVec.ofInt_natCast, BitVec.toNat_ofNat]; exact Nat.mod_eq_of_lt (by omega)
  rw [BitVec.toNat_xor, e a ha, e b hb, IntKind.wrap_i64]
  omega

theorem byte_in64 (r : Nat) (hr : r < 65536) (c : UInt8) : bits .xor .i64 (r : Int) (wrap64 (wrap64 (c.toNat : Int) * 256)) = ((r ^^^ c.toNat * 256 : Nat) : Int) := by
  have hc := c.toNat_lt
  rw [show wrap64 (wrap64 (c.toNat : Int) * 256) = ((c.toNat * 256 : Nat) : Int) from by unfold wrap64; omega]
  exact i64_xor_nat _ _ hr (by omega)
set_option maxRecDepth 100000 in
set_option maxHeartbeats 400000 in
theorem refSum16_any (s : ByteArray) (w : World) (hs : s.size ≤ maxLen) :
    Calls Try.prog 45 #[.string s] w fun e w' => e = .returned (.int .u16 (sum16 (bl s) : Nat)) ∧ w = w' := by
  unfold maxLen at hs
  go_enter Try.func45, Try.ntmps45
  go_wp2
  go_loop [3, 4] (fun r i => ∃ k : Nat, k ≤ s.size ∧ i = .int .i64 k ∧ r = .int .i64 (sum16 ((bl s).take k) : Nat)) (fun _ i => s.size - (intOf i).toNat)
  case atStart => exact ⟨0, Nat.zero_le _, rfl, rfl⟩
  case round =>
    obtain ⟨k, hk, rfl, rfl⟩ := hrel
    have hb := sum16_lt ((bl s).take k)
    by_cases hlt : k < s.size
    · have HS : Hid (sum16 ((bl s).take (k + 1)) = Crc.shN 16 4129 8 (sum16 ((bl s).take k) ^^^ s[k].toNat * 256)) := sum16_snoc s k hlt
      go_wp2
      have hx := byte_in16_lt _ hb s[k]
      rw [byte_in64 _ hb]
      generalize sum16 ((bl s).take k) ^^^ s[k].toNat * 256 = x at *
      go_loop [3, 5] (fun r i => ∃ j : Nat, j ≤ 8 ∧ i = .int .i64 j ∧ r = .int .i64 (Crc.shN 16 4129 j x : Nat)) (fun _ i => 8 - (intOf i).toNat)
      case atStart => exact ⟨0, Nat.zero_le _, rfl, rfl⟩
      case round =>
        obtain ⟨j, hj, rfl, rfl⟩ := hrel
        have hy := shN16_lt j hx
        by_cases hj8 : j < 8
        · have HJ : Hid (Crc.shN 16 4129 (j + 1) x = Crc.sh 16 4129 (Crc.shN 16 4129 j x)) := Crc.shN_succ _ _ _ _
          generalize Crc.shN 16 4129 j x = y at *
          obtain ⟨z, hz⟩ : ∃ z : Int, z = (y : Int) := ⟨_, rfl⟩
          have HZ := Lib.hid hz
          have hz0 : 0 ≤ z := by omega
          have hz1 : z < 65536 := by omega
          rw [← hz]
          clear hz hy
          by_cases h : 32768 ≤ z
          · go_wp2
            go_round
            case rel =>
              refine ⟨j + 1, by omega, by go_num, ?_⟩
              have hz := HZ.out
              rw [HJ.out, sh16_hi (by omega), show z * 2 % 65536 = ((2 * y % 65536 : Nat) : Int) from by omega]
              exact congrArg _ (i64_xor_nat _ 4129 (by omega) (by omega))
            case measure => simp [intOf]; omega
          · go_wp2
            go_round
            case rel =>
              refine ⟨j + 1, by omega, by go_num, ?_⟩
              have hz := HZ.out
              rw [HJ.out, sh16_lo (by omega), show z * 2 % 65536 = ((2 * y % 65536 : Nat) : Int) from by omega]
            case measure => simp [intOf]; omega
        · obtain rfl : j = 8 := by omega
          go_wp2
          go_round
          case rel => exact ⟨k + 1, by omega, by go_num, by rw [HS.out]⟩
          case measure => simp [intOf]; omega
    · go_wp2
      go_ret
      exact ⟨ret_u16 (by rw [List.take_of_length_le (by simp; omega)]), rfl⟩
end

section
open Go.RowKit Go.ChangeShapes Go.WideShapes Go.Deep

theorem laidOut : laidOutB Try.prog = true := by kernel_rfl
theorem own : ownKnob Try.prog.godebug = none := by kernel_rfl

section
variable {H : Type} {enc : TypeId × Value → H} {w : World} {base : Nat} {spare : Nat → Bool} {held : Bool}

end
end

section
open Go.RowKit

theorem loads_sample : ascB [0, 4591870180066957722, 4605380978949069210, 4607632778762754458, 9218868437227405312] = true := by decide +kernel

theorem carFits_sample (f : Int) (i : Nat) (h1 : 2 ≤ f) : carFitsB f (sampleCar f i) = true := by
  have h2 := Int.emod_nonneg (i : Int) (by omega : f ≠ 0)
  have h3 := Int.emod_lt_of_pos (i : Int) (by omega : 0 < f)
  simp [carFitsB, sampleCar, inAll]
  omega

theorem sample_valid (f : Int) (n : Nat) (h1 : 2 ≤ f) (h2 : f ≤ 32) (h3 : 1 ≤ n) (h4 : n ≤ 8) : validE (sampleD f n) = 0 := by
  have a1 : inAll 2 32 [(sampleD f n).floors] = true := by simp [inAll, sampleD]; omega
  have a2 : inAll 1 8 [((sampleD f n).cars.length : Int)] = true := by simp [inAll, sampleD, sampleCars_length]; omega
  have a3 : timesFitB (sampleD f n) = true := by
    unfold timesFitB
    have : (sampleD f n).cars.all (carFitsB (sampleD f n).floors) = true := by
      rw [List.all_eq_true]
      intro c hc
      simp only [sampleD, sampleCars, List.mem_map] at hc ⊢
      obtain ⟨i, _, rfl⟩ := hc
      exact carFits_sample f i h1
    rw [this]
    rfl
  have a4 : loadsB (sampleD f n) = true := loads_sample
  have a5 : roomB (sampleD f n) = true := by simp [roomB, inAll, sampleD, sampleCars_length]; omega
  unfold validE
  rw [a1, a2, a3, a4, a5]
  rfl
end

section
open Go.RowKit

def isCallF (b : BldD) (floor dir : Int) : Bool :=
  decide (validE b = 0) && ((decide (dir = 1) && inAll 0 (b.floors - 2) [floor]) || (decide (dir = 2) && inAll 1 (b.floors - 1) [floor]))

theorem isCallF_bad {b : BldD} {floor dir : Int} (h : ¬ validE b = 0) : isCallF b floor dir = false := by simp [isCallF, h]

set_option maxHeartbeats 2000000 in
theorem refIsCall_any (b : BldD) (A : Option Addr) (cap : Nat) (floor dir : Int) (w : World) (hn : b.cars.length ≤ 140737488355328) (hc : CarsAt w w.heap.size A b.cars) :
    Calls Try.prog 84 #[b.agg A cap, .int .i64 floor, .int .i64 dir] w fun e w' => e = .returned (.bool (isCallF b floor dir)) ∧ Below w.heap.size w w' := by
  have HC := Lib.hid hc
  clear hc
  by_cases hv : validE b = 0
  · have hF := fine_of hv
    have HE : Hid (isCallF b floor dir = ((decide (dir = 1) && inAll 0 (b.floors - 2) [floor]) || (decide (dir = 2) && inAll 1 (b.floors - 1) [floor]))) := by show _ = _; simp [isCallF, hv]
    obtain ⟨f, d, r, p, e1, e2, e3, cs⟩ := b
    obtain ⟨⟨hf1, hf2⟩, -, -⟩ := hF
    simp only at hf1 hf2 hn HC HE
    simp only [BldD.agg]
    have hdir : dir = 1 ∨ dir = 2 ∨ (dir ≠ 1 ∧ dir ≠ 2) := by omega
    rcases Bool.eq_false_or_eq_true (inAll 0 (f - 2) [floor]) with q1 | q1
    all_goals
      rcases hdir with rfl | rfl | ⟨hd1, hd2⟩
      all_goals
        go_enter Try.func84, Try.ntmps84
        go_wp2_with fail
        refine (refValid_any ⟨f, d, r, p, e1, e2, e3, cs⟩ A cap _ hn ((HC.out.below (by go_grown)).more (by simp))).mono ?_
        rintro e w' ⟨rfl, hb1⟩
        have hbel := ((Below.refl w.heap.size w).alloc (Nat.le_refl _) _).trans (hb1.mono (by simp))
        obtain ⟨hc1, hf1'⟩ := bcell hb1
        go_wp2_with (go_at_call 70; refine (refIn_any _ _ _ _).mono ?_; rintro e w2 ⟨rfl, rfl⟩)
        go_ret
        exact ⟨ret_bool (by rw [HE.out]; simp [*]), hbel⟩
  · have HS := Lib.hid (isCallF_bad (floor := floor) (dir := dir) hv)
    obtain ⟨f, d, r, p, e1, e2, e3, cs⟩ := b
    simp only at hn HC
    simp only [BldD.agg]
    obtain ⟨v, hw⟩ : ∃ v, v = validE ⟨f, d, r, p, e1, e2, e3, cs⟩ := ⟨_, rfl⟩
    rw [← hw] at hv
    have HW := Lib.hid hw
    clear hw
    go_enter Try.func84, Try.ntmps84
    go_wp2_with fail
    refine (refValid_any ⟨f, d, r, p, e1, e2, e3, cs⟩ A cap _ hn ((HC.out.below (by go_grown)).more (by simp))).mono ?_
    rw [← HW.out]
    rintro e w' ⟨rfl, hb1⟩
    have hbel := ((Below.refl w.heap.size w).alloc (Nat.le_refl _) _).trans (hb1.mono (by simp))
    go_wp2_with fail
    go_ret
    exact ⟨ret_bool HS.out.symm, hbel⟩
end
end Go.Proofs.Ythbfpdkgbkpmiaa
