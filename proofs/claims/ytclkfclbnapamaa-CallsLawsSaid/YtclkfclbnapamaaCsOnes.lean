/- math/bits.OnesCount32. No statement of the seat is proved here. -/
import Derived.Test.YtclkfclbnapamaaCsMath
import Derived.Test.YtclkfclbnapamaaBag
namespace Go.Proofs.Ytclkfclbnapamaa
open Go.RowKit

theorem and255 (x : Nat) (hx : x < 4294967296) : bits .and .u32 (x : Int) 255 = ((x % 256 : Nat) : Int) := by
  have h := u32_and_nat x 255 hx (by decide)
  rw [show x &&& 255 = x % 256 from Nat.and_two_pow_sub_one_eq_mod x 8] at h
  exact h
theorem pop8_nat (b : Nat) (hb : b < 256) : Go.Lib.pop8 (b : Int) = (Go.Lib.onesCount b : Int) := Go.Lib.pop8_eq ⟨b, hb⟩

set_option maxHeartbeats 1000000 in
theorem ones_any (x : Nat) (hx : x < 4294967296) (w : World) :
    Calls Try.prog 32 #[.int .u32 x] w fun e w' => e = .returned (.int .i64 (Cs.pop x)) ∧ Below w.heap.size w w' := by
  have i1 : (x : Int) / 16777216 = ((x / 16777216 : Nat) : Int) := by omega
  have i2 : (x : Int) / 65536 = ((x / 65536 : Nat) : Int) := by omega
  have i3 : (x : Int) / 256 = ((x / 256 : Nat) : Int) := by omega
  have b2 := and255 (x / 65536) (by omega)
  have b3 := and255 (x / 256) (by omega)
  have b4 := and255 x hx
  have h1 : x / 16777216 < 256 := by omega
  have h2 : x / 65536 % 256 < 256 := by omega
  have h3 : x / 256 % 256 < 256 := by omega
  have h4 : x % 256 < 256 := by omega
  have p1 := pop8_nat _ h1
  have p2 := pop8_nat _ h2
  have p3 := pop8_nat _ h3
  have p4 := pop8_nat _ h4
  obtain ⟨l1, l2, l3, l4⟩ := Cs.pop_le hx
  have hP : Ending.returned (.int .i64 ((Cs.pop x : Nat) : Int)) = Ending.returned (.int .i64 ((Cs.pop x : Nat) : Int)) := rfl
  unfold Cs.pop at hP ⊢
  generalize Go.Lib.onesCount (x / 16777216) = c1 at *
  generalize Go.Lib.onesCount (x / 65536 % 256) = c2 at *
  generalize Go.Lib.onesCount (x / 256 % 256) = c3 at *
  generalize Go.Lib.onesCount (x % 256) = c4 at *
  generalize x / 16777216 = y1 at *
  generalize x / 65536 = z2 at *
  generalize x / 256 = z3 at *
  generalize z2 % 256 = y2 at *
  generalize z3 % 256 = y3 at *
  generalize x % 256 = y4 at *
  have s1 : IntKind.u8.wrap ((c1 : Int) + c2) = (c1 : Int) + c2 := by rw [IntKind.wrap_u8]; omega
  have s2 : IntKind.u8.wrap ((c1 : Int) + c2 + c3) = (c1 : Int) + c2 + c3 := by rw [IntKind.wrap_u8]; omega
  have s3 : IntKind.u8.wrap ((c1 : Int) + c2 + c3 + c4) = (c1 : Int) + c2 + c3 + c4 := by rw [IntKind.wrap_u8]; omega
  have s4 : IntKind.i64.wrap ((c1 : Int) + c2 + c3 + c4) = (c1 : Int) + c2 + c3 + c4 := by rw [IntKind.wrap_i64]; omega
  have j1 : (0 : Int) ≤ (y1 : Int) ∧ (y1 : Int) ≤ 255 := by omega
  have j2 : (0 : Int) ≤ (y2 : Int) ∧ (y2 : Int) ≤ 255 := by omega
  have j3 : (0 : Int) ≤ (y3 : Int) ∧ (y3 : Int) ≤ 255 := by omega
  have j4 : (0 : Int) ≤ (y4 : Int) ∧ (y4 : Int) ≤ 255 := by omega
  generalize (y1 : Int) = Y1 at *
  generalize (y2 : Int) = Y2 at *
  generalize (y3 : Int) = Y3 at *
  generalize (y4 : Int) = Y4 at *
  generalize (z2 : Int) = Z2 at *
  generalize (z3 : Int) = Z3 at *
  clear hP
  go_enter Try.func32, Try.ntmps32
  go_wp2_with fail
  refine Bag.region (fun wx => Below w.heap.size w wx) (by kernel_rfl) (by kernel_rfl) (Below.refl _ _).drew ?_
  iterate 19 (first
      | (apply Bag.walk_yes (by rfl)
         (intro wx hx K hK
          first
            | (go_simp
               first
                | (go_at_K; exact hK _ hx)))
         rfl)
      | (refine Bag.walk_no (by rfl) ?_; simp only [Act.put, List.setIfInBounds_toArray, List.set_cons_succ, List.set_cons_zero]))
  refine Bag.walk_nil (fun w1 hB => ?_)
  go_wp2
  go_ret
  exact ⟨ret_int (by omega), hB⟩
end Go.Proofs.Ytclkfclbnapamaa
