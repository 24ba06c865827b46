/- Plain facts for the law IndicatorOne. No statement of the seat is proved here. -/
import Derived.Test.YtimaidiabjkgkaaDoorIndOpen
namespace Go.Proofs.YtimaidiabjkgkaaDoor
open Go Go.RowKit Go.ChangeShapes Go.WideShapes Go.ChangeAt

theorem bitAt (a : Nat) (ha : a < 4294967296) (k : Nat) : (bits .and .u32 ((a : Int) / 2 ^ k) 1 == 1) = a.testBit k := by
  have e : (a : Int) / 2 ^ k = ((a / 2 ^ k : Nat) : Int) := by rw [Int.natCast_ediv, Int.natCast_pow]; rfl
  have hl : a / 2 ^ k < 4294967296 := Nat.lt_of_le_of_lt (Nat.div_le_self _ _) ha
  have h1 := u32_and_nat (a / 2 ^ k) 1 hl (by decide)
  rw [e]
  rw [Nat.and_one_is_mod] at h1
  rw [show ((1 : Nat) : Int) = 1 from rfl] at h1
  rw [h1, Nat.testBit_eq_decide_div_mod_eq]
  by_cases h : a / 2 ^ k % 2 = 1
  · rw [h]; rfl
  · rw [decide_eq_false h]
    exact beq_eq_false_iff_ne.2 (by omega)
theorem bitAt_pow {j : Nat} (hj : j < 32) (k : Nat) : (bits .and .u32 (((2 ^ j : Nat) : Int) / 2 ^ k) 1 == 1) = decide (j = k) := by
  rw [bitAt _ (Ct.bit_lt hj), Nat.testBit_two_pow]
theorem bitAt_zero (k : Nat) : (bits .and .u32 (((0 : Nat) : Int) / 2 ^ k) 1 == 1) = false := by
  rw [bitAt _ (by decide), Nat.zero_testBit]

namespace Ind
theorem shows_up {m : Int} {c : Ct} {k : Nat} (hm : okF m = true) (ho : c.opn = true) (hx : c.cls = false) (hu : c.up = true) (hd : c.dn = false) (hf : floorI m c.fl = (k : Int)) (hk : (k : Int) < m - 1) : shows m (decode m c) = (2 ^ k, 0) := by
  have h := decode_obs hm c
  unfold shows
  rw [h]
  unfold decode
  simp only [ho, hx, hu, hd, hf, two, if_true, Bool.false_eq_true, if_false]
  rw [if_pos ⟨trivial, by decide, by omega⟩, if_pos ⟨by decide, hk⟩, Int.toNat_natCast]
theorem shows_down {m : Int} {c : Ct} {k : Nat} (hm : okF m = true) (ho : c.opn = true) (hx : c.cls = false) (hu : c.up = false) (hd : c.dn = true) (hf : floorI m c.fl = (k : Int)) (hk : 0 < k) : shows m (decode m c) = (0, 2 ^ k) := by
  have h := decode_obs hm c
  unfold shows
  rw [h]
  unfold decode
  simp only [ho, hx, hu, hd, hf, two, if_true, Bool.false_eq_true, if_false]
  rw [if_pos ⟨trivial, by decide, by omega⟩, if_neg (fun q => absurd q.1 (by decide)), if_pos ⟨by decide, by omega⟩, Int.toNat_natCast]
theorem two_one {a b : Bool} (h : two a b = 1) : a = true ∧ b = false := by revert h; cases a <;> cases b <;> decide
theorem two_two {a b : Bool} (h : two a b = 2) : a = false ∧ b = true := by revert h; cases a <;> cases b <;> decide
theorem shows_none {m : Int} {c : Ct} (h : ¬ (c.opn = true ∧ c.cls = false ∧ 0 ≤ floorI m c.fl ∧ (c.up = true ∧ c.dn = false ∧ floorI m c.fl < m - 1 ∨ c.up = false ∧ c.dn = true ∧ 0 < floorI m c.fl))) : shows m (decode m c) = (0, 0) := by
  unfold shows decode
  simp only
  split
  · rename_i q
    obtain ⟨q1, q2⟩ := two_one q.2.1
    split
    · rename_i r
      obtain ⟨r1, r2⟩ := two_one r.1
      exact absurd ⟨q1, q2, q.2.2, .inl ⟨r1, r2, r.2⟩⟩ h
    · split
      · rename_i r
        obtain ⟨r1, r2⟩ := two_two r.1
        exact absurd ⟨q1, q2, q.2.2, .inr ⟨r1, r2, r.2⟩⟩ h
      · rfl
  · rfl
end Ind

end Go.Proofs.YtimaidiabjkgkaaDoor

