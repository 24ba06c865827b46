/- Plain facts on Go's order of float64: at most the greatest finite number is the same as below infinity. -/
import Derived.Test.YtgfejleemacabaaMem
namespace Go.Proofs.Ytgfejleemacabaa

theorem read_max : FloatKind.f64.format.read 9218868437227405311 = .number false 9007199254740991 971 := by decide +kernel
theorem read_inf : FloatKind.f64.format.read 9218868437227405312 = .infinity false := by decide +kernel

theorem read_form (x : Nat) : (∃ n m i, FloatKind.f64.format.read x = .number n m i ∧ m ≤ 9007199254740991 ∧ i ≤ 971) ∨ (∃ n, FloatKind.f64.format.read x = .infinity n) ∨ (∃ n t, FloatKind.f64.format.read x = .nan n t) := by
  have hb : FloatKind.f64.format.binade = 4503599627370496 := by decide +kernel
  have hi : FloatKind.f64.format.infRung = 9218868437227405312 := by decide +kernel
  have hl : FloatKind.f64.format.leastPlace = -1074 := by decide +kernel
  unfold Ieee.Format.read
  rw [hb, hi, hl]
  dsimp only
  split
  · exact .inl ⟨_, _, _, rfl, by omega, by omega⟩
  · split
    · exact .inl ⟨_, _, _, rfl, by omega, by omega⟩
    · split
      · exact .inr (.inl ⟨_, rfl⟩)
      · exact .inr (.inr ⟨_, _, rfl⟩)

/-- Go's 'x <= y' on float64, by their bits. -/
def fleB (x y : Nat) : Bool := FloatKind.f64.format.order x y == some .lt || FloatKind.f64.format.order x y == some .eq

theorem fle_max (x : Nat) : fleB x 9218868437227405311 = fltB x 9218868437227405312 := by
  unfold fleB fltB Ieee.Format.order
  rw [read_max, read_inf]
  rcases read_form x with ⟨n, m, i, h, hm, hi⟩ | ⟨n, h⟩ | ⟨n, t, h⟩
  · rw [h]
    have hle : Ieee.signed n m (i - min i 971).toNat ≤ Ieee.signed false 9007199254740991 (971 - min i 971).toNat := by
      have h0 : (i - min i 971).toNat = 0 := by omega
      rw [h0]
      have hp : 1 ≤ 2 ^ (971 - min i 971).toNat := Nat.one_le_two_pow
      have hq : m * 1 ≤ 9007199254740991 * 2 ^ (971 - min i 971).toNat := Nat.mul_le_mul hm hp
      unfold Ieee.signed
      rw [Nat.shiftLeft_eq, Nat.shiftLeft_eq]
      generalize 2 ^ (971 - min i 971).toNat = q at hp hq ⊢
      cases n <;> simp <;> omega
    simp only [Ieee.Datum.order]
    rcases Int.lt_or_eq_of_le hle with hlt | heq
    · have hc : compare (Ieee.signed n m (i - min i 971).toNat) (Ieee.signed false 9007199254740991 (971 - min i 971).toNat) = .lt := by
        show compareOfLessAndEq _ _ = _
        unfold compareOfLessAndEq
        rw [if_pos hlt]
      rw [hc]; rfl
    · rw [heq]
      have hc : ∀ z : Int, compare z z = .eq := fun z => by
        show compareOfLessAndEq _ _ = _
        unfold compareOfLessAndEq
        rw [if_neg (by omega), if_pos rfl]
      rw [hc]; rfl
  · rw [h]; cases n <;> rfl
  · rw [h]; rfl
end Go.Proofs.Ytgfejleemacabaa
