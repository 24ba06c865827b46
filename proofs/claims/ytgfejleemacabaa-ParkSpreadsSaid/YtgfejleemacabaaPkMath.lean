/- Idle cars, plainly: what a car does, and the proposals. No statement of the seat is proved here. -/
import Derived.Test.YtgfejleemacabaaSampleValid
import Derived.Test.YtgfejleemacabaaBldOnly
namespace Go.Proofs.Ytgfejleemacabaa
open Go.RowKit

def towardF (h f : Int) : Int := if f < h then 1 else if h < f then 2 else 0
theorem towardF_up {h f : Int} (h1 : f < h) : towardF h f = 1 := if_pos h1
theorem towardF_down {h f : Int} (h1 : h < f) : towardF h f = 2 := by unfold towardF; rw [if_neg (by omega), if_pos h1]
theorem towardF_same {f : Int} : towardF f f = 0 := by unfold towardF; rw [if_neg (by omega), if_neg (by omega)]

/-- What an idle car does. -/
def moveF (b : BldD) (c i f : Int) : Int :=
  if validE b = 0 ∧ (0 ≤ c ∧ c < b.cars.length) ∧ (0 ≤ f ∧ f < b.floors) ∧ b.park ≤ i then towardF (b.cars.getD c.toNat default).home f else 0
theorem moveF_bad {b : BldD} {c i f : Int} (h : ¬ (validE b = 0 ∧ (0 ≤ c ∧ c < b.cars.length) ∧ (0 ≤ f ∧ f < b.floors) ∧ b.park ≤ i)) : moveF b c i f = 0 := if_neg h
theorem moveF_good {b : BldD} {k : Nat} {i f : Int} (hv : validE b = 0) (hk : k < b.cars.length) (hf : 0 ≤ f ∧ f < b.floors) (hi : b.park ≤ i) : moveF b k i f = towardF b.cars[k].home f := by
  unfold moveF
  rw [if_pos ⟨hv, ⟨by omega, by omega⟩, hf, hi⟩]
  simp [List.getD, hk]

structure FineP (b : BldD) : Prop where
  floors : 2 ≤ b.floors ∧ b.floors ≤ 32
  cars : 1 ≤ b.cars.length ∧ b.cars.length ≤ 8
  homes : ∀ k (h : k < b.cars.length), 0 ≤ b.cars[k].home ∧ b.cars[k].home ≤ b.floors - 1
  park : 1 ≤ b.park ∧ b.park ≤ 10000

theorem fineP_of {b : BldD} (h : validE b = 0) : FineP b := by
  unfold validE at h
  split at h
  · exact absurd h (by decide)
  · split at h
    · exact absurd h (by decide)
    · split at h
      · exact absurd h (by decide)
      · rename_i h1 h2 h3
        have h1 := inAll_one (by simpa using h1)
        have h2 := inAll_one (by simpa using h2)
        have h3 : timesFitB b = true := by simpa using h3
        unfold timesFitB at h3
        rw [Bool.and_eq_true, Bool.and_eq_true, List.all_eq_true] at h3
        refine ⟨h1, by omega, fun k hk => ?_, ?_⟩
        · have hc := h3.2.2 _ (List.getElem_mem hk)
          generalize b.cars[k] = c at hc ⊢
          obtain ⟨c1, c2, c3, c4, c5, c6, c7, c8, c9⟩ := c
          simp [carFitsB, inAll] at hc
          simp only
          omega
        · have := h3.2.1
          simp [inAll] at this
          omega

/-- The proposals. -/
def shareF (n : Nat) (f : Int) (i : Nat) : Int := (2 * (i : Int) + 1) * f / (2 * (n : Int))
def spreadF (b : BldD) : List Int := if validE b = 0 then (List.range b.cars.length).map (shareF b.cars.length b.floors) else []
theorem spreadF_bad {b : BldD} (h : ¬ validE b = 0) : spreadF b = [] := if_neg h
theorem spreadF_good {b : BldD} (h : validE b = 0) : spreadF b = (List.range b.cars.length).map (shareF b.cars.length b.floors) := if_pos h
theorem spreadF_len {b : BldD} (h : validE b = 0) : (spreadF b).length = b.cars.length := by rw [spreadF_good h]; simp
theorem spreadF_at {b : BldD} (h : validE b = 0) {i : Nat} (hi : i < (spreadF b).length) : (spreadF b)[i] = shareF b.cars.length b.floors i := by
  have e := spreadF_good h
  simp only [e, List.getElem_map, List.getElem_range]
theorem share_low {n : Nat} {f : Int} {i : Nat} (h1 : 2 ≤ f) : 0 ≤ shareF n f i := Int.ediv_nonneg (Int.mul_nonneg (by omega) (by omega)) (by omega)
theorem share_high {n : Nat} {f : Int} {i : Nat} (h1 : 2 ≤ f) (h3 : i < n) : shareF n f i < f := by
  unfold shareF
  apply Int.ediv_lt_of_lt_mul (by omega)
  have : (2 * (i : Int) + 1) * f < (2 * (n : Int)) * f := Int.mul_lt_mul_of_pos_right (by omega) (by omega)
  rw [Int.mul_comm f]
  exact this
theorem share_up {n : Nat} {f : Int} {i : Nat} (h1 : 2 ≤ f) (h3 : i + 1 < n) : shareF n f i ≤ shareF n f (i + 1) := by
  unfold shareF
  apply Int.ediv_le_ediv (by omega)
  exact Int.mul_le_mul_of_nonneg_right (by omega) (by omega)
theorem share_apart {n : Nat} {f : Int} {i : Nat} (h2 : (n : Int) ≤ f) (h3 : i + 1 < n) : shareF n f i < shareF n f (i + 1) := by
  unfold shareF
  have e : (2 * ((i + 1 : Nat) : Int) + 1) * f = (2 * (i : Int) + 1) * f + 2 * f := by
    have : (2 * ((i + 1 : Nat) : Int) + 1) = (2 * (i : Int) + 1) + 2 := by omega
    rw [this, Int.add_mul]
  rw [e]
  have hle : (2 * (i : Int) + 1) * f + (2 * (n : Int)) * 1 ≤ (2 * (i : Int) + 1) * f + 2 * f := by omega
  have h4 := Int.ediv_le_ediv (c := 2 * (n : Int)) (by omega) hle
  rw [Int.add_mul_ediv_left _ _ (by omega)] at h4
  omega
end Go.Proofs.Ytgfejleemacabaa
