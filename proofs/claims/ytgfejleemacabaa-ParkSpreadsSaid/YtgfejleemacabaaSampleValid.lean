/- The law's sample building is valid. No statement of the seat is proved here. -/
import Derived.Test.YtgfejleemacabaaSample
import Derived.Test.YtgfejleemacabaaValid
namespace Go.Proofs.Ytgfejleemacabaa
open Go.RowKit

theorem loads_sample : ascB [0, 4591870180066957722, 4605380978949069210, 4607632778762754458, 9218868437227405312] = true := by decide +kernel

theorem sampleCars_at (f : Int) (n k : Nat) (h : k < (sampleCars f n).length) : (sampleCars f n)[k] = sampleCar f k := by
  simp [sampleCars]

theorem carFits_sample (f : Int) (i : Nat) (h1 : 2 ≤ f) : carFitsB f (sampleCar f i) = true := by
  have h2 := Int.emod_nonneg (i : Int) (by omega : f ≠ 0)
  have h3 := Int.emod_lt_of_pos (i : Int) (by omega : 0 < f)
  simp [carFitsB, sampleCar, inAll]
  omega

theorem sample_valid (f : Int) (n : Nat) (h1 : 2 ≤ f) (h2 : f ≤ 32) (h3 : 1 ≤ n) (h4 : n ≤ 8) : validE (sampleD f n) = 0 := by
  have a1 : inAll 2 32 [(sampleD f n).floors] = true := by simp [inAll, sampleD]; omega
  have a2 : inAll 1 8 [((sampleD f n).cars.length : Int)] = true := by simp [inAll, sampleD, sampleCars_length]; omega
  have a3 : timesFitB (sampleD f n) = true := by
    unfold timesFitB
    have : (sampleD f n).cars.all (carFitsB (sampleD f n).floors) = true := by
      rw [List.all_eq_true]
      intro c hc
      simp only [sampleD, sampleCars, List.mem_map] at hc ⊢
      obtain ⟨i, _, rfl⟩ := hc
      exact carFits_sample f i h1
    rw [this]
    rfl
  have a4 : loadsB (sampleD f n) = true := loads_sample
  have a5 : roomB (sampleD f n) = true := by simp [roomB, inAll, sampleD, sampleCars_length]; omega
  unfold validE
  rw [a1, a2, a3, a4, a5]
  rfl
end Go.Proofs.Ytgfejleemacabaa
