/- Plain facts for BuildingGrows: a building of Sample's make with other cars is valid, and no bound becomes smaller. -/
import Derived.Test.YtaajepmdlbgkeaaSane
namespace Go.Proofs.Ytaajepmdlbgkeaa

def withCars (f : Int) (cs : List CarD) : BldD := ⟨f, 1, 4000, 30, 4591870180066957722, 4605380978949069210, 4607632778762754458, cs⟩

theorem withCars_valid (f : Int) (cs : List CarD) (h1 : 2 ≤ f) (h2 : f ≤ 32) (h3 : 1 ≤ cs.length) (h4 : cs.length ≤ 8) (h : ∀ k (hk : k < cs.length), carFitsB f cs[k] = true) : validE (withCars f cs) = 0 := by
  have a1 : inAll 2 32 [(withCars f cs).floors] = true := by simp [inAll, withCars]; omega
  have a2 : inAll 1 8 [((withCars f cs).cars.length : Int)] = true := by simp [inAll, withCars]; omega
  have a3 : timesFitB (withCars f cs) = true := by
    unfold timesFitB
    have : (withCars f cs).cars.all (carFitsB (withCars f cs).floors) = true := by
      rw [List.all_eq_true]
      intro c hc
      obtain ⟨k, hk, rfl⟩ := List.getElem_of_mem hc
      exact h k hk
    rw [this]
    rfl
  have a4 : loadsB (withCars f cs) = true := loads_sample
  have a5 : roomB (withCars f cs) = true := by simp [roomB, inAll, withCars]; omega
  unfold validE
  rw [a1, a2, a3, a4, a5]
  rfl

/-- No time of the first car is greater than that of the second one. -/
def CarLe (c c' : CarD) : Prop := c.deadline ≤ c'.deadline ∧ c.step ≤ c'.step ∧ c.travel ≤ c'.travel ∧ c.hold ≤ c'.hold

theorem CarLe.refl (c : CarD) : CarLe c c := ⟨Int.le_refl _, Int.le_refl _, Int.le_refl _, Int.le_refl _⟩

theorem serviceOf_le {f f' : Int} {c c' : CarD} (hf : f ≤ f') (h0 : 2 ≤ f) (hc : CarOk f c) (h : CarLe c c') : serviceOf f c ≤ serviceOf f' c' := by
  unfold serviceOf cycleF
  obtain ⟨h1, h2, h3, h4⟩ := h
  have hX : 3 * (2 * c.travel + c.hold + 3) + c.step + 2 ≤ 3 * (2 * c'.travel + c'.hold + 3) + c'.step + 2 := by omega
  have hX0 : 0 ≤ 3 * (2 * c.travel + c.hold + 3) + c.step + 2 := by unfold CarOk at hc; omega
  exact Int.mul_le_mul (by omega) hX hX0 (by omega)

theorem boundTo_step (b : BldD) : ∀ n m, n ≤ m → boundTo b n ≤ boundTo b m
  | n, 0, h => by have : n = 0 := by omega
                  subst this; exact Int.le_refl _
  | n, m + 1, h => by
    rcases Nat.lt_or_ge n (m + 1) with hlt | hge
    · have := boundTo_step b n m (by omega)
      rw [boundTo]
      omega
    · have : n = m + 1 := by omega
      subst this; exact Int.le_refl _

theorem boundTo_le {b b' : BldD} (hv : validE b = 0) (hv' : validE b' = 0) (hf : b.floors ≤ b'.floors) (hl : b.cars.length ≤ b'.cars.length)
    (hc : ∀ k (hk : k < b.cars.length) (hk' : k < b'.cars.length), CarLe b.cars[k] b'.cars[k]) : ∀ k, k ≤ b.cars.length → boundTo b k ≤ boundTo b' k
  | 0, _ => Int.le_refl _
  | k + 1, hk => by
    have ih := boundTo_le hv hv' hf hl hc k (by omega)
    have hk1 : k < b.cars.length := by omega
    have hk2 : k < b'.cars.length := by omega
    have hF := fine_of hv
    have hs := serviceOf_le hf hF.floors.1 (hF.times k hk1) (hc k hk1 hk2)
    have hd := (hc k hk1 hk2).1
    have g1 : b.cars.getD k default = b.cars[k] := by simp [List.getD, hk1]
    have g2 : b'.cars.getD k default = b'.cars[k] := by simp [List.getD, hk2]
    rw [boundTo, boundTo, serviceF_good hv hk1, serviceF_good hv' hk2, g1, g2]
    omega

theorem boundF_le {b b' : BldD} (hv : validE b = 0) (hv' : validE b' = 0) (hf : b.floors ≤ b'.floors) (hl : b.cars.length ≤ b'.cars.length)
    (hc : ∀ k (hk : k < b.cars.length) (hk' : k < b'.cars.length), CarLe b.cars[k] b'.cars[k]) : 0 < boundF b ∧ boundF b ≤ boundF b' := by
  have h1 := boundTo_le hv hv' hf hl hc b.cars.length (Nat.le_refl _)
  have h2 := boundTo_step b' _ _ hl
  have h0 := boundTo_bd hv b.cars.length (Nat.le_refl _)
  have e1 : boundF b = ((b.cars.length : Int) + 2) * (boundTo b b.cars.length + 2) := if_pos hv
  have e2 : boundF b' = ((b'.cars.length : Int) + 2) * (boundTo b' b'.cars.length + 2) := if_pos hv'
  rw [e1, e2]
  refine ⟨Int.mul_pos (by omega) (by omega), Int.mul_le_mul (by omega) (by omega) (by omega) (by omega)⟩

theorem withCars_sample (f : Int) (n : Nat) : sampleD f n = withCars f (sampleCars f n) := rfl
end Go.Proofs.Ytaajepmdlbgkeaa
