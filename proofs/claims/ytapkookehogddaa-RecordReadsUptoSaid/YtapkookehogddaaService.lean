/- building.Cycle and building.Service. -/
import Derived.Test.YtapkookehogddaaValid
namespace Go.Proofs.Ytapkookehogddaa
open Go.RowKit

theorem bcell {W w1 : World} (hb : Below W.heap.size W w1) : (∀ b o, b < W.heap.size → w1.cell? ⟨b, o, none⟩ = W.cell? ⟨b, o, none⟩) ∧ (∀ b o, b < W.heap.size → w1.frozen? ⟨b, o, none⟩ = W.frozen? ⟨b, o, none⟩) :=
  ⟨fun b o h => hb.cell (p := ⟨b, o, none⟩) h, fun b o h => hb.frozen (p := ⟨b, o, none⟩) h⟩

def CarOk (f : Int) (c : CarD) : Prop :=
  (1 ≤ c.deadline ∧ c.deadline ≤ 10000) ∧ (1 ≤ c.step ∧ c.step ≤ 10000) ∧ (1 ≤ c.travel ∧ c.travel ≤ 10000) ∧ (1 ≤ c.dwell ∧ c.dwell ≤ c.hold) ∧ (c.hold ≤ 10000) ∧ (0 ≤ c.home ∧ c.home ≤ f - 1)

structure Fine (b : BldD) : Prop where
  floors : 2 ≤ b.floors ∧ b.floors ≤ 32
  cars : 1 ≤ b.cars.length ∧ b.cars.length ≤ 8
  times : ∀ k (h : k < b.cars.length), CarOk b.floors b.cars[k]

theorem fine_of {b : BldD} (h : validE b = 0) : Fine b := by
  unfold validE at h
  split at h
  · exact absurd h (by decide)
  · split at h
    · exact absurd h (by decide)
    · split at h
      · exact absurd h (by decide)
      · rename_i h1 h2 h3
        have h1 := inAll_one (by simpa using h1)
        have h2 := inAll_one (by simpa using h2)
        have h3 : timesFitB b = true := by simpa using h3
        refine ⟨h1, by omega, fun k hk => ?_⟩
        unfold timesFitB at h3
        rw [Bool.and_eq_true, Bool.and_eq_true, List.all_eq_true] at h3
        have hc := h3.2.2 _ (List.getElem_mem hk)
        generalize b.cars[k] = c at hc ⊢
        obtain ⟨c1, c2, c3, c4, c5, c6, c7, c8, c9⟩ := c
        simp [carFitsB, inAll] at hc
        simp only [CarOk]
        omega

def cycleF (c : CarD) : Int := 2 * c.travel + c.hold + 3

def serviceOf (f : Int) (c : CarD) : Int := (3 * f + 1) * (3 * cycleF c + c.step + 2)

/-- What Service returns. -/
def serviceF (b : BldD) (car : Int) : Int :=
  if validE b = 0 ∧ 0 ≤ car ∧ car < b.cars.length then serviceOf b.floors (b.cars.getD car.toNat default) else 0

theorem serviceF_bad {b : BldD} {car : Int} (h : ¬ (validE b = 0 ∧ 0 ≤ car ∧ car < b.cars.length)) : serviceF b car = 0 := if_neg h
theorem serviceF_good {b : BldD} {k : Nat} (h : validE b = 0) (hk : k < b.cars.length) : serviceF b k = serviceOf b.floors b.cars[k] := by
  unfold serviceF
  rw [if_pos ⟨h, by omega, by omega⟩]
  simp [List.getD, hk]

theorem serviceOf_bound {f : Int} {c : CarD} (hf : 2 ≤ f ∧ f ≤ 32) (hc : CarOk f c) : 0 ≤ serviceOf f c ∧ serviceOf f c ≤ 10000000 := by
  unfold serviceOf cycleF
  unfold CarOk at hc
  obtain ⟨k, rfl⟩ := Int.eq_ofNat_of_zero_le (by omega : 0 ≤ f)
  have hk : k ≤ 32 := by omega
  have hX : 0 ≤ 3 * (2 * c.travel + c.hold + 3) + c.step + 2 ∧ 3 * (2 * c.travel + c.hold + 3) + c.step + 2 ≤ 100100 := by omega
  generalize 3 * (2 * c.travel + c.hold + 3) + c.step + 2 = X at hX
  have h1 : 0 ≤ (3 * (k : Int) + 1) := by omega
  have h2 : (3 * (k : Int) + 1) ≤ 97 := by omega
  exact ⟨Int.mul_nonneg h1 hX.1, Int.le_trans (Int.mul_le_mul h2 hX.2 hX.1 (by decide)) (by decide)⟩

theorem service_wrap {f y s : Int} (h1 : 0 ≤ f) (h2 : f ≤ 32) (h3 : 0 ≤ y) (h4 : y ≤ 100000) (h5 : 0 ≤ s) (h6 : s ≤ 10000) :
    IntKind.i64.wrap (IntKind.i64.wrap (IntKind.i64.wrap (3 * f) + 1) * IntKind.i64.wrap (IntKind.i64.wrap (IntKind.i64.wrap (3 * y) + s) + 2)) = (3 * f + 1) * (3 * y + s + 2) := by
  rw [IntWalk.i64_in (3 * f) (by omega), IntWalk.i64_in (3 * y) (by omega), IntWalk.i64_in (3 * f + 1) (by omega), IntWalk.i64_in (3 * y + s) (by omega), IntWalk.i64_in (3 * y + s + 2) (by omega)]
  have hX : 0 ≤ 3 * y + s + 2 ∧ 3 * y + s + 2 ≤ 400000 := by omega
  generalize 3 * y + s + 2 = X at hX
  have a1 : 0 ≤ 3 * f + 1 := by omega
  have a2 : 3 * f + 1 ≤ 97 := by omega
  have a3 := Int.mul_nonneg a1 hX.1
  have a4 : (3 * f + 1) * X ≤ 97 * 400000 := Int.mul_le_mul a2 hX.2 hX.1 (by decide)
  exact IntWalk.i64_in _ (by omega)

end Go.Proofs.Ytapkookehogddaa
