/- The law's sanity check: the example of the chapter; it is true, and nothing that existed has changed. -/
import Derived.Test.YtlfihfkiihdkfaaSample
import Derived.Test.YtlfihfkiihdkfaaBound
import Derived.Test.YtlfihfkiihdkfaaHall
namespace Go.Proofs.Ytlfihfkiihdkfaa
open Go.RowKit

theorem loads_sample : ascB [0, 4591870180066957722, 4605380978949069210, 4607632778762754458, 9218868437227405312] = true := by decide +kernel

theorem sampleCars_at (f : Int) (n k : Nat) (h : k < (sampleCars f n).length) : (sampleCars f n)[k] = sampleCar f k := by
  simp [sampleCars]

theorem carFits_sample (f : Int) (i : Nat) (h1 : 2 ≤ f) : carFitsB f (sampleCar f i) = true := by
  have h2 := Int.emod_nonneg (i : Int) (by omega : f ≠ 0)
  have h3 := Int.emod_lt_of_pos (i : Int) (by omega : 0 < f)
  simp [carFitsB, sampleCar, inAll]
  omega

theorem sample_valid (f : Int) (n : Nat) (h1 : 2 ≤ f) (h2 : f ≤ 32) (h3 : 1 ≤ n) (h4 : n ≤ 8) : validE (sampleD f n) = 0 := by
  have a1 : inAll 2 32 [(sampleD f n).floors] = true := by simp [inAll, sampleD]; omega
  have a2 : inAll 1 8 [((sampleD f n).cars.length : Int)] = true := by simp [inAll, sampleD, sampleCars_length]; omega
  have a3 : timesFitB (sampleD f n) = true := by
    unfold timesFitB
    have : (sampleD f n).cars.all (carFitsB (sampleD f n).floors) = true := by
      rw [List.all_eq_true]
      intro c hc
      simp only [sampleD, sampleCars, List.mem_map] at hc ⊢
      obtain ⟨i, _, rfl⟩ := hc
      exact carFits_sample f i h1
    rw [this]
    rfl
  have a4 : loadsB (sampleD f n) = true := loads_sample
  have a5 : roomB (sampleD f n) = true := by simp [roomB, inAll, sampleD, sampleCars_length]; omega
  unfold validE
  rw [a1, a2, a3, a4, a5]
  rfl

theorem zeroE : validE ⟨0, 0, 0, 0, 0, 0, 0, []⟩ = 10 := by decide +kernel

section
variable (A : Option Addr) (cap : Nat) (w : World) (hc : CarsAt w w.heap.size A (sampleCars 3 1))
include hc
theorem valid_s : Calls Try.prog 8 #[.agg #[.int .i64 3, .int .i64 1, .int .i64 4000, .int .i64 30, .float .f64 4591870180066957722, .float .f64 4605380978949069210, .float .f64 4607632778762754458, .slice A 1 cap]] w fun e w' => e = .returned (.int .i64 0) ∧ Below w.heap.size w w' := by
  have h := valid_any (sampleD 3 1) A cap w (by decide) hc
  rw [sample_valid 3 1 (by omega) (by omega) (by omega) (by omega)] at h
  exact h
theorem service_s : Calls Try.prog 22 #[.agg #[.int .i64 3, .int .i64 1, .int .i64 4000, .int .i64 30, .float .f64 4591870180066957722, .float .f64 4605380978949069210, .float .f64 4607632778762754458, .slice A 1 cap], .int .i64 0] w fun e w' => e = .returned (.int .i64 570) ∧ Below w.heap.size w w' := by
  have hV := sample_valid 3 1 (by omega) (by omega) (by omega) (by omega)
  have hS : serviceF (sampleD 3 1) 0 = 570 := by
    have h := serviceF_good (b := sampleD 3 1) (k := 0) hV (by decide)
    exact h.trans (by decide)
  have h := service_any (sampleD 3 1) A cap 0 w (by decide) hc
  rw [hS] at h
  exact h
theorem bound_s : Calls Try.prog 17 #[.agg #[.int .i64 3, .int .i64 1, .int .i64 4000, .int .i64 30, .float .f64 4591870180066957722, .float .f64 4605380978949069210, .float .f64 4607632778762754458, .slice A 1 cap]] w fun e w' => e = .returned (.int .i64 1716) ∧ Below w.heap.size w w' := by
  have hV := sample_valid 3 1 (by omega) (by omega) (by omega) (by omega)
  have hS : serviceF (sampleD 3 1) ((0 : Nat) : Int) = 570 := by
    have h := serviceF_good (b := sampleD 3 1) (k := 0) hV (by decide)
    exact h.trans (by decide)
  have hB : boundF (sampleD 3 1) = 1716 := by
    have : boundF (sampleD 3 1) = (((sampleD 3 1).cars.length : Int) + 2) * (boundTo (sampleD 3 1) (sampleD 3 1).cars.length + 2) := if_pos hV
    rw [this]
    show _ * (boundTo (sampleD 3 1) 1 + 2) = _
    rw [boundTo, boundTo, hS]
    decide
  have h := bound_any (sampleD 3 1) A cap w (by decide) hc
  rw [hB] at h
  exact h
theorem hall_s : Calls Try.prog 15 #[.agg #[.int .i64 3, .int .i64 1, .int .i64 4000, .int .i64 30, .float .f64 4591870180066957722, .float .f64 4605380978949069210, .float .f64 4607632778762754458, .slice A 1 cap]] w fun e w' => e = .returned (.agg #[.int .u32 3, .int .u32 6]) ∧ Below w.heap.size w w' := by
  have hV := sample_valid 3 1 (by omega) (by omega) (by omega) (by omega)
  have hU : hallUp (sampleD 3 1) = 3 := by unfold hallUp; rw [if_pos hV]; decide
  have hD : hallDown (sampleD 3 1) = 6 := by unfold hallDown; rw [if_pos hV]; decide
  have h := hall_any (sampleD 3 1) A cap w (by decide) hc
  rw [hU, hD] at h
  exact h
end
theorem valid_z (w : World) : Calls Try.prog 8 #[.agg #[.int .i64 0, .int .i64 0, .int .i64 0, .int .i64 0, .float .f64 0, .float .f64 0, .float .f64 0, .slice none 0 0]] w fun e w' => e = .returned (.int .i64 10) ∧ Below w.heap.size w w' := by
  have h := valid_any ⟨0, 0, 0, 0, 0, 0, 0, []⟩ none 0 w (by decide) (.inl rfl)
  rw [zeroE] at h
  exact h
theorem cycle_s (w : World) : Calls Try.prog 24 #[.agg #[.int .i64 100, .int .i64 2, .int .i64 6, .int .i64 5, .int .i64 4, .int .i64 2, .int .i64 3, .int .i64 10, .int .i64 0]] w fun e w' => e = .returned (.int .i64 17) ∧ Below w.heap.size w w' :=
  cycle_any ⟨100, 2, 6, 5, 4, 2, 3, 10, 0⟩ w (by decide) (by decide)

set_option maxHeartbeats 2000000 in
theorem sane_any (w : World) : Calls Try.prog 10 #[] w fun e w' => e = .returned (.bool true) ∧ Below w.heap.size w w' := by
  go_enter Try.func10, Try.ntmps10
  go_wp2_with fail
  refine (sample_any 3 1 _ (by omega) (by omega) (by omega)).mono ?_
  rintro e w1 ⟨A, cap, rfl, hcars, hb1, hA⟩
  obtain ⟨g, off, c1, c2, c3, c4, c5, c6, c7, c8, c9, rfl, hg, hcar, n0, n1, n2, n3, n4, n5, n6, n7, n8⟩ := hcars.at_ (k := 0) (by decide)
  have hcar' := hcar.out
  rw [sampleCars_at] at hcar'
  simp only [sampleCar, CarD.mk.injEq] at hcar'
  obtain ⟨rfl, rfl, rfl, rfl, rfl, rfl, rfl, rfl, rfl⟩ := hcar'
  clear hcar
  simp only [Nat.zero_mul, Nat.add_zero] at n0 n1 n2 n3 n4 n5 n6 n7 n8
  have HC := Lib.hid hcars
  clear hcars hA
  have hsz := hb1.size
  simp only [BldD.agg, sampleD, sampleCars_length]
  go_wp2_with fail
  refine (valid_s _ _ _ ((HC.out.below (by go_grown)).more (by simp))).mono ?_
  rintro e w2 ⟨rfl, hb2⟩
  have hx2 : Below (w1.heap.size + 1) (w1.alloc (.cells #[.int .i64 3, .int .i64 1, .int .i64 4000, .int .i64 30, .float .f64 4591870180066957722, .float .f64 4605380978949069210, .float .f64 4607632778762754458, .slice (some ⟨g, off, none⟩) 1 cap] 25)) w2 := hb2.mono (by simp)
  have g0 : w2.cell? ⟨w1.heap.size, 0, none⟩ = some (.int .i64 3) := cell_new_below hx2 0
  have g1 : w2.cell? ⟨w1.heap.size, 1, none⟩ = some (.int .i64 1) := cell_new_below hx2 1
  have g2 : w2.cell? ⟨w1.heap.size, 2, none⟩ = some (.int .i64 4000) := cell_new_below hx2 2
  have g3 : w2.cell? ⟨w1.heap.size, 3, none⟩ = some (.int .i64 30) := cell_new_below hx2 3
  have g4 : w2.cell? ⟨w1.heap.size, 4, none⟩ = some (.float .f64 4591870180066957722) := cell_new_below hx2 4
  have g5 : w2.cell? ⟨w1.heap.size, 5, none⟩ = some (.float .f64 4605380978949069210) := cell_new_below hx2 5
  have g6 : w2.cell? ⟨w1.heap.size, 6, none⟩ = some (.float .f64 4607632778762754458) := cell_new_below hx2 6
  have g7 : w2.cell? ⟨w1.heap.size, 7, none⟩ = some (.slice (some ⟨g, off, none⟩) 1 cap) := cell_new_below hx2 7
  have m0 : w2.cell? ⟨g, off, none⟩ = some (.int .i64 100) := ((below_of_new hx2).cell (p := ⟨g, _, none⟩) hg).trans n0
  have m1 : w2.cell? ⟨g, off + 1, none⟩ = some (.int .i64 2) := ((below_of_new hx2).cell (p := ⟨g, _, none⟩) hg).trans n1
  have m2 : w2.cell? ⟨g, off + 2, none⟩ = some (.int .i64 6) := ((below_of_new hx2).cell (p := ⟨g, _, none⟩) hg).trans n2
  have m3 : w2.cell? ⟨g, off + 3, none⟩ = some (.int .i64 5) := ((below_of_new hx2).cell (p := ⟨g, _, none⟩) hg).trans n3
  have m4 : w2.cell? ⟨g, off + 4, none⟩ = some (.int .i64 4) := ((below_of_new hx2).cell (p := ⟨g, _, none⟩) hg).trans n4
  have m5 : w2.cell? ⟨g, off + 5, none⟩ = some (.int .i64 2) := ((below_of_new hx2).cell (p := ⟨g, _, none⟩) hg).trans n5
  have m6 : w2.cell? ⟨g, off + 6, none⟩ = some (.int .i64 3) := ((below_of_new hx2).cell (p := ⟨g, _, none⟩) hg).trans n6
  have m7 : w2.cell? ⟨g, off + 7, none⟩ = some (.int .i64 10) := ((below_of_new hx2).cell (p := ⟨g, _, none⟩) hg).trans n7
  have m8 : w2.cell? ⟨g, off + 8, none⟩ = some (.int .i64 0) := ((below_of_new hx2).cell (p := ⟨g, _, none⟩) hg).trans n8
  go_wp2_with fail
  refine (cycle_s _).mono ?_
  rintro e w3 ⟨rfl, hb3⟩
  have hx3 := hx2.trans (hb3.mono (by have := hx2.size; simp at this; omega))
  clear g0 g1 g2 g3 g4 g5 g6 g7 m0 m1 m2 m3 m4 m5 m6 m7 m8 hb2 hb3
  have g0 : w3.cell? ⟨w1.heap.size, 0, none⟩ = some (.int .i64 3) := cell_new_below hx3 0
  have g1 : w3.cell? ⟨w1.heap.size, 1, none⟩ = some (.int .i64 1) := cell_new_below hx3 1
  have g2 : w3.cell? ⟨w1.heap.size, 2, none⟩ = some (.int .i64 4000) := cell_new_below hx3 2
  have g3 : w3.cell? ⟨w1.heap.size, 3, none⟩ = some (.int .i64 30) := cell_new_below hx3 3
  have g4 : w3.cell? ⟨w1.heap.size, 4, none⟩ = some (.float .f64 4591870180066957722) := cell_new_below hx3 4
  have g5 : w3.cell? ⟨w1.heap.size, 5, none⟩ = some (.float .f64 4605380978949069210) := cell_new_below hx3 5
  have g6 : w3.cell? ⟨w1.heap.size, 6, none⟩ = some (.float .f64 4607632778762754458) := cell_new_below hx3 6
  have g7 : w3.cell? ⟨w1.heap.size, 7, none⟩ = some (.slice (some ⟨g, off, none⟩) 1 cap) := cell_new_below hx3 7
  go_wp2_with fail
  refine (service_s _ _ _ ((HC.out.below (below_of_new hx3)).more (by have := hx3.size; simp at this; omega))).mono ?_
  rintro e w4 ⟨rfl, hb4⟩
  have hx4 := hx3.trans (hb4.mono (by have := hx3.size; simp at this; omega))
  clear g0 g1 g2 g3 g4 g5 g6 g7 hb4
  have g0 : w4.cell? ⟨w1.heap.size, 0, none⟩ = some (.int .i64 3) := cell_new_below hx4 0
  have g1 : w4.cell? ⟨w1.heap.size, 1, none⟩ = some (.int .i64 1) := cell_new_below hx4 1
  have g2 : w4.cell? ⟨w1.heap.size, 2, none⟩ = some (.int .i64 4000) := cell_new_below hx4 2
  have g3 : w4.cell? ⟨w1.heap.size, 3, none⟩ = some (.int .i64 30) := cell_new_below hx4 3
  have g4 : w4.cell? ⟨w1.heap.size, 4, none⟩ = some (.float .f64 4591870180066957722) := cell_new_below hx4 4
  have g5 : w4.cell? ⟨w1.heap.size, 5, none⟩ = some (.float .f64 4605380978949069210) := cell_new_below hx4 5
  have g6 : w4.cell? ⟨w1.heap.size, 6, none⟩ = some (.float .f64 4607632778762754458) := cell_new_below hx4 6
  have g7 : w4.cell? ⟨w1.heap.size, 7, none⟩ = some (.slice (some ⟨g, off, none⟩) 1 cap) := cell_new_below hx4 7
  go_wp2_with fail
  refine (bound_s _ _ _ ((HC.out.below (below_of_new hx4)).more (by have := hx4.size; simp at this; omega))).mono ?_
  rintro e w5 ⟨rfl, hb5⟩
  have hx5 := hx4.trans (hb5.mono (by have := hx4.size; simp at this; omega))
  clear g0 g1 g2 g3 g4 g5 g6 g7 hb5
  have g0 : w5.cell? ⟨w1.heap.size, 0, none⟩ = some (.int .i64 3) := cell_new_below hx5 0
  have g1 : w5.cell? ⟨w1.heap.size, 1, none⟩ = some (.int .i64 1) := cell_new_below hx5 1
  have g2 : w5.cell? ⟨w1.heap.size, 2, none⟩ = some (.int .i64 4000) := cell_new_below hx5 2
  have g3 : w5.cell? ⟨w1.heap.size, 3, none⟩ = some (.int .i64 30) := cell_new_below hx5 3
  have g4 : w5.cell? ⟨w1.heap.size, 4, none⟩ = some (.float .f64 4591870180066957722) := cell_new_below hx5 4
  have g5 : w5.cell? ⟨w1.heap.size, 5, none⟩ = some (.float .f64 4605380978949069210) := cell_new_below hx5 5
  have g6 : w5.cell? ⟨w1.heap.size, 6, none⟩ = some (.float .f64 4607632778762754458) := cell_new_below hx5 6
  have g7 : w5.cell? ⟨w1.heap.size, 7, none⟩ = some (.slice (some ⟨g, off, none⟩) 1 cap) := cell_new_below hx5 7
  go_wp2_with fail
  refine (hall_s _ _ _ ((HC.out.below (below_of_new hx5)).more (by have := hx5.size; simp at this; omega))).mono ?_
  rintro e w6 ⟨rfl, hb6⟩
  have hx6 := hx5.trans (hb6.mono (by have := hx5.size; simp at this; omega))
  clear g0 g1 g2 g3 g4 g5 g6 g7 hb6
  go_wp2_with fail
  refine (valid_z _).mono ?_
  rintro e w7 ⟨rfl, hb7⟩
  go_wp2
  go_ret
  exact ⟨rfl, hb1.trans (((below_of_new hx6).trans (hb7.mono (by have := hx6.size; simp at this; omega))).mono hsz)⟩
end Go.Proofs.Ytlfihfkiihdkfaa
