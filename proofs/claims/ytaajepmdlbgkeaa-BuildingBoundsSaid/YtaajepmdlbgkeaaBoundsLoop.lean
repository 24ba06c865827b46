/- The law BuildingBounds, its walk: the bounds of every building, and that the last one is above all others. -/
import Derived.Test.YtaajepmdlbgkeaaSane
import Derived.Test.YtaajepmdlbgkeaaRefBound
import Derived.Test.YtaajepmdlbgkeaaSmall
import Derived.Test.YtaajepmdlbgkeaaBox
import Derived.Test.YtaajepmdlbgkeaaBag
namespace Go.Proofs.Ytaajepmdlbgkeaa
open Go.RowKit

theorem eq_or_ne_zero (v : Int) : v = 0 ∨ v ≠ 0 := by omega

theorem boundTo_mono (b : BldD) : ∀ n k, k < n → boundTo b k ≤ boundTo b n ∧ (b.cars.getD k default).deadline ≤ boundTo b n ∧ serviceF b k ≤ boundTo b n
  | 0, k, h => absurd h (by omega)
  | n + 1, k, h => by
    rw [boundTo]
    rcases Nat.lt_or_ge k n with hlt | hge
    · have := boundTo_mono b n k hlt
      omega
    · obtain rfl : k = n := by omega
      omega

theorem bound_above {b : BldD} (hv : validE b = 0) {k : Nat} (hk : k < b.cars.length) : b.cars[k].deadline < boundF b ∧ serviceF b k < boundF b := by
  have h := boundTo_mono b b.cars.length k hk
  have h0 := boundTo_bd hv b.cars.length (Nat.le_refl _)
  have hg : b.cars.getD k default = b.cars[k] := by simp [List.getD, hk]
  rw [hg] at h
  have hb : boundF b = ((b.cars.length : Int) + 2) * (boundTo b b.cars.length + 2) := if_pos hv
  have hm : 1 * (boundTo b b.cars.length + 2) ≤ ((b.cars.length : Int) + 2) * (boundTo b b.cars.length + 2) := Int.mul_le_mul_of_nonneg_right (by omega) (by omega)
  omega

set_option maxRecDepth 100000 in
set_option maxHeartbeats 20000000 in
theorem lawBounds_loop (f d r p : Int) (e1 e2 e3 : Nat) (cs : List CarD) (A : Option Addr) (cap : Nat) (car : Int) (w : World) (hc : CarsAt w w.heap.size A cs) (hn : cs.length ≤ 140737488355328) (hsm : smallB ⟨f, d, r, p, e1, e2, e3, cs⟩ = true) :
    Calls Try.prog 6 #[.agg #[.int .i64 f, .int .i64 d, .int .i64 r, .int .i64 p, .float .f64 e1, .float .f64 e2, .float .f64 e3, .slice A cs.length cap], .int .i64 car] w fun e w' => e = .returned (.bool true) ∧ Below w.heap.size w w' := by
  have HC := Lib.hid hc
  clear hc
  have HSM := Lib.hid (smallB_at hsm)
  have h20 : cs.length ≤ 20 := HSM.out.1
  have hn' : cs.length ≤ 9223372036854775807 := by omega
  have HA : Hid (∀ k (hk : k < cs.length), validE ⟨f, d, r, p, e1, e2, e3, cs⟩ = 0 → cs[k].deadline < boundF ⟨f, d, r, p, e1, e2, e3, cs⟩ ∧ serviceF ⟨f, d, r, p, e1, e2, e3, cs⟩ k < boundF ⟨f, d, r, p, e1, e2, e3, cs⟩) := fun k hk hv => bound_above hv hk
  obtain ⟨v, hv⟩ : ∃ v, v = validE ⟨f, d, r, p, e1, e2, e3, cs⟩ := ⟨_, rfl⟩
  obtain ⟨B, hB⟩ : ∃ B, B = boundF ⟨f, d, r, p, e1, e2, e3, cs⟩ := ⟨_, rfl⟩
  obtain ⟨q, hq⟩ : ∃ q, q = serviceF ⟨f, d, r, p, e1, e2, e3, cs⟩ car := ⟨_, rfl⟩
  rw [← hv, ← hB] at HA
  have HV := Lib.hid hv
  have HB := Lib.hid hB
  have HQ := Lib.hid hq
  clear hv hB hq
  go_enter Try.func6, Try.ntmps6
  go_wp2_with fail
  refine (small_any ⟨f, d, r, p, e1, e2, e3, cs⟩ A cap _ ((HC.out.below (by go_grown)).more (by simp)) hn').mono ?_
  rw [hsm]
  rintro e w' ⟨rfl, hb1⟩
  have hx : Below (w.heap.size + 1) (w.alloc (.cells #[.int .i64 f, .int .i64 d, .int .i64 r, .int .i64 p, .float .f64 e1, .float .f64 e2, .float .f64 e3, .slice A cs.length cap] 25)) w' := hb1.mono (by simp)
  clear hb1
  go_wp2_with fail
  have HX0 := Lib.hid hx
  clear hx
  go_loopw [5] (fun v5 wr => ∃ z : Int, -1 ≤ z ∧ z ≤ (cs.length : Int) + 1 ∧ v5 = .int .i64 z ∧ Below (w.heap.size + 1) (w.alloc (.cells #[.int .i64 f, .int .i64 d, .int .i64 r, .int .i64 p, .float .f64 e1, .float .f64 e2, .float .f64 e3, .slice A cs.length cap] 25)) wr) (fun v5 _ => ((cs.length : Int) + 2 - intOf v5).toNat)
  case atStart => exact ⟨-1, by omega, by omega, rfl, HX0.out⟩
  case round =>
    clear HX0
    obtain ⟨z, hz1, hz2, rfl, hx⟩ := hrel
    obtain ⟨-, g0, g1, g2, g3, g4, g5, g6, g7⟩ := boxS hx
    have hcase : z = -1 ∨ (∃ k : Nat, z = k ∧ k < cs.length) ∨ z = cs.length ∨ z = (cs.length : Int) + 1 := by
      rcases Int.lt_or_le z 0 with h | h
      · left; omega
      · obtain ⟨k, rfl⟩ := Int.eq_ofNat_of_zero_le h
        rcases Nat.lt_or_ge k cs.length with h' | h'
        · exact .inr (.inl ⟨k, rfl, h'⟩)
        · right; right; omega
    rcases hcase with rfl | ⟨k, rfl, hk⟩ | rfl | rfl
    · have hz3 : (-1 : Int) ≤ cs.length := by omega
      obtain ⟨s, hs⟩ : ∃ s, s = serviceF ⟨f, d, r, p, e1, e2, e3, cs⟩ (-1) := ⟨_, rfl⟩
      have HS := Lib.hid hs
      clear hs
      go_wp2_with fail
      refine (service_any ⟨f, d, r, p, e1, e2, e3, cs⟩ A cap (-1) _ hn ((HC.out.below (below_of_new hx)).more (Nat.le_of_succ_le (box_size hx)))).mono ?_
      rw [← HS.out]
      rintro e w3 ⟨rfl, hb3⟩
      replace hx := hx.trans (hb3.mono (box_size hx))
      clear g0 g1 g2 g3 g4 g5 g6 g7 hb3
      obtain ⟨-, g0, g1, g2, g3, g4, g5, g6, g7⟩ := boxS hx
      go_wp2_with fail
      clear g0 g1 g2 g3 g4 g5 g6 g7
      refine Bag.region (fun wx => Below (w.heap.size + 1) (w.alloc (.cells #[.int .i64 f, .int .i64 d, .int .i64 r, .int .i64 p, .float .f64 e1, .float .f64 e2, .float .f64 e3, .slice A cs.length cap] 25)) wx) (by kernel_rfl) (by kernel_rfl) hx.drew ?_
      clear hx
      iterate 31 (first
        | (apply Bag.walk_yes (by rfl)
           (intro wx hx K hK
            obtain ⟨-, g0, g1, g2, g3, g4, g5, g6, g7⟩ := boxS hx
            go_simp
            first
              | (go_at_call 23; refine (refService_any ⟨f, d, r, p, e1, e2, e3, cs⟩ A cap (-1) _ hn ((HC.out.below (below_of_new hx)).more (Nat.le_of_succ_le (box_size hx)))).mono ?_; rw [← HS.out]; rintro e x1 ⟨rfl, hy⟩; exact hK _ (hx.trans (hy.mono (box_size hx))))
              | (go_at_K; exact hK _ hx))
           rfl)
        | (refine Bag.walk_no (by rfl) ?_; simp only [Act.put, List.setIfInBounds_toArray, List.set_cons_succ, List.set_cons_zero]))
      refine Bag.walk_nil (fun w4 hx => ?_)
      obtain ⟨-, g0, g1, g2, g3, g4, g5, g6, g7⟩ := boxS hx
      go_wp2_with fail
      clear g0 g1 g2 g3 g4 g5 g6 g7
      rcases Bool.eq_false_or_eq_true (v == 0) with hv0 | hv0
      all_goals
        refine Bag.region (fun wx => Below (w.heap.size + 1) (w.alloc (.cells #[.int .i64 f, .int .i64 d, .int .i64 r, .int .i64 p, .float .f64 e1, .float .f64 e2, .float .f64 e3, .slice A cs.length cap] 25)) wx) (by kernel_rfl) (by kernel_rfl) hx.drew ?_
        clear hx
        iterate 31 (first
          | (apply Bag.walk_yes (by rfl)
             (intro wx hx K hK
              obtain ⟨-, g0, g1, g2, g3, g4, g5, g6, g7⟩ := boxS hx
              go_simp
              first
                | (go_at_call 9; refine (refValid_any ⟨f, d, r, p, e1, e2, e3, cs⟩ A cap _ hn ((HC.out.below (below_of_new hx)).more (Nat.le_of_succ_le (box_size hx)))).mono ?_; rw [← HV.out]; rintro e x1 ⟨rfl, hy⟩; exact hK _ (hx.trans (hy.mono (box_size hx))))
                | (go_at_K; exact hK _ hx))
             rfl)
          | (refine Bag.walk_no (by rfl) ?_; simp only [Act.put, List.setIfInBounds_toArray, List.set_cons_succ, List.set_cons_zero]))
        refine Bag.walk_nil (fun w4 hx => ?_)
        obtain ⟨-, g0, g1, g2, g3, g4, g5, g6, g7⟩ := boxS hx
        go_wp2_with fail
        go_roundw
        case rel => exact ⟨0, by omega, by omega, by go_num, hx⟩
        case measure => simp [intOf]; omega
    · obtain ⟨b, off, c1, c2, c3, c4, c5, c6, c7, c8, c9, rfl, hb, hcar, n0, n1, n2, n3, n4, n5, n6, n7, n8⟩ := HC.out.at_ hk
      have hsm' := HSM.out.2 k hk
      simp only [hcar.out] at hsm'
      obtain ⟨⟨hs1, hs2⟩, ⟨hs3, hs4⟩⟩ := hsm'
      have hz3 : (k : Int) ≤ cs.length := by omega
      have hkl : (k : Int) < cs.length := by omega
      obtain ⟨s, hs⟩ : ∃ s, s = serviceF ⟨f, d, r, p, e1, e2, e3, cs⟩ (k : Int) := ⟨_, rfl⟩
      have HS := Lib.hid hs
      clear hs
      go_wp2_with fail
      refine (service_any ⟨f, d, r, p, e1, e2, e3, cs⟩ (some ⟨b, off, none⟩) cap (k : Int) _ hn ((HC.out.below (below_of_new hx)).more (Nat.le_of_succ_le (box_size hx)))).mono ?_
      rw [← HS.out]
      rintro e w3 ⟨rfl, hb3⟩
      replace hx := hx.trans (hb3.mono (box_size hx))
      clear g0 g1 g2 g3 g4 g5 g6 g7 hb3
      obtain ⟨-, g0, g1, g2, g3, g4, g5, g6, g7⟩ := boxS hx
      go_wp2_with fail
      clear g0 g1 g2 g3 g4 g5 g6 g7
      have HAB : Hid (v = 0 → c1 < B ∧ s < B) := fun h => by
        have h2 := HA.out k hk h
        simp only [hcar.out] at h2
        rw [HS.out]
        exact h2
      refine Bag.region (fun wx => Below (w.heap.size + 1) (w.alloc (.cells #[.int .i64 f, .int .i64 d, .int .i64 r, .int .i64 p, .float .f64 e1, .float .f64 e2, .float .f64 e3, .slice (some ⟨b, off, none⟩) cs.length cap] 25)) wx) (by kernel_rfl) (by kernel_rfl) hx.drew ?_
      clear hx
      iterate 31 (first
        | (apply Bag.walk_yes (by rfl)
           (intro wx hx K hK
            obtain ⟨-, g0, g1, g2, g3, g4, g5, g6, g7, m0, m1, m2, m3, m4, m5, m6, m7, m8⟩ := boxCarS hb n0 n1 n2 n3 n4 n5 n6 n7 n8 hx
            go_simp
            first
              | (go_at_call 23; refine (refService_any ⟨f, d, r, p, e1, e2, e3, cs⟩ (some ⟨b, off, none⟩) cap (k : Int) _ hn ((HC.out.below (below_of_new hx)).more (Nat.le_of_succ_le (box_size hx)))).mono ?_; rw [← HS.out]; rintro e x1 ⟨rfl, hy⟩; exact hK _ (hx.trans (hy.mono (box_size hx))))
              | (go_at_call 24; refine (cycle_any ⟨c1, c2, c3, c4, c5, c6, c7, c8, c9⟩ _ ⟨hs1, hs2⟩ ⟨hs3, hs4⟩).mono ?_; rintro e x1 ⟨rfl, hy⟩; exact hK _ (hx.trans (hy.mono (box_size hx))))
              | (go_at_call 25; refine (refCycle_any ⟨c1, c2, c3, c4, c5, c6, c7, c8, c9⟩ _ ⟨hs1, hs2⟩ ⟨hs3, hs4⟩).mono ?_; rintro e x1 ⟨rfl, hy⟩; exact hK _ (hx.trans (hy.mono (box_size hx))))
              | (go_at_K; exact hK _ hx))
           rfl)
        | (refine Bag.walk_no (by rfl) ?_; simp only [Act.put, List.setIfInBounds_toArray, List.set_cons_succ, List.set_cons_zero]))
      refine Bag.walk_nil (fun w4 hx => ?_)
      obtain ⟨-, g0, g1, g2, g3, g4, g5, g6, g7, m0, m1, m2, m3, m4, m5, m6, m7, m8⟩ := boxCarS hb n0 n1 n2 n3 n4 n5 n6 n7 n8 hx
      go_wp2_with fail
      clear g0 g1 g2 g3 g4 g5 g6 g7 m0 m1 m2 m3 m4 m5 m6 m7 m8
      rcases Bool.eq_false_or_eq_true (v == 0) with hv0 | hv0
      · obtain ⟨hB1, hB2⟩ := HAB.out (by simpa using hv0)
        have hd1 : decide (B ≤ s) = false := decide_eq_false (by omega)
        have hd2 : decide (B ≤ c1) = false := decide_eq_false (by omega)
        refine Bag.region (fun wx => Below (w.heap.size + 1) (w.alloc (.cells #[.int .i64 f, .int .i64 d, .int .i64 r, .int .i64 p, .float .f64 e1, .float .f64 e2, .float .f64 e3, .slice (some ⟨b, off, none⟩) cs.length cap] 25)) wx) (by kernel_rfl) (by kernel_rfl) hx.drew ?_
        clear hx
        iterate 31 (first
          | (apply Bag.walk_yes (by rfl)
             (intro wx hx K hK
              obtain ⟨-, g0, g1, g2, g3, g4, g5, g6, g7, m0, m1, m2, m3, m4, m5, m6, m7, m8⟩ := boxCarS hb n0 n1 n2 n3 n4 n5 n6 n7 n8 hx
              go_simp
              first
                | (go_at_call 9; refine (refValid_any ⟨f, d, r, p, e1, e2, e3, cs⟩ (some ⟨b, off, none⟩) cap _ hn ((HC.out.below (below_of_new hx)).more (Nat.le_of_succ_le (box_size hx)))).mono ?_; rw [← HV.out]; rintro e x1 ⟨rfl, hy⟩; exact hK _ (hx.trans (hy.mono (box_size hx))))
                | (go_at_call 17; refine (bound_any ⟨f, d, r, p, e1, e2, e3, cs⟩ (some ⟨b, off, none⟩) cap _ hn ((HC.out.below (below_of_new hx)).more (Nat.le_of_succ_le (box_size hx)))).mono ?_; rw [← HB.out]; rintro e x1 ⟨rfl, hy⟩; exact hK _ (hx.trans (hy.mono (box_size hx))))
                | (go_at_K; exact hK _ hx))
             rfl)
          | (refine Bag.walk_no (by rfl) ?_; simp only [Act.put, List.setIfInBounds_toArray, List.set_cons_succ, List.set_cons_zero]))
        refine Bag.walk_nil (fun w4 hx => ?_)
        obtain ⟨-, g0, g1, g2, g3, g4, g5, g6, g7, m0, m1, m2, m3, m4, m5, m6, m7, m8⟩ := boxCarS hb n0 n1 n2 n3 n4 n5 n6 n7 n8 hx
        go_wp2_with fail
        go_roundw
        case rel => exact ⟨(k : Int) + 1, by omega, by omega, by go_num, hx⟩
        case measure => simp [intOf]; omega
      · skip
        refine Bag.region (fun wx => Below (w.heap.size + 1) (w.alloc (.cells #[.int .i64 f, .int .i64 d, .int .i64 r, .int .i64 p, .float .f64 e1, .float .f64 e2, .float .f64 e3, .slice (some ⟨b, off, none⟩) cs.length cap] 25)) wx) (by kernel_rfl) (by kernel_rfl) hx.drew ?_
        clear hx
        iterate 31 (first
          | (apply Bag.walk_yes (by rfl)
             (intro wx hx K hK
              obtain ⟨-, g0, g1, g2, g3, g4, g5, g6, g7, m0, m1, m2, m3, m4, m5, m6, m7, m8⟩ := boxCarS hb n0 n1 n2 n3 n4 n5 n6 n7 n8 hx
              go_simp
              first
                | (go_at_call 9; refine (refValid_any ⟨f, d, r, p, e1, e2, e3, cs⟩ (some ⟨b, off, none⟩) cap _ hn ((HC.out.below (below_of_new hx)).more (Nat.le_of_succ_le (box_size hx)))).mono ?_; rw [← HV.out]; rintro e x1 ⟨rfl, hy⟩; exact hK _ (hx.trans (hy.mono (box_size hx))))
                | (go_at_K; exact hK _ hx))
             rfl)
          | (refine Bag.walk_no (by rfl) ?_; simp only [Act.put, List.setIfInBounds_toArray, List.set_cons_succ, List.set_cons_zero]))
        refine Bag.walk_nil (fun w4 hx => ?_)
        obtain ⟨-, g0, g1, g2, g3, g4, g5, g6, g7, m0, m1, m2, m3, m4, m5, m6, m7, m8⟩ := boxCarS hb n0 n1 n2 n3 n4 n5 n6 n7 n8 hx
        go_wp2_with fail
        go_roundw
        case rel => exact ⟨(k : Int) + 1, by omega, by omega, by go_num, hx⟩
        case measure => simp [intOf]; omega
    · have hz3 : ¬ (cs.length : Int) < cs.length := by omega
      obtain ⟨s, hs⟩ : ∃ s, s = serviceF ⟨f, d, r, p, e1, e2, e3, cs⟩ (cs.length : Int) := ⟨_, rfl⟩
      have HS := Lib.hid hs
      clear hs
      go_wp2_with fail
      refine (service_any ⟨f, d, r, p, e1, e2, e3, cs⟩ A cap (cs.length : Int) _ hn ((HC.out.below (below_of_new hx)).more (Nat.le_of_succ_le (box_size hx)))).mono ?_
      rw [← HS.out]
      rintro e w3 ⟨rfl, hb3⟩
      replace hx := hx.trans (hb3.mono (box_size hx))
      clear g0 g1 g2 g3 g4 g5 g6 g7 hb3
      obtain ⟨-, g0, g1, g2, g3, g4, g5, g6, g7⟩ := boxS hx
      go_wp2_with fail
      clear g0 g1 g2 g3 g4 g5 g6 g7
      refine Bag.region (fun wx => Below (w.heap.size + 1) (w.alloc (.cells #[.int .i64 f, .int .i64 d, .int .i64 r, .int .i64 p, .float .f64 e1, .float .f64 e2, .float .f64 e3, .slice A cs.length cap] 25)) wx) (by kernel_rfl) (by kernel_rfl) hx.drew ?_
      clear hx
      iterate 31 (first
        | (apply Bag.walk_yes (by rfl)
           (intro wx hx K hK
            obtain ⟨-, g0, g1, g2, g3, g4, g5, g6, g7⟩ := boxS hx
            go_simp
            first
              | (go_at_call 23; refine (refService_any ⟨f, d, r, p, e1, e2, e3, cs⟩ A cap (cs.length : Int) _ hn ((HC.out.below (below_of_new hx)).more (Nat.le_of_succ_le (box_size hx)))).mono ?_; rw [← HS.out]; rintro e x1 ⟨rfl, hy⟩; exact hK _ (hx.trans (hy.mono (box_size hx))))
              | (go_at_K; exact hK _ hx))
           rfl)
        | (refine Bag.walk_no (by rfl) ?_; simp only [Act.put, List.setIfInBounds_toArray, List.set_cons_succ, List.set_cons_zero]))
      refine Bag.walk_nil (fun w4 hx => ?_)
      obtain ⟨-, g0, g1, g2, g3, g4, g5, g6, g7⟩ := boxS hx
      go_wp2_with fail
      clear g0 g1 g2 g3 g4 g5 g6 g7
      rcases Bool.eq_false_or_eq_true (v == 0) with hv0 | hv0
      all_goals
        refine Bag.region (fun wx => Below (w.heap.size + 1) (w.alloc (.cells #[.int .i64 f, .int .i64 d, .int .i64 r, .int .i64 p, .float .f64 e1, .float .f64 e2, .float .f64 e3, .slice A cs.length cap] 25)) wx) (by kernel_rfl) (by kernel_rfl) hx.drew ?_
        clear hx
        iterate 31 (first
          | (apply Bag.walk_yes (by rfl)
             (intro wx hx K hK
              obtain ⟨-, g0, g1, g2, g3, g4, g5, g6, g7⟩ := boxS hx
              go_simp
              first
                | (go_at_call 9; refine (refValid_any ⟨f, d, r, p, e1, e2, e3, cs⟩ A cap _ hn ((HC.out.below (below_of_new hx)).more (Nat.le_of_succ_le (box_size hx)))).mono ?_; rw [← HV.out]; rintro e x1 ⟨rfl, hy⟩; exact hK _ (hx.trans (hy.mono (box_size hx))))
                | (go_at_K; exact hK _ hx))
             rfl)
          | (refine Bag.walk_no (by rfl) ?_; simp only [Act.put, List.setIfInBounds_toArray, List.set_cons_succ, List.set_cons_zero]))
        refine Bag.walk_nil (fun w4 hx => ?_)
        obtain ⟨-, g0, g1, g2, g3, g4, g5, g6, g7⟩ := boxS hx
        go_wp2_with fail
        go_roundw
        case rel => exact ⟨(cs.length : Int) + 1, by omega, by omega, by go_num, hx⟩
        case measure => simp [intOf]; omega
    · have hz3 : ¬ (cs.length : Int) + 1 ≤ cs.length := by omega
      go_wp2_with fail
      clear g0 g1 g2 g3 g4 g5 g6 g7
      refine Bag.region (fun wx => Below (w.heap.size + 1) (w.alloc (.cells #[.int .i64 f, .int .i64 d, .int .i64 r, .int .i64 p, .float .f64 e1, .float .f64 e2, .float .f64 e3, .slice A cs.length cap] 25)) wx) (by kernel_rfl) (by kernel_rfl) hx.drew ?_
      clear hx
      iterate 18 (first
        | (apply Bag.walk_yes (by rfl)
           (intro wx hx K hK
            obtain ⟨-, g0, g1, g2, g3, g4, g5, g6, g7⟩ := boxS hx
            go_simp
            first
              | (go_at_call 22; refine (service_any ⟨f, d, r, p, e1, e2, e3, cs⟩ A cap car _ hn ((HC.out.below (below_of_new hx)).more (Nat.le_of_succ_le (box_size hx)))).mono ?_; rw [← HQ.out]; rintro e x1 ⟨rfl, hy⟩; exact hK _ (hx.trans (hy.mono (box_size hx))))
              | (go_at_call 23; refine (refService_any ⟨f, d, r, p, e1, e2, e3, cs⟩ A cap car _ hn ((HC.out.below (below_of_new hx)).more (Nat.le_of_succ_le (box_size hx)))).mono ?_; rw [← HQ.out]; rintro e x1 ⟨rfl, hy⟩; exact hK _ (hx.trans (hy.mono (box_size hx))))
              | (go_at_call 17; refine (bound_any ⟨f, d, r, p, e1, e2, e3, cs⟩ A cap _ hn ((HC.out.below (below_of_new hx)).more (Nat.le_of_succ_le (box_size hx)))).mono ?_; rw [← HB.out]; rintro e x1 ⟨rfl, hy⟩; exact hK _ (hx.trans (hy.mono (box_size hx))))
              | (go_at_call 18; refine (refBound_any ⟨f, d, r, p, e1, e2, e3, cs⟩ A cap _ hn ((HC.out.below (below_of_new hx)).more (Nat.le_of_succ_le (box_size hx)))).mono ?_; rw [← HB.out]; rintro e x1 ⟨rfl, hy⟩; exact hK _ (hx.trans (hy.mono (box_size hx))))
              | (go_at_call 10; refine (sane_any _).mono ?_; rintro e x1 ⟨rfl, hy⟩; exact hK _ (hx.trans (hy.mono (box_size hx))))
              | (go_at_K; exact hK _ hx))
           rfl)
        | (refine Bag.walk_no (by rfl) ?_; simp only [Act.put, List.setIfInBounds_toArray, List.set_cons_succ, List.set_cons_zero]))
      refine Bag.walk_nil (fun w4 hx => ?_)
      obtain ⟨-, g0, g1, g2, g3, g4, g5, g6, g7⟩ := boxS hx
      go_wp2_with fail
      go_ret
      exact ⟨rfl, below_of_new hx⟩
end Go.Proofs.Ytaajepmdlbgkeaa
