/- building.Cycle and building.Service. -/
import Derived.Test.YtlfihfkiihdkfaaValid
namespace Go.Proofs.Ytlfihfkiihdkfaa
open Go.RowKit

theorem bcell {W w1 : World} (hb : Below W.heap.size W w1) : (∀ b o, b < W.heap.size → w1.cell? ⟨b, o, none⟩ = W.cell? ⟨b, o, none⟩) ∧ (∀ b o, b < W.heap.size → w1.frozen? ⟨b, o, none⟩ = W.frozen? ⟨b, o, none⟩) :=
  ⟨fun b o h => hb.cell (p := ⟨b, o, none⟩) h, fun b o h => hb.frozen (p := ⟨b, o, none⟩) h⟩

def CarOk (f : Int) (c : CarD) : Prop :=
  (1 ≤ c.deadline ∧ c.deadline ≤ 10000) ∧ (1 ≤ c.step ∧ c.step ≤ 10000) ∧ (1 ≤ c.travel ∧ c.travel ≤ 10000) ∧ (1 ≤ c.dwell ∧ c.dwell ≤ c.hold) ∧ (c.hold ≤ 10000) ∧ (0 ≤ c.home ∧ c.home ≤ f - 1)

structure Fine (b : BldD) : Prop where
  floors : 2 ≤ b.floors ∧ b.floors ≤ 32
  cars : 1 ≤ b.cars.length ∧ b.cars.length ≤ 8
  times : ∀ k (h : k < b.cars.length), CarOk b.floors b.cars[k]

theorem fine_of {b : BldD} (h : validE b = 0) : Fine b := by
  unfold validE at h
  split at h
  · exact absurd h (by decide)
  · split at h
    · exact absurd h (by decide)
    · split at h
      · exact absurd h (by decide)
      · rename_i h1 h2 h3
        have h1 := inAll_one (by simpa using h1)
        have h2 := inAll_one (by simpa using h2)
        have h3 : timesFitB b = true := by simpa using h3
        refine ⟨h1, by omega, fun k hk => ?_⟩
        unfold timesFitB at h3
        rw [Bool.and_eq_true, Bool.and_eq_true, List.all_eq_true] at h3
        have hc := h3.2.2 _ (List.getElem_mem hk)
        generalize b.cars[k] = c at hc ⊢
        obtain ⟨c1, c2, c3, c4, c5, c6, c7, c8, c9⟩ := c
        simp [carFitsB, inAll] at hc
        simp only [CarOk]
        omega

def cycleF (c : CarD) : Int := 2 * c.travel + c.hold + 3

theorem cycle_any (c : CarD) (w : World) (h1 : -1000000 ≤ c.travel ∧ c.travel ≤ 1000000) (h2 : -1000000 ≤ c.hold ∧ c.hold ≤ 1000000) :
    Calls Try.prog 24 #[c.agg] w fun e w' => e = .returned (.int .i64 (cycleF c)) ∧ Below w.heap.size w w' := by
  obtain ⟨c1, c2, c3, c4, c5, c6, c7, c8, c9⟩ := c
  simp only at h1 h2
  obtain ⟨h1, h1'⟩ := h1
  obtain ⟨h2, h2'⟩ := h2
  simp only [CarD.agg]
  go_enter Try.func24, Try.ntmps24
  go_wp2
  go_ret
  exact ⟨rfl, by go_grown⟩

def serviceOf (f : Int) (c : CarD) : Int := (3 * f + 1) * (3 * cycleF c + c.step + 2)

/-- What Service returns. -/
def serviceF (b : BldD) (car : Int) : Int :=
  if validE b = 0 ∧ 0 ≤ car ∧ car < b.cars.length then serviceOf b.floors (b.cars.getD car.toNat default) else 0

theorem serviceF_bad {b : BldD} {car : Int} (h : ¬ (validE b = 0 ∧ 0 ≤ car ∧ car < b.cars.length)) : serviceF b car = 0 := if_neg h
theorem serviceF_good {b : BldD} {k : Nat} (h : validE b = 0) (hk : k < b.cars.length) : serviceF b k = serviceOf b.floors b.cars[k] := by
  unfold serviceF
  rw [if_pos ⟨h, by omega, by omega⟩]
  simp [List.getD, hk]

theorem serviceOf_bound {f : Int} {c : CarD} (hf : 2 ≤ f ∧ f ≤ 32) (hc : CarOk f c) : 0 ≤ serviceOf f c ∧ serviceOf f c ≤ 10000000 := by
  unfold serviceOf cycleF
  unfold CarOk at hc
  obtain ⟨k, rfl⟩ := Int.eq_ofNat_of_zero_le (by omega : 0 ≤ f)
  have hk : k ≤ 32 := by omega
  have hX : 0 ≤ 3 * (2 * c.travel + c.hold + 3) + c.step + 2 ∧ 3 * (2 * c.travel + c.hold + 3) + c.step + 2 ≤ 100100 := by omega
  generalize 3 * (2 * c.travel + c.hold + 3) + c.step + 2 = X at hX
  have h1 : 0 ≤ (3 * (k : Int) + 1) := by omega
  have h2 : (3 * (k : Int) + 1) ≤ 97 := by omega
  exact ⟨Int.mul_nonneg h1 hX.1, Int.le_trans (Int.mul_le_mul h2 hX.2 hX.1 (by decide)) (by decide)⟩

theorem service_wrap {f y s : Int} (h1 : 0 ≤ f) (h2 : f ≤ 32) (h3 : 0 ≤ y) (h4 : y ≤ 100000) (h5 : 0 ≤ s) (h6 : s ≤ 10000) :
    IntKind.i64.wrap (IntKind.i64.wrap (IntKind.i64.wrap (3 * f) + 1) * IntKind.i64.wrap (IntKind.i64.wrap (IntKind.i64.wrap (3 * y) + s) + 2)) = (3 * f + 1) * (3 * y + s + 2) := by
  rw [IntWalk.i64_in (3 * f) (by omega), IntWalk.i64_in (3 * y) (by omega), IntWalk.i64_in (3 * f + 1) (by omega), IntWalk.i64_in (3 * y + s) (by omega), IntWalk.i64_in (3 * y + s + 2) (by omega)]
  have hX : 0 ≤ 3 * y + s + 2 ∧ 3 * y + s + 2 ≤ 400000 := by omega
  generalize 3 * y + s + 2 = X at hX
  have a1 : 0 ≤ 3 * f + 1 := by omega
  have a2 : 3 * f + 1 ≤ 97 := by omega
  have a3 := Int.mul_nonneg a1 hX.1
  have a4 : (3 * f + 1) * X ≤ 97 * 400000 := Int.mul_le_mul a2 hX.2 hX.1 (by decide)
  exact IntWalk.i64_in _ (by omega)

set_option maxHeartbeats 1000000 in
theorem service_any (b : BldD) (A : Option Addr) (cap : Nat) (car : Int) (w : World) (hn : b.cars.length ≤ 140737488355328) (hc : CarsAt w w.heap.size A b.cars) :
    Calls Try.prog 22 #[b.agg A cap, .int .i64 car] w fun e w' => e = .returned (.int .i64 (serviceF b car)) ∧ Below w.heap.size w w' := by
  have HC := Lib.hid hc
  clear hc
  by_cases hv : validE b = 0
  · have hF := fine_of hv
    obtain ⟨f, d, r, p, e1, e2, e3, cs⟩ := b
    obtain ⟨⟨hf1, hf2⟩, ⟨hl1, hl2⟩, hT⟩ := hF
    simp only at hf1 hf2 hl1 hl2 hn HC hT
    have HT := Lib.hid hT
    clear hT
    have HV := Lib.hid hv
    simp only [BldD.agg]
    rcases Bool.eq_false_or_eq_true (inAll 0 ((cs.length : Int) - 1) [car]) with h1 | h1
    · obtain ⟨h0, h2⟩ := inAll_one h1
      obtain ⟨k, rfl⟩ := Int.eq_ofNat_of_zero_le h0
      have hk : k < cs.length := by omega
      have HS := Lib.hid (serviceF_good hv hk)
      have HSO := Lib.hid (serviceOf_bound ⟨hf1, hf2⟩ (HT.out k hk))
      go_enter Try.func22, Try.ntmps22
      go_wp2_with fail
      refine (valid_any ⟨f, d, r, p, e1, e2, e3, cs⟩ A cap _ hn ((HC.out.below (by go_grown)).more (by simp))).mono ?_
      rintro e w' ⟨rfl, hb1⟩
      have hbel := ((Below.refl w.heap.size w).alloc (Nat.le_refl _) _).trans (hb1.mono (by simp))
      obtain ⟨b, off, c1, c2, c3, c4, c5, c6, c7, c8, c9, rfl, hb, hcar, m0, m1, m2, m3, m4, m5, m6, m7, m8⟩ := (HC.out.below hbel).at_ hk
      have hz : w.heap.size < w'.heap.size := by have := hb1.size; simp at this; omega
      have hz2 : b < w'.heap.size := by omega
      obtain ⟨hc1, hf1'⟩ := bcell hb1
      have hck := HT.out k hk
      rw [hcar.out] at hck
      simp only [CarOk] at hck
      obtain ⟨-, ⟨hs1, hs2⟩, ⟨ht1, ht2⟩, ⟨hd1, hd2⟩, hh, -⟩ := hck
      go_wp2_with (go_at_call 26; refine (within_new _ _ _ _ _ _ _ _ _ (by simp) (by rfl) (by omega) (by repeat constructor)).mono ?_; rintro e w2 ⟨rfl, rfl⟩)
      clear m0 m1 m2 m3 m4 m5 m6 m7 m8
      have g0 : w'.cell? ⟨w.heap.size, 0, none⟩ = some (.int .i64 f) := by rw [hc1 _ _ (by simp), cell_of_row _ _ _ _ _ (0, 0) (heap_alloc_new w _)]; rfl
      have hz3 : w.heap.size < w'.heap.size + 1 := by omega
      have hz4 : w.heap.size < w'.heap.size + 1 + 1 := by omega
      clear hc1 hf1'
      go_region_held3 (fun wx => wx.cell? ⟨w.heap.size, 0, none⟩ = some (.int .i64 f) ∧ wx.cell? ⟨w'.heap.size + 1, 0, none⟩ = some (.int .i64 c1) ∧ wx.cell? ⟨w'.heap.size + 1, 1, none⟩ = some (.int .i64 c2) ∧ wx.cell? ⟨w'.heap.size + 1, 2, none⟩ = some (.int .i64 c3) ∧ wx.cell? ⟨w'.heap.size + 1, 3, none⟩ = some (.int .i64 c4) ∧ wx.cell? ⟨w'.heap.size + 1, 4, none⟩ = some (.int .i64 c5) ∧ wx.cell? ⟨w'.heap.size + 1, 5, none⟩ = some (.int .i64 c6) ∧ wx.cell? ⟨w'.heap.size + 1, 6, none⟩ = some (.int .i64 c7) ∧ wx.cell? ⟨w'.heap.size + 1, 7, none⟩ = some (.int .i64 c8) ∧ wx.cell? ⟨w'.heap.size + 1, 8, none⟩ = some (.int .i64 c9))
        (go_keep)
        (first | (go_at_call 24; refine (cycle_any ⟨c1, c2, c3, c4, c5, c6, c7, c8, c9⟩ _ (by simp only; omega) (by simp only; omega)).mono ?_; rintro e w3 ⟨rfl, hb3⟩; obtain ⟨hc3, hf3⟩ := bcell hb3))
      go_wp2
      go_ret
      refine ⟨ret_int ?_, hbel.trans (Below.trans (by go_grown) (hb3.mono (by simp; omega)))⟩
      rw [HS.out, hcar.out]
      exact service_wrap (by omega) hf2 (by simp only [cycleF]; omega) (by simp only [cycleF]; omega) (by omega) hs2
    · have HS := Lib.hid (serviceF_bad (b := ⟨f, d, r, p, e1, e2, e3, cs⟩) (car := car) (by
        rintro ⟨-, ha, hb⟩
        simp only at hb
        simp [inAll] at h1
        omega))
      go_enter Try.func22, Try.ntmps22
      go_wp2_with fail
      refine (valid_any ⟨f, d, r, p, e1, e2, e3, cs⟩ A cap _ hn ((HC.out.below (by go_grown)).more (by simp))).mono ?_
      rintro e w' ⟨rfl, hb1⟩
      have hbel := ((Below.refl w.heap.size w).alloc (Nat.le_refl _) _).trans (hb1.mono (by simp))
      obtain ⟨hc1, hf1'⟩ := bcell hb1
      have hz := hbel.size
      go_wp2_with (go_at_call 26; refine (within_new _ _ _ _ _ _ _ _ _ (by simp) (by rfl) (by omega) (by repeat constructor)).mono ?_; rintro e w2 ⟨rfl, rfl⟩)
      go_ret
      exact ⟨ret_int HS.out.symm, hbel.alloc hz _⟩
  · have HS := Lib.hid (serviceF_bad (b := b) (car := car) (fun h => hv h.1))
    obtain ⟨f, d, r, p, e1, e2, e3, cs⟩ := b
    simp only at hn HC
    simp only [BldD.agg]
    obtain ⟨v, hw⟩ : ∃ v, v = validE ⟨f, d, r, p, e1, e2, e3, cs⟩ := ⟨_, rfl⟩
    rw [← hw] at hv
    have HW := Lib.hid hw
    clear hw
    go_enter Try.func22, Try.ntmps22
    go_wp2_with fail
    refine (valid_any ⟨f, d, r, p, e1, e2, e3, cs⟩ A cap _ hn ((HC.out.below (by go_grown)).more (by simp))).mono ?_
    rw [← HW.out]
    rintro e w' ⟨rfl, hb1⟩
    have hbel := ((Below.refl w.heap.size w).alloc (Nat.le_refl _) _).trans (hb1.mono (by simp))
    go_wp2_with fail
    go_ret
    exact ⟨ret_int HS.out.symm, hbel⟩
end Go.Proofs.Ytlfihfkiihdkfaa
