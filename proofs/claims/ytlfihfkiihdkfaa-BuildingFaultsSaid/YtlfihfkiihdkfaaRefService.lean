/- The reference's Cycle and Service: the same numbers. -/
import Derived.Test.YtlfihfkiihdkfaaRefValid
import Derived.Test.YtlfihfkiihdkfaaService
namespace Go.Proofs.Ytlfihfkiihdkfaa
open Go.RowKit

theorem refCycle_any (c : CarD) (w : World) (h1 : -1000000 ≤ c.travel ∧ c.travel ≤ 1000000) (h2 : -1000000 ≤ c.hold ∧ c.hold ≤ 1000000) :
    Calls Try.prog 25 #[c.agg] w fun e w' => e = .returned (.int .i64 (cycleF c)) ∧ Below w.heap.size w w' := by
  obtain ⟨c1, c2, c3, c4, c5, c6, c7, c8, c9⟩ := c
  simp only at h1 h2
  obtain ⟨h1, h1'⟩ := h1
  obtain ⟨h2, h2'⟩ := h2
  simp only [CarD.agg]
  go_enter Try.func25, Try.ntmps25
  go_wp2
  go_ret
  exact ⟨rfl, by go_grown⟩

set_option maxHeartbeats 1000000 in
theorem refService_any (b : BldD) (A : Option Addr) (cap : Nat) (car : Int) (w : World) (hn : b.cars.length ≤ 140737488355328) (hc : CarsAt w w.heap.size A b.cars) :
    Calls Try.prog 23 #[b.agg A cap, .int .i64 car] w fun e w' => e = .returned (.int .i64 (serviceF b car)) ∧ Below w.heap.size w w' := by
  have HC := Lib.hid hc
  clear hc
  by_cases hv : validE b = 0
  · have hF := fine_of hv
    obtain ⟨f, d, r, p, e1, e2, e3, cs⟩ := b
    obtain ⟨⟨hf1, hf2⟩, ⟨hl1, hl2⟩, hT⟩ := hF
    simp only at hf1 hf2 hl1 hl2 hn HC hT
    have HT := Lib.hid hT
    clear hT
    have HV := Lib.hid hv
    simp only [BldD.agg]
    by_cases hin : 0 ≤ car ∧ car < cs.length
    · obtain ⟨h0, h2⟩ := hin
      obtain ⟨k, rfl⟩ := Int.eq_ofNat_of_zero_le h0
      have hk : k < cs.length := by omega
      have HS := Lib.hid (serviceF_good hv hk)
      go_enter Try.func23, Try.ntmps23
      go_wp2_with fail
      refine (refValid_any ⟨f, d, r, p, e1, e2, e3, cs⟩ A cap _ hn ((HC.out.below (by go_grown)).more (by simp))).mono ?_
      rintro e w' ⟨rfl, hb1⟩
      have hbel := ((Below.refl w.heap.size w).alloc (Nat.le_refl _) _).trans (hb1.mono (by simp))
      obtain ⟨b, off, c1, c2, c3, c4, c5, c6, c7, c8, c9, rfl, hb, hcar, m0, m1, m2, m3, m4, m5, m6, m7, m8⟩ := (HC.out.below hbel).at_ hk
      have hz : w.heap.size < w'.heap.size := by have := hb1.size; simp at this; omega
      have hz2 : b < w'.heap.size := by omega
      obtain ⟨hc1, hf1'⟩ := bcell hb1
      have hck := HT.out k hk
      rw [hcar.out] at hck
      simp only [CarOk] at hck
      obtain ⟨-, ⟨hs1, hs2⟩, ⟨ht1, ht2⟩, ⟨hd1, hd2⟩, hh, -⟩ := hck
      go_wp2_with fail
      clear m0 m1 m2 m3 m4 m5 m6 m7 m8
      have g0 : w'.cell? ⟨w.heap.size, 0, none⟩ = some (.int .i64 f) := by rw [hc1 _ _ (by simp), cell_of_row _ _ _ _ _ (0, 0) (heap_alloc_new w _)]; rfl
      have hz3 : w.heap.size < w'.heap.size + 1 := by omega
      clear hc1 hf1'
      go_region_held3 (fun wx => wx.cell? ⟨w.heap.size, 0, none⟩ = some (.int .i64 f) ∧ wx.cell? ⟨w'.heap.size, 0, none⟩ = some (.int .i64 c1) ∧ wx.cell? ⟨w'.heap.size, 1, none⟩ = some (.int .i64 c2) ∧ wx.cell? ⟨w'.heap.size, 2, none⟩ = some (.int .i64 c3) ∧ wx.cell? ⟨w'.heap.size, 3, none⟩ = some (.int .i64 c4) ∧ wx.cell? ⟨w'.heap.size, 4, none⟩ = some (.int .i64 c5) ∧ wx.cell? ⟨w'.heap.size, 5, none⟩ = some (.int .i64 c6) ∧ wx.cell? ⟨w'.heap.size, 6, none⟩ = some (.int .i64 c7) ∧ wx.cell? ⟨w'.heap.size, 7, none⟩ = some (.int .i64 c8) ∧ wx.cell? ⟨w'.heap.size, 8, none⟩ = some (.int .i64 c9))
        (go_keep)
        (first | (go_at_call 25; refine (refCycle_any ⟨c1, c2, c3, c4, c5, c6, c7, c8, c9⟩ _ (by simp only; omega) (by simp only; omega)).mono ?_; rintro e w3 ⟨rfl, hb3⟩; obtain ⟨hc3, hf3⟩ := bcell hb3))
      go_wp2
      go_ret
      refine ⟨ret_int ?_, hbel.trans (Below.trans (by go_grown) (hb3.mono (by simp; omega)))⟩
      rw [HS.out, hcar.out]
      exact service_wrap (by omega) hf2 (by simp only [cycleF]; omega) (by simp only [cycleF]; omega) (by omega) hs2
    · have HS := Lib.hid (serviceF_bad (b := ⟨f, d, r, p, e1, e2, e3, cs⟩) (car := car) (fun h => hin h.2))
      have hin2 : car < 0 ∨ (0 ≤ car ∧ (cs.length : Int) ≤ car) := by omega
      clear hin
      rcases hin2 with hin | ⟨hin, hin'⟩
      all_goals
        go_enter Try.func23, Try.ntmps23
        go_wp2_with fail
        refine (refValid_any ⟨f, d, r, p, e1, e2, e3, cs⟩ A cap _ hn ((HC.out.below (by go_grown)).more (by simp))).mono ?_
        rintro e w' ⟨rfl, hb1⟩
        have hbel := ((Below.refl w.heap.size w).alloc (Nat.le_refl _) _).trans (hb1.mono (by simp))
        obtain ⟨hc1, hf1'⟩ := bcell hb1
        go_wp2_with fail
        go_ret
        exact ⟨ret_int HS.out.symm, hbel⟩
  · have HS := Lib.hid (serviceF_bad (b := b) (car := car) (fun h => hv h.1))
    obtain ⟨f, d, r, p, e1, e2, e3, cs⟩ := b
    simp only at hn HC
    simp only [BldD.agg]
    obtain ⟨v, hw⟩ : ∃ v, v = validE ⟨f, d, r, p, e1, e2, e3, cs⟩ := ⟨_, rfl⟩
    rw [← hw] at hv
    have HW := Lib.hid hw
    clear hw
    go_enter Try.func23, Try.ntmps23
    go_wp2_with fail
    refine (refValid_any ⟨f, d, r, p, e1, e2, e3, cs⟩ A cap _ hn ((HC.out.below (by go_grown)).more (by simp))).mono ?_
    rw [← HW.out]
    rintro e w' ⟨rfl, hb1⟩
    have hbel := ((Below.refl w.heap.size w).alloc (Nat.le_refl _) _).trans (hb1.mono (by simp))
    go_wp2_with fail
    go_ret
    exact ⟨ret_int HS.out.symm, hbel⟩
end Go.Proofs.Ytlfihfkiihdkfaa
