/- building.Bound. -/
import Derived.Test.YtlfihfkiihdkfaaService
namespace Go.Proofs.Ytlfihfkiihdkfaa
open Go.RowKit

/-- The greatest of the Deadlines and Service times of the first k cars. -/
def boundTo (b : BldD) : Nat → Int
  | 0 => 0
  | k + 1 => max (max (boundTo b k) (b.cars.getD k default).deadline) (serviceF b k)

def boundF (b : BldD) : Int := if validE b = 0 then ((b.cars.length : Int) + 2) * (boundTo b b.cars.length + 2) else 0

theorem boundTo_bd {b : BldD} (h : validE b = 0) : ∀ k, k ≤ b.cars.length → 0 ≤ boundTo b k ∧ boundTo b k ≤ 10000000
  | 0, _ => by simp [boundTo]
  | k + 1, hk => by
    have hF := fine_of h
    have ih := boundTo_bd h k (by omega)
    have hs := serviceOf_bound hF.floors (hF.times k (by omega))
    have hd := (hF.times k (by omega)).1
    have hg : b.cars.getD k default = b.cars[k] := by
      have : k < b.cars.length := by omega
      simp [List.getD, this]
    rw [boundTo, serviceF_good h (by omega), hg]
    omega

set_option maxHeartbeats 1000000 in
theorem bound_any (b : BldD) (A : Option Addr) (cap : Nat) (w : World) (hn : b.cars.length ≤ 140737488355328) (hc : CarsAt w w.heap.size A b.cars) :
    Calls Try.prog 17 #[b.agg A cap] w fun e w' => e = .returned (.int .i64 (boundF b)) ∧ Below w.heap.size w w' := by
  have HC := Lib.hid hc
  clear hc
  by_cases hv : validE b = 0
  · have hF := fine_of hv
    have HB := Lib.hid (boundTo_bd hv)
    have HE : Hid (boundF b = ((b.cars.length : Int) + 2) * (boundTo b b.cars.length + 2)) := if_pos hv
    obtain ⟨f, d, r, p, e1, e2, e3, cs⟩ := b
    obtain ⟨⟨hf1, hf2⟩, ⟨hl1, hl2⟩, hT⟩ := hF
    simp only at hf1 hf2 hl1 hl2 hn HC hT
    have HT := Lib.hid hT
    clear hT
    simp only [BldD.agg]
    go_enter Try.func17, Try.ntmps17
    go_wp2_with fail
    refine (valid_any ⟨f, d, r, p, e1, e2, e3, cs⟩ A cap _ hn ((HC.out.below (by go_grown)).more (by simp))).mono ?_
    rintro e w' ⟨rfl, hb1⟩
    obtain ⟨hc1, hf1'⟩ := bcell hb1
    go_wp2_with fail
    have hbel : Below (w.heap.size + 1) (w.alloc (.cells #[.int .i64 f, .int .i64 d, .int .i64 r, .int .i64 p, .float .f64 e1, .float .f64 e2, .float .f64 e3, .slice A cs.length cap] 25)) w' := hb1.mono (by simp)
    clear hc1 hf1' hb1
    have HV := Lib.hid hv
    go_loopw [3, 12] (fun v3 v12 wr => ∃ k : Nat, k ≤ cs.length ∧ v12 = .int .i64 k ∧ v3 = .int .i64 (boundTo ⟨f, d, r, p, e1, e2, e3, cs⟩ k) ∧ Below (w.heap.size + 1) (w.alloc (.cells #[.int .i64 f, .int .i64 d, .int .i64 r, .int .i64 p, .float .f64 e1, .float .f64 e2, .float .f64 e3, .slice A cs.length cap] 25)) wr) (fun _ v12 _ => cs.length - (intOf v12).toNat)
    case atStart => exact ⟨0, Nat.zero_le _, rfl, rfl, hbel⟩
    case round =>
      clear hbel
      obtain ⟨k, hk, rfl, rfl, hbel⟩ := hrel
      obtain ⟨M, hM⟩ : ∃ M, M = boundTo ⟨f, d, r, p, e1, e2, e3, cs⟩ k := ⟨_, rfl⟩
      have hMb := HB.out k hk
      rw [← hM] at hMb
      obtain ⟨hM1, hM2⟩ := hMb
      have HM := Lib.hid hM
      rw [← hM]
      clear hM
      have g7 : wr.cell? ⟨w.heap.size, 7, none⟩ = some (.slice A cs.length cap) := cell_new_below hbel 7
      have hz : w.heap.size < wr.heap.size := by have := hbel.size; simp at this; omega
      by_cases hlt : k < cs.length
      · have HC' := HC.out.below (below_of_new hbel)
        obtain ⟨b, off, c1, c2, c3, c4, c5, c6, c7, c8, c9, rfl, hb, hcar, m0, m1, m2, m3, m4, m5, m6, m7, m8⟩ := HC'.at_ hlt
        clear HC'
        have g0 : wr.cell? ⟨w.heap.size, 0, none⟩ = some (.int .i64 f) := cell_new_below hbel 0
        have g1 : wr.cell? ⟨w.heap.size, 1, none⟩ = some (.int .i64 d) := cell_new_below hbel 1
        have g2 : wr.cell? ⟨w.heap.size, 2, none⟩ = some (.int .i64 r) := cell_new_below hbel 2
        have g3 : wr.cell? ⟨w.heap.size, 3, none⟩ = some (.int .i64 p) := cell_new_below hbel 3
        have g4 : wr.cell? ⟨w.heap.size, 4, none⟩ = some (.float .f64 e1) := cell_new_below hbel 4
        have g5 : wr.cell? ⟨w.heap.size, 5, none⟩ = some (.float .f64 e2) := cell_new_below hbel 5
        have g6 : wr.cell? ⟨w.heap.size, 6, none⟩ = some (.float .f64 e3) := cell_new_below hbel 6
        go_wp2_with fail
        clear m0 m1 m2 m3 m4 m5 m6 m7 m8
        obtain ⟨s, hs⟩ : ∃ s, s = serviceF ⟨f, d, r, p, e1, e2, e3, cs⟩ k := ⟨_, rfl⟩
        have HS := Lib.hid hs
        clear hs
        have hz1 : w.heap.size < wr.heap.size + 1 := by omega
        have HB1 := Lib.hid (below_of_new hbel)
        have hsz := hbel.size
        go_region_held3 (fun wx => wx.cell? ⟨wr.heap.size, 0, none⟩ = some (.int .i64 c1) ∧ wx.cell? ⟨w.heap.size, 0, none⟩ = some (.int .i64 f) ∧ wx.cell? ⟨w.heap.size, 1, none⟩ = some (.int .i64 d) ∧ wx.cell? ⟨w.heap.size, 2, none⟩ = some (.int .i64 r) ∧ wx.cell? ⟨w.heap.size, 3, none⟩ = some (.int .i64 p) ∧ wx.cell? ⟨w.heap.size, 4, none⟩ = some (.float .f64 e1) ∧ wx.cell? ⟨w.heap.size, 5, none⟩ = some (.float .f64 e2) ∧ wx.cell? ⟨w.heap.size, 6, none⟩ = some (.float .f64 e3) ∧ wx.cell? ⟨w.heap.size, 7, none⟩ = some (.slice (some ⟨b, off, none⟩) cs.length cap))
          (go_keep)
          (first | (go_at_call 22; refine (service_any ⟨f, d, r, p, e1, e2, e3, cs⟩ (some ⟨b, off, none⟩) cap k _ hn ((HC.out.below ((HB1.out.alloc (by omega) _).drew)).more (by simp; omega))).mono ?_; rw [← HS.out]; rintro e w3 ⟨rfl, hb3⟩; obtain ⟨hc3, hf3⟩ := bcell hb3))
        have hN : boundTo ⟨f, d, r, p, e1, e2, e3, cs⟩ (k + 1) = if (if M < c1 then c1 else M) < s then s else if M < c1 then c1 else M := by
          have hg : cs.getD k default = cs[k] := by simp [List.getD, hlt]
          rw [boundTo, ← HM.out, ← HS.out]
          show max (max M (cs.getD k default).deadline) s = _
          rw [hg, hcar.out]
          simp only [Int.max_def]
          split <;> split <;> (try split) <;> (try split) <;> omega
        generalize (if (if M < c1 then c1 else M) < s then s else if M < c1 then c1 else M) = N at hN ⊢
        have HN := Lib.hid hN
        clear hN hc3 hf3
        go_wp2
        go_roundw
        case rel => exact ⟨k + 1, by omega, by go_num, by rw [HN.out], hbel.trans (((((Below.refl (w.heap.size + 1) wr).alloc (by omega) _)).drew).trans (hb3.mono (by simp; omega)))⟩
        case measure => simp [intOf]; omega
      · go_wp2
        go_ret
        obtain rfl : k = cs.length := by omega
        refine ⟨ret_int ?_, below_of_new hbel⟩
        rw [HE.out, ← HM.out]
        have a4 : ((cs.length : Int) + 2) * (M + 2) ≤ 10 * 10000002 := Int.mul_le_mul (by omega) (by omega) (by omega) (by decide)
        have a5 : 0 ≤ ((cs.length : Int) + 2) * (M + 2) := Int.mul_nonneg (by omega) (by omega)
        exact IntWalk.wrap64_in _ (by omega)
  · have HE : Hid (boundF b = 0) := if_neg hv
    obtain ⟨f, d, r, p, e1, e2, e3, cs⟩ := b
    simp only at hn HC
    simp only [BldD.agg]
    obtain ⟨v, hw⟩ : ∃ v, v = validE ⟨f, d, r, p, e1, e2, e3, cs⟩ := ⟨_, rfl⟩
    rw [← hw] at hv
    have HW := Lib.hid hw
    clear hw
    go_enter Try.func17, Try.ntmps17
    go_wp2_with fail
    refine (valid_any ⟨f, d, r, p, e1, e2, e3, cs⟩ A cap _ hn ((HC.out.below (by go_grown)).more (by simp))).mono ?_
    rw [← HW.out]
    rintro e w' ⟨rfl, hb1⟩
    have hbel := ((Below.refl w.heap.size w).alloc (Nat.le_refl _) _).trans (hb1.mono (by simp))
    go_wp2_with fail
    go_ret
    exact ⟨ret_int HE.out.symm, hbel⟩
end Go.Proofs.Ytlfihfkiihdkfaa
