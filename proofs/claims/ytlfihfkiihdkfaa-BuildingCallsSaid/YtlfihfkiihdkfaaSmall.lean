/- The law's small: whether the times of a building can be multiplied. -/
import Derived.Test.YtlfihfkiihdkfaaService
namespace Go.Proofs.Ytlfihfkiihdkfaa
open Go.RowKit

def carSmall (c : CarD) : Bool := decide (-1000000 ≤ c.travel ∧ c.travel ≤ 1000000 ∧ -1000000 ≤ c.hold ∧ c.hold ≤ 1000000)
def smallB (b : BldD) : Bool := (b.cars.take 20).all carSmall && decide (b.cars.length ≤ 20)

theorem smallB_at {b : BldD} (h : smallB b = true) : b.cars.length ≤ 20 ∧ ∀ k (hk : k < b.cars.length), (-1000000 ≤ b.cars[k].travel ∧ b.cars[k].travel ≤ 1000000) ∧ (-1000000 ≤ b.cars[k].hold ∧ b.cars[k].hold ≤ 1000000) := by
  unfold smallB at h
  rw [Bool.and_eq_true, decide_eq_true_iff] at h
  refine ⟨h.2, fun k hk => ?_⟩
  have h1 := h.1
  rw [List.take_of_length_le h.2, List.all_eq_true] at h1
  have := h1 _ (List.getElem_mem hk)
  unfold carSmall at this
  rw [decide_eq_true_iff] at this
  omega

theorem take_all_succ (p : CarD → Bool) (cs : List CarD) (k : Nat) (h : k < cs.length) : (cs.take (k + 1)).all p = ((cs.take k).all p && p cs[k]) := all_take_succ p cs k h

set_option maxHeartbeats 1000000 in
theorem small_any (b : BldD) (A : Option Addr) (cap : Nat) (w : World) (hc : CarsAt w w.heap.size A b.cars) (hn : b.cars.length ≤ 9223372036854775807) :
    Calls Try.prog 19 #[b.agg A cap] w fun e w' => e = .returned (.bool (smallB b)) ∧ Below w.heap.size w w' := by
  obtain ⟨f, d, r, p, e1, e2, e3, cs⟩ := b
  simp only at hc hn
  have HC := Lib.hid hc
  clear hc
  have E0 : smallB ⟨f, d, r, p, e1, e2, e3, cs⟩ = ((cs.take 20).all carSmall && decide (cs.length ≤ 20)) := rfl
  have E1 := Lib.hid E0
  clear E0
  simp only [BldD.agg]
  go_enter Try.func19, Try.ntmps19
  go_wp2
  go_loopw [3] (fun v wr => ∃ k : Nat, k ≤ 20 ∧ k ≤ cs.length ∧ v = .int .i64 k ∧ Hid ((cs.take k).all carSmall = true) ∧ Below (w.heap.size + 1) (w.alloc (.cells #[.int .i64 f, .int .i64 d, .int .i64 r, .int .i64 p, .float .f64 e1, .float .f64 e2, .float .f64 e3, .slice A cs.length cap] 25)) wr) (fun v _ => 20 - (intOf v).toNat)
  case atStart => exact ⟨0, Nat.zero_le _, Nat.zero_le _, rfl, rfl, by go_grown⟩
  case round =>
    obtain ⟨k, hk20, hk, rfl, hall, hbel⟩ := hrel
    have g7 : wr.cell? ⟨w.heap.size, 7, none⟩ = some (.slice A cs.length cap) := cell_new_below hbel 7
    have hz : w.heap.size < wr.heap.size := by have := hbel.size; simp at this; omega
    by_cases hlt : k < cs.length
    · by_cases hlt2 : k < 20
      · have HC' := HC.out.below (below_of_new hbel)
        obtain ⟨b, off, c1, c2, c3, c4, c5, c6, c7, c8, c9, rfl, hb, hcar, m0, m1, m2, m3, m4, m5, m6, m7, m8⟩ := HC'.at_ hlt
        clear HC'
        have hcs : carSmall cs[k] = decide (-1000000 ≤ c6 ∧ c6 ≤ 1000000 ∧ -1000000 ≤ c8 ∧ c8 ≤ 1000000) := by rw [hcar.out]; rfl
        have HS := Lib.hid hcs
        clear hcs
        by_cases hok : -1000000 ≤ c6 ∧ c6 ≤ 1000000 ∧ -1000000 ≤ c8 ∧ c8 ≤ 1000000
        · obtain ⟨o1, o2, o3, o4⟩ := hok
          go_wp2
          go_roundw
          case rel =>
            refine ⟨k + 1, by omega, by omega, by go_num, ?_, hbel.trans ((Below.refl _ _).alloc (by omega) _)⟩
            show _ = _
            rw [all_take_succ _ _ k hlt, hall.out, HS.out, decide_eq_true ⟨o1, o2, o3, o4⟩]
            rfl
          case measure => simp [intOf]; omega
        · have hfalse : (cs.take 20).all carSmall = false := by
            rw [List.all_eq_false]
            refine ⟨cs[k], ?_, by rw [HS.out, decide_eq_false hok]; simp⟩
            have : (cs.take 20)[k]'(by simp; omega) = cs[k] := by simp
            rw [← this]
            exact List.getElem_mem _
          have HF := Lib.hid hfalse
          clear hfalse
          have hcase : c6 < -1000000 ∨ (-1000000 ≤ c6 ∧ 1000000 < c6) ∨ (-1000000 ≤ c6 ∧ c6 ≤ 1000000 ∧ c8 < -1000000) ∨ (-1000000 ≤ c6 ∧ c6 ≤ 1000000 ∧ -1000000 ≤ c8 ∧ 1000000 < c8) := by omega
          clear hok
          rcases hcase with o | ⟨o, o'⟩ | ⟨o, o', o''⟩ | ⟨o, o', o'', o'''⟩
          all_goals
            go_wp2
            go_ret
            exact ⟨ret_bool (by rw [E1.out, HF.out]; rfl), (below_of_new hbel).alloc (by omega) _⟩
      · obtain rfl : k = 20 := by omega
        go_wp2
        go_ret
        exact ⟨ret_bool (by rw [E1.out, hall.out]; simp; omega), below_of_new hbel⟩
    · obtain rfl : k = cs.length := by omega
      go_wp2
      go_ret
      refine ⟨ret_bool ?_, below_of_new hbel⟩
      have h := hall.out
      rw [List.take_of_length_le (Nat.le_refl _)] at h
      rw [E1.out, List.take_of_length_le hk20, h]
      simp; omega
end Go.Proofs.Ytlfihfkiihdkfaa
