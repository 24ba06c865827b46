/- What the texts behind this one rest on: one text. No statement of the seat is proved here. -/
import Derived.Test.YtifbkoaggjikpaaLM05
import Derived.Test.YtifbkoaggjikpaaLM04
namespace Go.Proofs.Ytifbkoaggjikpaa
section
open Go.RowKit

def isCallF (b : BldD) (floor dir : Int) : Bool :=
  decide (validE b = 0) && ((decide (dir = 1) && inAll 0 (b.floors - 2) [floor]) || (decide (dir = 2) && inAll 1 (b.floors - 1) [floor]))

theorem isCallF_bad {b : BldD} {floor dir : Int} (h : ¬ validE b = 0) : isCallF b floor dir = false := by simp [isCallF, h]

set_option maxHeartbeats 2000000 in
theorem isCall_any (b : BldD) (A : Option Addr) (cap : Nat) (floor dir : Int) (w : World) (hn : b.cars.length ≤ 140737488355328) (hc : CarsAt w w.heap.size A b.cars) :
    Calls Try.prog 91 #[b.agg A cap, .int .i64 floor, .int .i64 dir] w fun e w' => e = .returned (.bool (isCallF b floor dir)) ∧ Below w.heap.size w w' := by
  have HC := Lib.hid hc
  clear hc
  by_cases hv : validE b = 0
  · have hF := fine_of hv
    have HE : Hid (isCallF b floor dir = ((decide (dir = 1) && inAll 0 (b.floors - 2) [floor]) || (decide (dir = 2) && inAll 1 (b.floors - 1) [floor]))) := by show _ = _; simp [isCallF, hv]
    obtain ⟨f, d, r, p, e1, e2, e3, cs⟩ := b
    obtain ⟨⟨hf1, hf2⟩, -, -⟩ := hF
    simp only at hf1 hf2 hn HC HE
    simp only [BldD.agg]
    have hdir : dir = 1 ∨ dir = 2 ∨ (dir ≠ 1 ∧ dir ≠ 2) := by omega
    rcases hdir with rfl | rfl | ⟨hd1, hd2⟩
    all_goals
      go_enter Try.func91, Try.ntmps91
      go_wp2_with fail
      refine (valid_any ⟨f, d, r, p, e1, e2, e3, cs⟩ A cap _ hn ((HC.out.below (by go_grown)).more (by simp))).mono ?_
      rintro e w' ⟨rfl, hb1⟩
      have hbel := ((Below.refl w.heap.size w).alloc (Nat.le_refl _) _).trans (hb1.mono (by simp))
      obtain ⟨hc1, hf1'⟩ := bcell hb1
      have hz := hbel.size
      go_wp2_with (go_at_call 55; refine (within_new _ _ _ _ _ _ _ _ _ (by simp) (by rfl) (by omega) (by repeat constructor)).mono ?_; rintro e w2 ⟨rfl, rfl⟩)
      go_ret
      refine ⟨ret_bool (by rw [HE.out]; simp [*]), ?_⟩
      first | exact hbel | exact hbel.alloc hz _
  · have HS := Lib.hid (isCallF_bad (floor := floor) (dir := dir) hv)
    obtain ⟨f, d, r, p, e1, e2, e3, cs⟩ := b
    simp only at hn HC
    simp only [BldD.agg]
    obtain ⟨v, hw⟩ : ∃ v, v = validE ⟨f, d, r, p, e1, e2, e3, cs⟩ := ⟨_, rfl⟩
    rw [← hw] at hv
    have HW := Lib.hid hw
    clear hw
    go_enter Try.func91, Try.ntmps91
    go_wp2_with fail
    refine (valid_any ⟨f, d, r, p, e1, e2, e3, cs⟩ A cap _ hn ((HC.out.below (by go_grown)).more (by simp))).mono ?_
    rw [← HW.out]
    rintro e w' ⟨rfl, hb1⟩
    have hbel := ((Below.refl w.heap.size w).alloc (Nat.le_refl _) _).trans (hb1.mono (by simp))
    go_wp2_with fail
    go_ret
    exact ⟨ret_bool HS.out.symm, hbel⟩

set_option maxHeartbeats 2000000 in
theorem refIsCall_any (b : BldD) (A : Option Addr) (cap : Nat) (floor dir : Int) (w : World) (hn : b.cars.length ≤ 140737488355328) (hc : CarsAt w w.heap.size A b.cars) :
    Calls Try.prog 73 #[b.agg A cap, .int .i64 floor, .int .i64 dir] w fun e w' => e = .returned (.bool (isCallF b floor dir)) ∧ Below w.heap.size w w' := by
  have HC := Lib.hid hc
  clear hc
  by_cases hv : validE b = 0
  · have hF := fine_of hv
    have HE : Hid (isCallF b floor dir = ((decide (dir = 1) && inAll 0 (b.floors - 2) [floor]) || (decide (dir = 2) && inAll 1 (b.floors - 1) [floor]))) := by show _ = _; simp [isCallF, hv]
    obtain ⟨f, d, r, p, e1, e2, e3, cs⟩ := b
    obtain ⟨⟨hf1, hf2⟩, -, -⟩ := hF
    simp only at hf1 hf2 hn HC HE
    simp only [BldD.agg]
    have hdir : dir = 1 ∨ dir = 2 ∨ (dir ≠ 1 ∧ dir ≠ 2) := by omega
    rcases Bool.eq_false_or_eq_true (inAll 0 (f - 2) [floor]) with q1 | q1
    all_goals
      rcases hdir with rfl | rfl | ⟨hd1, hd2⟩
      all_goals
        go_enter Try.func73, Try.ntmps73
        go_wp2_with fail
        refine (refValid_any ⟨f, d, r, p, e1, e2, e3, cs⟩ A cap _ hn ((HC.out.below (by go_grown)).more (by simp))).mono ?_
        rintro e w' ⟨rfl, hb1⟩
        have hbel := ((Below.refl w.heap.size w).alloc (Nat.le_refl _) _).trans (hb1.mono (by simp))
        obtain ⟨hc1, hf1'⟩ := bcell hb1
        go_wp2_with (go_at_call 81; refine (refIn_any _ _ _ _).mono ?_; rintro e w2 ⟨rfl, rfl⟩)
        go_ret
        exact ⟨ret_bool (by rw [HE.out]; simp [*]), hbel⟩
  · have HS := Lib.hid (isCallF_bad (floor := floor) (dir := dir) hv)
    obtain ⟨f, d, r, p, e1, e2, e3, cs⟩ := b
    simp only at hn HC
    simp only [BldD.agg]
    obtain ⟨v, hw⟩ : ∃ v, v = validE ⟨f, d, r, p, e1, e2, e3, cs⟩ := ⟨_, rfl⟩
    rw [← hw] at hv
    have HW := Lib.hid hw
    clear hw
    go_enter Try.func73, Try.ntmps73
    go_wp2_with fail
    refine (refValid_any ⟨f, d, r, p, e1, e2, e3, cs⟩ A cap _ hn ((HC.out.below (by go_grown)).more (by simp))).mono ?_
    rw [← HW.out]
    rintro e w' ⟨rfl, hb1⟩
    have hbel := ((Below.refl w.heap.size w).alloc (Nat.le_refl _) _).trans (hb1.mono (by simp))
    go_wp2_with fail
    go_ret
    exact ⟨ret_bool HS.out.symm, hbel⟩
end
end Go.Proofs.Ytifbkoaggjikpaa
