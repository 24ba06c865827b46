/- What the texts behind this one rest on: one text. No statement of the seat is proved here. -/
import Derived.Test.YtifbkoaggjikpaaLM01
import Derived.Test.YtifbkoaggjikpaaLM03
namespace Go.Proofs.Ytifbkoaggjikpaa
section
open Go.RowKit St

theorem isHalf_any (h : Int) (w : World) :
    Calls Try.prog 95 #[.int .i64 h] w fun e w' => e = .returned (.bool (decide (h = 0 ∨ h = 1))) ∧ w = w' := by
  by_cases h0 : h = 0
  · subst h0
    go_enter Try.func95, Try.ntmps95
    go_wp2
    go_ret
    exact ⟨rfl, rfl⟩
  · go_enter Try.func95, Try.ntmps95
    go_wp2
    go_ret
    refine ⟨ret_bool ?_, rfl⟩
    rw [Bool.eq_iff_iff]
    simp [h0]

set_option maxHeartbeats 1000000 in
theorem isStore_any (room : Int) (s : St) (w : World) :
    Calls Try.prog 70 #[.int .i64 room, s.agg] w fun e w' => e = .returned (.bool (isB room s)) ∧ Below w.heap.size w w' := by
  have F := Lib.hid (fun w => isHalf_any s.sel w)
  have e : isB room s = (decide (1 ≤ room) && (decide (room ≤ 65536) && (decide ((s.a.size : Int) ≤ room) && (decide ((s.b.size : Int) ≤ room) && decide (s.sel = 0 ∨ s.sel = 1))))) := by
    unfold isB; rw [Bool.eq_iff_iff]; simp
  generalize isB room s = R at *
  have HR := Lib.hid e
  clear e
  obtain ⟨a, b, sel⟩ := s
  simp only [St.agg] at F HR ⊢
  rcases Bool.eq_false_or_eq_true (decide (1 ≤ room)) with h1 | h1 <;>
  rcases Bool.eq_false_or_eq_true (decide (room ≤ 65536)) with h2 | h2 <;>
  rcases Bool.eq_false_or_eq_true (decide ((a.size : Int) ≤ room)) with h3 | h3 <;>
  rcases Bool.eq_false_or_eq_true (decide ((b.size : Int) ≤ room)) with h4 | h4
  all_goals
    go_enter Try.func70, Try.ntmps70
    go_wp2_with (go_at_call 95; refine (F.out _).mono ?_; rintro e w1 ⟨rfl, rfl⟩)
    go_ret
    refine ⟨ret_bool ?_, by go_grown⟩
    rw [HR.out, h1, h2, h3, h4]
    first | rfl | simp
theorem current_any (s : St) (w : World) :
    Calls Try.prog 47 #[s.agg] w fun e w' => e = .returned (.string s.cur) ∧ Below w.heap.size w w' := by
  have e : s.cur = if (s.sel == 1) = true then s.b else s.a := by unfold St.cur; simp
  generalize St.cur s = R at *
  have HR := Lib.hid e
  clear e
  obtain ⟨a, b, sel⟩ := s
  simp only [St.agg] at HR ⊢
  rcases Bool.eq_false_or_eq_true (sel == 1) with h1 | h1
  all_goals
    go_enter Try.func47, Try.ntmps47
    go_wp2
    go_ret
    refine ⟨ret_b ?_, by go_grown⟩
    rw [HR.out, h1]
    rfl
theorem refCurrent_any (s : St) (w : World) :
    Calls Try.prog 21 #[s.agg] w fun e w' => e = .returned (.string s.cur) ∧ Below w.heap.size w w' := by
  have e : s.cur = if (s.sel == 1) = true then s.b else s.a := by unfold St.cur; simp
  generalize St.cur s = R at *
  have HR := Lib.hid e
  clear e
  obtain ⟨a, b, sel⟩ := s
  simp only [St.agg] at HR ⊢
  rcases Bool.eq_false_or_eq_true (sel == 1) with h1 | h1
  all_goals
    go_enter Try.func21, Try.ntmps21
    go_wp2
    go_ret
    refine ⟨ret_b ?_, by go_grown⟩
    rw [HR.out, h1]
    rfl

set_option maxHeartbeats 1000000 in
theorem check_any (room : Int) (s : St) (h bud : Int) (w : World) :
    Calls Try.prog 96 #[.int .i64 room, s.agg, .int .i64 h, .int .i64 bud] w fun e w' => e = .returned (.int .i64 (chk room s h bud)) ∧ Below w.heap.size w w' := by
  have F1 := Lib.hid (fun w => isStore_any room s w)
  have F2 := Lib.hid (fun w => isHalf_any h w)
  have e : chk room s h bud = if isB room s = false then 1 else if decide (h = 0 ∨ h = 1) = false then 2 else if decide (bud < 0) = true then 2 else 0 := by
    unfold chk
    simp only [decide_eq_true_eq, decide_eq_false_iff_not]
    split
    · rfl
    · split <;> split <;> (try split) <;> first | rfl | omega
  generalize chk room s h bud = R at *
  generalize isB room s = I at *
  generalize decide (h = 0 ∨ h = 1) = J at *
  have HR := Lib.hid e
  clear e
  obtain ⟨a, b, sel⟩ := s
  simp only [St.agg] at F1 ⊢
  rcases Bool.eq_false_or_eq_true I with h1 | h1 <;> rcases Bool.eq_false_or_eq_true J with h2 | h2 <;>
  rcases Bool.eq_false_or_eq_true (decide (bud < 0)) with h3 | h3 <;> subst h1 h2
  all_goals
    go_enter Try.func96, Try.ntmps96
    go_wp2_with fail
    refine (F1.out _).mono ?_
    rintro e w1 ⟨rfl, hb⟩
    go_wp2_with (go_at_call 95; refine (F2.out _).mono ?_; rintro e w2 ⟨rfl, rfl⟩)
    go_ret
    refine ⟨ret_i ?_, below_of_new (hb.mono (by simp))⟩
    rw [HR.out, h3]
    try rfl
end
end Go.Proofs.Ytifbkoaggjikpaa
