/- Package rig, for anything: the small functions. No statement of the seat is proved here. -/
import Derived.Test.YtmfinebkikhceaaRgM
import Derived.Test.YtmfinebkikhceaaBxm
namespace Go.Proofs.Ytmfinebkikhceaa
open Go.RowKit
set_option maxRecDepth 4000
set_option linter.unusedSimpArgs false
set_option linter.unusedVariables false

set_option maxHeartbeats 4000000 in
theorem rigWithin_any (n lo hi : Int) (w : World) :
    Calls Try.prog 23 #[.int .i64 lo, .int .i64 hi, .int .i64 n] w fun ee w' => ee = .returned (.bool (Nc.wi lo hi n)) ∧ Below w.heap.size w w' := by
  unfold Nc.wi
  by_cases h1 : lo ≤ n
  all_goals
    by_cases h2 : n ≤ hi
    all_goals
      first
        | rw [decide_eq_true h1]
        | rw [decide_eq_false h1]
      first
        | rw [decide_eq_true h2]
        | rw [decide_eq_false h2]
      go_enter Try.func23, Try.ntmps23
      go_wp2
      go_ret
      exact ⟨rfl, by go_grown⟩
set_option maxHeartbeats 4000000 in
theorem rigNew_any (n : Int) (w : World) :
    Calls Try.prog 8 #[.int .i64 n] w fun ee w' => ee = .returned ((Rg.new n).agg) ∧ Below w.heap.size w w' := by
  rw [show (Rg.new n).agg = .agg #[.int .i64 n, .int .i64 n, .int .i64 0, .int .i64 2, .int .i64 0, .int .i64 0] from rfl]
  have HB0 := Lib.hid (bxs1 w (.cells #[.int .i64 0, .int .i64 0, .int .i64 0, .int .i64 0, .int .i64 0, .int .i64 0] 23))
  go_enter Try.func8, Try.ntmps8
  go_wp2_with (with_reducible show wpList _ _ _ (Oper.mk _ (.store 23 _ _) _ _ _ _ :: _) _ _; refine Hid.out ?_)
  refine Lib.hid ?_
  refine wpList_put rfl 23 _ _ rfl (w.heap.size) #[.int .i64 n, .int .i64 n, .int .i64 0, .int .i64 2, .int .i64 0, .int .i64 0] _ 23 rfl rfl HB0.out.r0 (by kernel_rfl) rfl (by kernel_rfl) ?_
  intro w1 hr1 hg1
  have HB1 : Hid (Bx w [(w.heap.size, .cells #[.int .i64 n, .int .i64 n, .int .i64 0, .int .i64 2, .int .i64 0, .int .i64 0] 23 (0, 0))] w1) := Lib.hid (HB0.out.put (by omega) hg1.out hr1.out (by simp only [List.mem_cons, List.not_mem_nil, or_false]; rintro p rfl <;> simp <;> omega))
  clear hr1 hg1 HB0
  go_wp2_with fail
  exact bodyPost_ret (results_cell_row Try.results8 _ _ _ _ _ (0, 0) _ rfl (HB1.out.r0) Try.underlying23 rfl (by kernel_rfl)) rfl (⟨rfl, HB1.out.below⟩)
set_option maxHeartbeats 4000000 in
theorem rigReport_any (r : Rg) (bl : Bool) (w : World) :
    Calls Try.prog 12 #[r.agg, .bool bl] w fun ee w' => ee = .returned ((Rg.report r bl).agg) ∧ Below w.heap.size w w' := by
  obtain ⟨fl, tg, lf, dd, am, tk⟩ := r
  rw [show (Rg.report ⟨fl, tg, lf, dd, am, tk⟩ bl).agg = .agg #[.int .i64 fl, .bool (lf == 0), .int .i64 dd, .bool bl] from rfl]
  simp only [Rg.agg]
  generalize hq : (lf == 0) = q at *
  have HB0 := Lib.hid (bxs2 w (.cells #[.int .i64 fl, .int .i64 tg, .int .i64 lf, .int .i64 dd, .int .i64 am, .int .i64 tk] 23) (.cells #[.int .i64 0, .bool false, .int .i64 0, .bool false] 32))
  go_enter Try.func12, Try.ntmps12
  go_wp2_with (with_reducible show wpList _ _ _ (Oper.mk _ (.store 32 _ _) _ _ _ _ :: _) _ _; refine Hid.out ?_)
  refine Lib.hid ?_
  refine wpList_put rfl 32 _ _ rfl (w.heap.size + 1) #[.int .i64 fl, .bool q, .int .i64 dd, .bool bl] _ 32 rfl rfl HB0.out.r1 (by kernel_rfl) rfl (by kernel_rfl) ?_
  intro w1 hr1 hg1
  have HB1 : Hid (Bx w [(w.heap.size, .cells #[.int .i64 fl, .int .i64 tg, .int .i64 lf, .int .i64 dd, .int .i64 am, .int .i64 tk] 23 (0, 0)), (w.heap.size + 1, .cells #[.int .i64 fl, .bool q, .int .i64 dd, .bool bl] 32 (0, 0))] w1) := Lib.hid (HB0.out.put (by omega) hg1.out hr1.out (by simp only [List.mem_cons, List.not_mem_nil, or_false]; rintro p (rfl | rfl) <;> simp <;> omega))
  clear hr1 hg1 HB0
  go_wp2_with fail
  exact bodyPost_ret (results_cell_row Try.results12 _ _ _ _ _ (0, 0) _ rfl (HB1.out.r1) Try.underlying32 rfl (by kernel_rfl)) rfl (⟨rfl, HB1.out.below⟩)
set_option maxHeartbeats 4000000 in
theorem rigFloor_any (F x : Int) (w : World) (h : 2 ≤ F ∧ F ≤ 32) :
    Calls Try.prog 24 #[.int .i64 F, .int .i64 x] w fun ee w' => ee = .returned (.bool (Nc.wi 0 (F - 1) x)) ∧ Below w.heap.size w w' := by
  have FW := Lib.hid (fun wx => rigWithin_any x 0 (F - 1) wx)
  have w1 : IntKind.i64.wrap (F - 1) = F - 1 := by rw [IntKind.wrap_i64]; omega
  generalize Nc.wi 0 (F - 1) x = q at *
  clear h
  go_enter Try.func24, Try.ntmps24
  go_wp2_with fail
  refine (FW.out _).mono ?_
  rintro e x1 ⟨rfl, hb⟩
  go_wp2_with fail
  go_ret
  exact ⟨rfl, hb⟩
set_option maxHeartbeats 4000000 in
theorem rigStepB_any (r : Rg) (w : World) (h : 0 ≤ r.fl ∧ r.fl ≤ 31) :
    Calls Try.prog 25 #[r.agg] w fun ee w' => ee = .returned (.bool (Rg.stepB r)) ∧ Below w.heap.size w w' := by
  obtain ⟨fl, tg, lf, dd, am, tk⟩ := r
  simp only at h
  by_cases e1 : tg = fl
  · subst e1
    rw [show Rg.stepB ⟨tg, tg, lf, dd, am, tk⟩ = (lf == 0) from if_pos rfl]
    simp only [Rg.agg]
    generalize hq : (lf == 0) = q at *
    clear h
    have HB0 := Lib.hid (bxs1 w (.cells #[.int .i64 tg, .int .i64 tg, .int .i64 lf, .int .i64 dd, .int .i64 am, .int .i64 tk] 23))
    go_enter Try.func25, Try.ntmps25
    go_wp2_with fail
    go_ret
    exact ⟨rfl, HB0.out.below⟩
  · have hB : (tg == fl) = false := by simpa using e1
    rw [show Rg.stepB ⟨fl, tg, lf, dd, am, tk⟩ = (Nc.wi (fl - 1) (fl + 1) tg && (Nc.wi 1 10000 lf && dd == 2)) from if_neg e1]
    have w1 : IntKind.i64.wrap (fl - 1) = fl - 1 := by rw [IntKind.wrap_i64]; omega
    have w2 : IntKind.i64.wrap (fl + 1) = fl + 1 := by rw [IntKind.wrap_i64]; omega
    have F1 := Lib.hid (fun wx => rigWithin_any tg (fl - 1) (fl + 1) wx)
    have F2 := Lib.hid (fun wx => rigWithin_any lf 1 10000 wx)
    generalize Nc.wi (fl - 1) (fl + 1) tg = q1 at *
    generalize Nc.wi 1 10000 lf = q2 at *
    generalize hq : (dd == 2) = q3 at *
    simp only [Rg.agg]
    clear h e1
    cases q1
    · have HB0 := Lib.hid (bxs1 w (.cells #[.int .i64 fl, .int .i64 tg, .int .i64 lf, .int .i64 dd, .int .i64 am, .int .i64 tk] 23))
      go_enter Try.func25, Try.ntmps25
      go_wp2_with fail
      refine (F1.out _).mono ?_
      rintro e w1 ⟨rfl, hb1⟩
      have HB1 := Lib.hid (HB0.out.next hb1)
      clear hb1 HB0
      have c0_0 : w1.cell? ⟨w.heap.size, 0, none⟩ = some (.int .i64 fl) := cell_of_row _ _ _ _ _ (0, 0) HB1.out.r0
      have c0_1 : w1.cell? ⟨w.heap.size, 1, none⟩ = some (.int .i64 tg) := cell_of_row _ _ _ _ _ (0, 0) HB1.out.r0
      have c0_2 : w1.cell? ⟨w.heap.size, 2, none⟩ = some (.int .i64 lf) := cell_of_row _ _ _ _ _ (0, 0) HB1.out.r0
      have c0_3 : w1.cell? ⟨w.heap.size, 3, none⟩ = some (.int .i64 dd) := cell_of_row _ _ _ _ _ (0, 0) HB1.out.r0
      have c0_4 : w1.cell? ⟨w.heap.size, 4, none⟩ = some (.int .i64 am) := cell_of_row _ _ _ _ _ (0, 0) HB1.out.r0
      have c0_5 : w1.cell? ⟨w.heap.size, 5, none⟩ = some (.int .i64 tk) := cell_of_row _ _ _ _ _ (0, 0) HB1.out.r0
      go_wp2_with fail
      go_ret
      exact ⟨rfl, HB1.out.below⟩
    · cases q2
      · have HB0 := Lib.hid (bxs1 w (.cells #[.int .i64 fl, .int .i64 tg, .int .i64 lf, .int .i64 dd, .int .i64 am, .int .i64 tk] 23))
        go_enter Try.func25, Try.ntmps25
        go_wp2_with fail
        refine (F1.out _).mono ?_
        rintro e w1 ⟨rfl, hb1⟩
        have HB1 := Lib.hid (HB0.out.next hb1)
        clear hb1 HB0
        have c0_0 : w1.cell? ⟨w.heap.size, 0, none⟩ = some (.int .i64 fl) := cell_of_row _ _ _ _ _ (0, 0) HB1.out.r0
        have c0_1 : w1.cell? ⟨w.heap.size, 1, none⟩ = some (.int .i64 tg) := cell_of_row _ _ _ _ _ (0, 0) HB1.out.r0
        have c0_2 : w1.cell? ⟨w.heap.size, 2, none⟩ = some (.int .i64 lf) := cell_of_row _ _ _ _ _ (0, 0) HB1.out.r0
        have c0_3 : w1.cell? ⟨w.heap.size, 3, none⟩ = some (.int .i64 dd) := cell_of_row _ _ _ _ _ (0, 0) HB1.out.r0
        have c0_4 : w1.cell? ⟨w.heap.size, 4, none⟩ = some (.int .i64 am) := cell_of_row _ _ _ _ _ (0, 0) HB1.out.r0
        have c0_5 : w1.cell? ⟨w.heap.size, 5, none⟩ = some (.int .i64 tk) := cell_of_row _ _ _ _ _ (0, 0) HB1.out.r0
        go_wp2_with fail
        refine (F2.out _).mono ?_
        rintro e w2 ⟨rfl, hb2⟩
        have HB2 := Lib.hid (HB1.out.next hb2)
        clear c0_0 c0_1 c0_2 c0_3 c0_4 c0_5 hb2 HB1
        have c0_0 : w2.cell? ⟨w.heap.size, 0, none⟩ = some (.int .i64 fl) := cell_of_row _ _ _ _ _ (0, 0) HB2.out.r0
        have c0_1 : w2.cell? ⟨w.heap.size, 1, none⟩ = some (.int .i64 tg) := cell_of_row _ _ _ _ _ (0, 0) HB2.out.r0
        have c0_2 : w2.cell? ⟨w.heap.size, 2, none⟩ = some (.int .i64 lf) := cell_of_row _ _ _ _ _ (0, 0) HB2.out.r0
        have c0_3 : w2.cell? ⟨w.heap.size, 3, none⟩ = some (.int .i64 dd) := cell_of_row _ _ _ _ _ (0, 0) HB2.out.r0
        have c0_4 : w2.cell? ⟨w.heap.size, 4, none⟩ = some (.int .i64 am) := cell_of_row _ _ _ _ _ (0, 0) HB2.out.r0
        have c0_5 : w2.cell? ⟨w.heap.size, 5, none⟩ = some (.int .i64 tk) := cell_of_row _ _ _ _ _ (0, 0) HB2.out.r0
        go_wp2_with fail
        go_ret
        exact ⟨by simp, HB2.out.below⟩
      · have HB0 := Lib.hid (bxs1 w (.cells #[.int .i64 fl, .int .i64 tg, .int .i64 lf, .int .i64 dd, .int .i64 am, .int .i64 tk] 23))
        go_enter Try.func25, Try.ntmps25
        go_wp2_with fail
        refine (F1.out _).mono ?_
        rintro e w1 ⟨rfl, hb1⟩
        have HB1 := Lib.hid (HB0.out.next hb1)
        clear hb1 HB0
        have c0_0 : w1.cell? ⟨w.heap.size, 0, none⟩ = some (.int .i64 fl) := cell_of_row _ _ _ _ _ (0, 0) HB1.out.r0
        have c0_1 : w1.cell? ⟨w.heap.size, 1, none⟩ = some (.int .i64 tg) := cell_of_row _ _ _ _ _ (0, 0) HB1.out.r0
        have c0_2 : w1.cell? ⟨w.heap.size, 2, none⟩ = some (.int .i64 lf) := cell_of_row _ _ _ _ _ (0, 0) HB1.out.r0
        have c0_3 : w1.cell? ⟨w.heap.size, 3, none⟩ = some (.int .i64 dd) := cell_of_row _ _ _ _ _ (0, 0) HB1.out.r0
        have c0_4 : w1.cell? ⟨w.heap.size, 4, none⟩ = some (.int .i64 am) := cell_of_row _ _ _ _ _ (0, 0) HB1.out.r0
        have c0_5 : w1.cell? ⟨w.heap.size, 5, none⟩ = some (.int .i64 tk) := cell_of_row _ _ _ _ _ (0, 0) HB1.out.r0
        go_wp2_with fail
        refine (F2.out _).mono ?_
        rintro e w2 ⟨rfl, hb2⟩
        have HB2 := Lib.hid (HB1.out.next hb2)
        clear c0_0 c0_1 c0_2 c0_3 c0_4 c0_5 hb2 HB1
        have c0_0 : w2.cell? ⟨w.heap.size, 0, none⟩ = some (.int .i64 fl) := cell_of_row _ _ _ _ _ (0, 0) HB2.out.r0
        have c0_1 : w2.cell? ⟨w.heap.size, 1, none⟩ = some (.int .i64 tg) := cell_of_row _ _ _ _ _ (0, 0) HB2.out.r0
        have c0_2 : w2.cell? ⟨w.heap.size, 2, none⟩ = some (.int .i64 lf) := cell_of_row _ _ _ _ _ (0, 0) HB2.out.r0
        have c0_3 : w2.cell? ⟨w.heap.size, 3, none⟩ = some (.int .i64 dd) := cell_of_row _ _ _ _ _ (0, 0) HB2.out.r0
        have c0_4 : w2.cell? ⟨w.heap.size, 4, none⟩ = some (.int .i64 am) := cell_of_row _ _ _ _ _ (0, 0) HB2.out.r0
        have c0_5 : w2.cell? ⟨w.heap.size, 5, none⟩ = some (.int .i64 tk) := cell_of_row _ _ _ _ _ (0, 0) HB2.out.r0
        go_wp2_with fail
        go_ret
        exact ⟨by simp, HB2.out.below⟩
set_option maxHeartbeats 4000000 in
theorem rigDoorB_any (r : Rg) (w : World) :
    Calls Try.prog 26 #[r.agg] w fun ee w' => ee = .returned (.bool (Rg.doorB r)) ∧ Below w.heap.size w w' := by
  obtain ⟨fl, tg, lf, dd, am, tk⟩ := r
  by_cases e1 : dd = 0
  · subst e1
    rw [show Rg.doorB ⟨fl, tg, lf, 0, am, tk⟩ = (Nc.wi 1 2 am && Nc.wi 1 10000 tk) from if_pos rfl]
    have F1 := Lib.hid (fun wx => rigWithin_any am 1 2 wx)
    have F2 := Lib.hid (fun wx => rigWithin_any tk 1 10000 wx)
    generalize Nc.wi 1 2 am = q1 at *
    generalize Nc.wi 1 10000 tk = q2 at *
    simp only [Rg.agg]
    cases q1
    · have HB0 := Lib.hid (bxs1 w (.cells #[.int .i64 fl, .int .i64 tg, .int .i64 lf, .int .i64 0, .int .i64 am, .int .i64 tk] 23))
      go_enter Try.func26, Try.ntmps26
      go_wp2_with fail
      refine (F1.out _).mono ?_
      rintro e w1 ⟨rfl, hb1⟩
      have HB1 := Lib.hid (HB0.out.next hb1)
      clear hb1 HB0
      have c0_0 : w1.cell? ⟨w.heap.size, 0, none⟩ = some (.int .i64 fl) := cell_of_row _ _ _ _ _ (0, 0) HB1.out.r0
      have c0_1 : w1.cell? ⟨w.heap.size, 1, none⟩ = some (.int .i64 tg) := cell_of_row _ _ _ _ _ (0, 0) HB1.out.r0
      have c0_2 : w1.cell? ⟨w.heap.size, 2, none⟩ = some (.int .i64 lf) := cell_of_row _ _ _ _ _ (0, 0) HB1.out.r0
      have c0_3 : w1.cell? ⟨w.heap.size, 3, none⟩ = some (.int .i64 0) := cell_of_row _ _ _ _ _ (0, 0) HB1.out.r0
      have c0_4 : w1.cell? ⟨w.heap.size, 4, none⟩ = some (.int .i64 am) := cell_of_row _ _ _ _ _ (0, 0) HB1.out.r0
      have c0_5 : w1.cell? ⟨w.heap.size, 5, none⟩ = some (.int .i64 tk) := cell_of_row _ _ _ _ _ (0, 0) HB1.out.r0
      go_wp2_with fail
      go_ret
      exact ⟨rfl, HB1.out.below⟩
    · have HB0 := Lib.hid (bxs1 w (.cells #[.int .i64 fl, .int .i64 tg, .int .i64 lf, .int .i64 0, .int .i64 am, .int .i64 tk] 23))
      go_enter Try.func26, Try.ntmps26
      go_wp2_with fail
      refine (F1.out _).mono ?_
      rintro e w1 ⟨rfl, hb1⟩
      have HB1 := Lib.hid (HB0.out.next hb1)
      clear hb1 HB0
      have c0_0 : w1.cell? ⟨w.heap.size, 0, none⟩ = some (.int .i64 fl) := cell_of_row _ _ _ _ _ (0, 0) HB1.out.r0
      have c0_1 : w1.cell? ⟨w.heap.size, 1, none⟩ = some (.int .i64 tg) := cell_of_row _ _ _ _ _ (0, 0) HB1.out.r0
      have c0_2 : w1.cell? ⟨w.heap.size, 2, none⟩ = some (.int .i64 lf) := cell_of_row _ _ _ _ _ (0, 0) HB1.out.r0
      have c0_3 : w1.cell? ⟨w.heap.size, 3, none⟩ = some (.int .i64 0) := cell_of_row _ _ _ _ _ (0, 0) HB1.out.r0
      have c0_4 : w1.cell? ⟨w.heap.size, 4, none⟩ = some (.int .i64 am) := cell_of_row _ _ _ _ _ (0, 0) HB1.out.r0
      have c0_5 : w1.cell? ⟨w.heap.size, 5, none⟩ = some (.int .i64 tk) := cell_of_row _ _ _ _ _ (0, 0) HB1.out.r0
      go_wp2_with fail
      refine (F2.out _).mono ?_
      rintro e w2 ⟨rfl, hb2⟩
      have HB2 := Lib.hid (HB1.out.next hb2)
      clear c0_0 c0_1 c0_2 c0_3 c0_4 c0_5 hb2 HB1
      have c0_0 : w2.cell? ⟨w.heap.size, 0, none⟩ = some (.int .i64 fl) := cell_of_row _ _ _ _ _ (0, 0) HB2.out.r0
      have c0_1 : w2.cell? ⟨w.heap.size, 1, none⟩ = some (.int .i64 tg) := cell_of_row _ _ _ _ _ (0, 0) HB2.out.r0
      have c0_2 : w2.cell? ⟨w.heap.size, 2, none⟩ = some (.int .i64 lf) := cell_of_row _ _ _ _ _ (0, 0) HB2.out.r0
      have c0_3 : w2.cell? ⟨w.heap.size, 3, none⟩ = some (.int .i64 0) := cell_of_row _ _ _ _ _ (0, 0) HB2.out.r0
      have c0_4 : w2.cell? ⟨w.heap.size, 4, none⟩ = some (.int .i64 am) := cell_of_row _ _ _ _ _ (0, 0) HB2.out.r0
      have c0_5 : w2.cell? ⟨w.heap.size, 5, none⟩ = some (.int .i64 tk) := cell_of_row _ _ _ _ _ (0, 0) HB2.out.r0
      go_wp2_with fail
      go_ret
      exact ⟨by simp, HB2.out.below⟩
  · have hB : (dd == 0) = false := by simpa using e1
    rw [show Rg.doorB ⟨fl, tg, lf, dd, am, tk⟩ = (Nc.wi 1 2 dd && (am == 0 && tk == 0)) from if_neg e1]
    have F1 := Lib.hid (fun wx => rigWithin_any dd 1 2 wx)
    generalize Nc.wi 1 2 dd = q1 at *
    generalize hq2 : (am == 0) = q2 at *
    generalize hq3 : (tk == 0) = q3 at *
    simp only [Rg.agg]
    clear e1
    cases q1
    · clear hq2 hq3
      have HB0 := Lib.hid (bxs1 w (.cells #[.int .i64 fl, .int .i64 tg, .int .i64 lf, .int .i64 dd, .int .i64 am, .int .i64 tk] 23))
      go_enter Try.func26, Try.ntmps26
      go_wp2_with fail
      refine (F1.out _).mono ?_
      rintro e w1 ⟨rfl, hb1⟩
      have HB1 := Lib.hid (HB0.out.next hb1)
      clear hb1 HB0
      have c0_0 : w1.cell? ⟨w.heap.size, 0, none⟩ = some (.int .i64 fl) := cell_of_row _ _ _ _ _ (0, 0) HB1.out.r0
      have c0_1 : w1.cell? ⟨w.heap.size, 1, none⟩ = some (.int .i64 tg) := cell_of_row _ _ _ _ _ (0, 0) HB1.out.r0
      have c0_2 : w1.cell? ⟨w.heap.size, 2, none⟩ = some (.int .i64 lf) := cell_of_row _ _ _ _ _ (0, 0) HB1.out.r0
      have c0_3 : w1.cell? ⟨w.heap.size, 3, none⟩ = some (.int .i64 dd) := cell_of_row _ _ _ _ _ (0, 0) HB1.out.r0
      have c0_4 : w1.cell? ⟨w.heap.size, 4, none⟩ = some (.int .i64 am) := cell_of_row _ _ _ _ _ (0, 0) HB1.out.r0
      have c0_5 : w1.cell? ⟨w.heap.size, 5, none⟩ = some (.int .i64 tk) := cell_of_row _ _ _ _ _ (0, 0) HB1.out.r0
      go_wp2_with fail
      go_ret
      exact ⟨rfl, HB1.out.below⟩
    · cases q2
      · have HB0 := Lib.hid (bxs1 w (.cells #[.int .i64 fl, .int .i64 tg, .int .i64 lf, .int .i64 dd, .int .i64 am, .int .i64 tk] 23))
        go_enter Try.func26, Try.ntmps26
        go_wp2_with fail
        refine (F1.out _).mono ?_
        rintro e w1 ⟨rfl, hb1⟩
        have HB1 := Lib.hid (HB0.out.next hb1)
        clear hb1 HB0
        have c0_0 : w1.cell? ⟨w.heap.size, 0, none⟩ = some (.int .i64 fl) := cell_of_row _ _ _ _ _ (0, 0) HB1.out.r0
        have c0_1 : w1.cell? ⟨w.heap.size, 1, none⟩ = some (.int .i64 tg) := cell_of_row _ _ _ _ _ (0, 0) HB1.out.r0
        have c0_2 : w1.cell? ⟨w.heap.size, 2, none⟩ = some (.int .i64 lf) := cell_of_row _ _ _ _ _ (0, 0) HB1.out.r0
        have c0_3 : w1.cell? ⟨w.heap.size, 3, none⟩ = some (.int .i64 dd) := cell_of_row _ _ _ _ _ (0, 0) HB1.out.r0
        have c0_4 : w1.cell? ⟨w.heap.size, 4, none⟩ = some (.int .i64 am) := cell_of_row _ _ _ _ _ (0, 0) HB1.out.r0
        have c0_5 : w1.cell? ⟨w.heap.size, 5, none⟩ = some (.int .i64 tk) := cell_of_row _ _ _ _ _ (0, 0) HB1.out.r0
        go_wp2_with fail
        go_ret
        exact ⟨by simp, HB1.out.below⟩
      · have HB0 := Lib.hid (bxs1 w (.cells #[.int .i64 fl, .int .i64 tg, .int .i64 lf, .int .i64 dd, .int .i64 am, .int .i64 tk] 23))
        go_enter Try.func26, Try.ntmps26
        go_wp2_with fail
        refine (F1.out _).mono ?_
        rintro e w1 ⟨rfl, hb1⟩
        have HB1 := Lib.hid (HB0.out.next hb1)
        clear hb1 HB0
        have c0_0 : w1.cell? ⟨w.heap.size, 0, none⟩ = some (.int .i64 fl) := cell_of_row _ _ _ _ _ (0, 0) HB1.out.r0
        have c0_1 : w1.cell? ⟨w.heap.size, 1, none⟩ = some (.int .i64 tg) := cell_of_row _ _ _ _ _ (0, 0) HB1.out.r0
        have c0_2 : w1.cell? ⟨w.heap.size, 2, none⟩ = some (.int .i64 lf) := cell_of_row _ _ _ _ _ (0, 0) HB1.out.r0
        have c0_3 : w1.cell? ⟨w.heap.size, 3, none⟩ = some (.int .i64 dd) := cell_of_row _ _ _ _ _ (0, 0) HB1.out.r0
        have c0_4 : w1.cell? ⟨w.heap.size, 4, none⟩ = some (.int .i64 am) := cell_of_row _ _ _ _ _ (0, 0) HB1.out.r0
        have c0_5 : w1.cell? ⟨w.heap.size, 5, none⟩ = some (.int .i64 tk) := cell_of_row _ _ _ _ _ (0, 0) HB1.out.r0
        go_wp2_with fail
        go_ret
        exact ⟨by simp, HB1.out.below⟩
set_option maxHeartbeats 4000000 in
theorem rigIs_any (F : Int) (r : Rg) (w : World) :
    Calls Try.prog 14 #[.int .i64 F, r.agg] w fun ee w' => ee = .returned (.bool (Rg.isB F r)) ∧ Below w.heap.size w w' := by
  have F1 := Lib.hid (fun wx => rigWithin_any F 2 32 wx)
  have F5 := Lib.hid (fun wx => rigDoorB_any r wx)
  have F2 := fun wx h => rigFloor_any F r.fl wx h
  have F3 := fun wx h => rigFloor_any F r.tg wx h
  have F4 := fun wx h => rigStepB_any r wx h
  unfold Rg.isB
  cases h1 : Nc.wi 2 32 F
  · rw [h1] at F1
    clear F2 F3 F4 h1
    obtain ⟨fl, tg, lf, dd, am, tk⟩ := r
    simp only [Rg.agg] at *
    have HB0 := Lib.hid (bxs1 w (.cells #[.int .i64 fl, .int .i64 tg, .int .i64 lf, .int .i64 dd, .int .i64 am, .int .i64 tk] 23))
    go_enter Try.func14, Try.ntmps14
    go_wp2_with fail
    refine (F1.out _).mono ?_
    rintro e w1 ⟨rfl, hb1⟩
    have HB1 := Lib.hid (HB0.out.next hb1)
    clear hb1 HB0
    have c0_0 : w1.cell? ⟨w.heap.size, 0, none⟩ = some (.int .i64 fl) := cell_of_row _ _ _ _ _ (0, 0) HB1.out.r0
    have c0_1 : w1.cell? ⟨w.heap.size, 1, none⟩ = some (.int .i64 tg) := cell_of_row _ _ _ _ _ (0, 0) HB1.out.r0
    have c0_2 : w1.cell? ⟨w.heap.size, 2, none⟩ = some (.int .i64 lf) := cell_of_row _ _ _ _ _ (0, 0) HB1.out.r0
    have c0_3 : w1.cell? ⟨w.heap.size, 3, none⟩ = some (.int .i64 dd) := cell_of_row _ _ _ _ _ (0, 0) HB1.out.r0
    have c0_4 : w1.cell? ⟨w.heap.size, 4, none⟩ = some (.int .i64 am) := cell_of_row _ _ _ _ _ (0, 0) HB1.out.r0
    have c0_5 : w1.cell? ⟨w.heap.size, 5, none⟩ = some (.int .i64 tk) := cell_of_row _ _ _ _ _ (0, 0) HB1.out.r0
    go_wp2_with fail
    go_ret
    exact ⟨rfl, HB1.out.below⟩
  · rw [h1] at F1
    have hF := Nc.wi_iff.1 h1
    replace F2 := Lib.hid (fun wx => F2 wx hF)
    replace F3 := Lib.hid (fun wx => F3 wx hF)
    cases h2 : Nc.wi 0 (F - 1) r.fl
    · rw [h2] at F2
      clear F4 hF h1 h2
      obtain ⟨fl, tg, lf, dd, am, tk⟩ := r
      simp only [Rg.agg] at *
      have HB0 := Lib.hid (bxs1 w (.cells #[.int .i64 fl, .int .i64 tg, .int .i64 lf, .int .i64 dd, .int .i64 am, .int .i64 tk] 23))
      go_enter Try.func14, Try.ntmps14
      go_wp2_with fail
      refine (F1.out _).mono ?_
      rintro e w1 ⟨rfl, hb1⟩
      have HB1 := Lib.hid (HB0.out.next hb1)
      clear hb1 HB0
      have c0_0 : w1.cell? ⟨w.heap.size, 0, none⟩ = some (.int .i64 fl) := cell_of_row _ _ _ _ _ (0, 0) HB1.out.r0
      have c0_1 : w1.cell? ⟨w.heap.size, 1, none⟩ = some (.int .i64 tg) := cell_of_row _ _ _ _ _ (0, 0) HB1.out.r0
      have c0_2 : w1.cell? ⟨w.heap.size, 2, none⟩ = some (.int .i64 lf) := cell_of_row _ _ _ _ _ (0, 0) HB1.out.r0
      have c0_3 : w1.cell? ⟨w.heap.size, 3, none⟩ = some (.int .i64 dd) := cell_of_row _ _ _ _ _ (0, 0) HB1.out.r0
      have c0_4 : w1.cell? ⟨w.heap.size, 4, none⟩ = some (.int .i64 am) := cell_of_row _ _ _ _ _ (0, 0) HB1.out.r0
      have c0_5 : w1.cell? ⟨w.heap.size, 5, none⟩ = some (.int .i64 tk) := cell_of_row _ _ _ _ _ (0, 0) HB1.out.r0
      go_wp2_with fail
      refine (F2.out _).mono ?_
      rintro e w2 ⟨rfl, hb2⟩
      have HB2 := Lib.hid (HB1.out.next hb2)
      clear c0_0 c0_1 c0_2 c0_3 c0_4 c0_5 hb2 HB1
      have c0_0 : w2.cell? ⟨w.heap.size, 0, none⟩ = some (.int .i64 fl) := cell_of_row _ _ _ _ _ (0, 0) HB2.out.r0
      have c0_1 : w2.cell? ⟨w.heap.size, 1, none⟩ = some (.int .i64 tg) := cell_of_row _ _ _ _ _ (0, 0) HB2.out.r0
      have c0_2 : w2.cell? ⟨w.heap.size, 2, none⟩ = some (.int .i64 lf) := cell_of_row _ _ _ _ _ (0, 0) HB2.out.r0
      have c0_3 : w2.cell? ⟨w.heap.size, 3, none⟩ = some (.int .i64 dd) := cell_of_row _ _ _ _ _ (0, 0) HB2.out.r0
      have c0_4 : w2.cell? ⟨w.heap.size, 4, none⟩ = some (.int .i64 am) := cell_of_row _ _ _ _ _ (0, 0) HB2.out.r0
      have c0_5 : w2.cell? ⟨w.heap.size, 5, none⟩ = some (.int .i64 tk) := cell_of_row _ _ _ _ _ (0, 0) HB2.out.r0
      go_wp2_with fail
      go_ret
      exact ⟨rfl, HB2.out.below⟩
    · rw [h2] at F2
      have hf := Nc.wi_iff.1 h2
      replace F4 := Lib.hid (fun wx => F4 wx (by omega))
      clear hF h1 h2 hf
      generalize Nc.wi 0 (F - 1) r.tg = q3 at *
      generalize r.stepB = q4 at *
      generalize r.doorB = q5 at *
      obtain ⟨fl, tg, lf, dd, am, tk⟩ := r
      simp only [Rg.agg] at *
      cases q3
      · have HB0 := Lib.hid (bxs1 w (.cells #[.int .i64 fl, .int .i64 tg, .int .i64 lf, .int .i64 dd, .int .i64 am, .int .i64 tk] 23))
        go_enter Try.func14, Try.ntmps14
        go_wp2_with fail
        refine (F1.out _).mono ?_
        rintro e w1 ⟨rfl, hb1⟩
        have HB1 := Lib.hid (HB0.out.next hb1)
        clear hb1 HB0
        have c0_0 : w1.cell? ⟨w.heap.size, 0, none⟩ = some (.int .i64 fl) := cell_of_row _ _ _ _ _ (0, 0) HB1.out.r0
        have c0_1 : w1.cell? ⟨w.heap.size, 1, none⟩ = some (.int .i64 tg) := cell_of_row _ _ _ _ _ (0, 0) HB1.out.r0
        have c0_2 : w1.cell? ⟨w.heap.size, 2, none⟩ = some (.int .i64 lf) := cell_of_row _ _ _ _ _ (0, 0) HB1.out.r0
        have c0_3 : w1.cell? ⟨w.heap.size, 3, none⟩ = some (.int .i64 dd) := cell_of_row _ _ _ _ _ (0, 0) HB1.out.r0
        have c0_4 : w1.cell? ⟨w.heap.size, 4, none⟩ = some (.int .i64 am) := cell_of_row _ _ _ _ _ (0, 0) HB1.out.r0
        have c0_5 : w1.cell? ⟨w.heap.size, 5, none⟩ = some (.int .i64 tk) := cell_of_row _ _ _ _ _ (0, 0) HB1.out.r0
        go_wp2_with fail
        refine (F2.out _).mono ?_
        rintro e w2 ⟨rfl, hb2⟩
        have HB2 := Lib.hid (HB1.out.next hb2)
        clear c0_0 c0_1 c0_2 c0_3 c0_4 c0_5 hb2 HB1
        have c0_0 : w2.cell? ⟨w.heap.size, 0, none⟩ = some (.int .i64 fl) := cell_of_row _ _ _ _ _ (0, 0) HB2.out.r0
        have c0_1 : w2.cell? ⟨w.heap.size, 1, none⟩ = some (.int .i64 tg) := cell_of_row _ _ _ _ _ (0, 0) HB2.out.r0
        have c0_2 : w2.cell? ⟨w.heap.size, 2, none⟩ = some (.int .i64 lf) := cell_of_row _ _ _ _ _ (0, 0) HB2.out.r0
        have c0_3 : w2.cell? ⟨w.heap.size, 3, none⟩ = some (.int .i64 dd) := cell_of_row _ _ _ _ _ (0, 0) HB2.out.r0
        have c0_4 : w2.cell? ⟨w.heap.size, 4, none⟩ = some (.int .i64 am) := cell_of_row _ _ _ _ _ (0, 0) HB2.out.r0
        have c0_5 : w2.cell? ⟨w.heap.size, 5, none⟩ = some (.int .i64 tk) := cell_of_row _ _ _ _ _ (0, 0) HB2.out.r0
        go_wp2_with fail
        refine (F3.out _).mono ?_
        rintro e w3 ⟨rfl, hb3⟩
        have HB3 := Lib.hid (HB2.out.next hb3)
        clear c0_0 c0_1 c0_2 c0_3 c0_4 c0_5 hb3 HB2
        have c0_0 : w3.cell? ⟨w.heap.size, 0, none⟩ = some (.int .i64 fl) := cell_of_row _ _ _ _ _ (0, 0) HB3.out.r0
        have c0_1 : w3.cell? ⟨w.heap.size, 1, none⟩ = some (.int .i64 tg) := cell_of_row _ _ _ _ _ (0, 0) HB3.out.r0
        have c0_2 : w3.cell? ⟨w.heap.size, 2, none⟩ = some (.int .i64 lf) := cell_of_row _ _ _ _ _ (0, 0) HB3.out.r0
        have c0_3 : w3.cell? ⟨w.heap.size, 3, none⟩ = some (.int .i64 dd) := cell_of_row _ _ _ _ _ (0, 0) HB3.out.r0
        have c0_4 : w3.cell? ⟨w.heap.size, 4, none⟩ = some (.int .i64 am) := cell_of_row _ _ _ _ _ (0, 0) HB3.out.r0
        have c0_5 : w3.cell? ⟨w.heap.size, 5, none⟩ = some (.int .i64 tk) := cell_of_row _ _ _ _ _ (0, 0) HB3.out.r0
        go_wp2_with fail
        go_ret
        exact ⟨rfl, HB3.out.below⟩
      · cases q4
        · have HB0 := Lib.hid (bxs1 w (.cells #[.int .i64 fl, .int .i64 tg, .int .i64 lf, .int .i64 dd, .int .i64 am, .int .i64 tk] 23))
          go_enter Try.func14, Try.ntmps14
          go_wp2_with fail
          refine (F1.out _).mono ?_
          rintro e w1 ⟨rfl, hb1⟩
          have HB1 := Lib.hid (HB0.out.next hb1)
          clear hb1 HB0
          have c0_0 : w1.cell? ⟨w.heap.size, 0, none⟩ = some (.int .i64 fl) := cell_of_row _ _ _ _ _ (0, 0) HB1.out.r0
          have c0_1 : w1.cell? ⟨w.heap.size, 1, none⟩ = some (.int .i64 tg) := cell_of_row _ _ _ _ _ (0, 0) HB1.out.r0
          have c0_2 : w1.cell? ⟨w.heap.size, 2, none⟩ = some (.int .i64 lf) := cell_of_row _ _ _ _ _ (0, 0) HB1.out.r0
          have c0_3 : w1.cell? ⟨w.heap.size, 3, none⟩ = some (.int .i64 dd) := cell_of_row _ _ _ _ _ (0, 0) HB1.out.r0
          have c0_4 : w1.cell? ⟨w.heap.size, 4, none⟩ = some (.int .i64 am) := cell_of_row _ _ _ _ _ (0, 0) HB1.out.r0
          have c0_5 : w1.cell? ⟨w.heap.size, 5, none⟩ = some (.int .i64 tk) := cell_of_row _ _ _ _ _ (0, 0) HB1.out.r0
          go_wp2_with fail
          refine (F2.out _).mono ?_
          rintro e w2 ⟨rfl, hb2⟩
          have HB2 := Lib.hid (HB1.out.next hb2)
          clear c0_0 c0_1 c0_2 c0_3 c0_4 c0_5 hb2 HB1
          have c0_0 : w2.cell? ⟨w.heap.size, 0, none⟩ = some (.int .i64 fl) := cell_of_row _ _ _ _ _ (0, 0) HB2.out.r0
          have c0_1 : w2.cell? ⟨w.heap.size, 1, none⟩ = some (.int .i64 tg) := cell_of_row _ _ _ _ _ (0, 0) HB2.out.r0
          have c0_2 : w2.cell? ⟨w.heap.size, 2, none⟩ = some (.int .i64 lf) := cell_of_row _ _ _ _ _ (0, 0) HB2.out.r0
          have c0_3 : w2.cell? ⟨w.heap.size, 3, none⟩ = some (.int .i64 dd) := cell_of_row _ _ _ _ _ (0, 0) HB2.out.r0
          have c0_4 : w2.cell? ⟨w.heap.size, 4, none⟩ = some (.int .i64 am) := cell_of_row _ _ _ _ _ (0, 0) HB2.out.r0
          have c0_5 : w2.cell? ⟨w.heap.size, 5, none⟩ = some (.int .i64 tk) := cell_of_row _ _ _ _ _ (0, 0) HB2.out.r0
          go_wp2_with fail
          refine (F3.out _).mono ?_
          rintro e w3 ⟨rfl, hb3⟩
          have HB3 := Lib.hid (HB2.out.next hb3)
          clear c0_0 c0_1 c0_2 c0_3 c0_4 c0_5 hb3 HB2
          have c0_0 : w3.cell? ⟨w.heap.size, 0, none⟩ = some (.int .i64 fl) := cell_of_row _ _ _ _ _ (0, 0) HB3.out.r0
          have c0_1 : w3.cell? ⟨w.heap.size, 1, none⟩ = some (.int .i64 tg) := cell_of_row _ _ _ _ _ (0, 0) HB3.out.r0
          have c0_2 : w3.cell? ⟨w.heap.size, 2, none⟩ = some (.int .i64 lf) := cell_of_row _ _ _ _ _ (0, 0) HB3.out.r0
          have c0_3 : w3.cell? ⟨w.heap.size, 3, none⟩ = some (.int .i64 dd) := cell_of_row _ _ _ _ _ (0, 0) HB3.out.r0
          have c0_4 : w3.cell? ⟨w.heap.size, 4, none⟩ = some (.int .i64 am) := cell_of_row _ _ _ _ _ (0, 0) HB3.out.r0
          have c0_5 : w3.cell? ⟨w.heap.size, 5, none⟩ = some (.int .i64 tk) := cell_of_row _ _ _ _ _ (0, 0) HB3.out.r0
          go_wp2_with fail
          refine (F4.out _).mono ?_
          rintro e w4 ⟨rfl, hb4⟩
          have HB4 := Lib.hid (HB3.out.next hb4)
          clear c0_0 c0_1 c0_2 c0_3 c0_4 c0_5 hb4 HB3
          have c0_0 : w4.cell? ⟨w.heap.size, 0, none⟩ = some (.int .i64 fl) := cell_of_row _ _ _ _ _ (0, 0) HB4.out.r0
          have c0_1 : w4.cell? ⟨w.heap.size, 1, none⟩ = some (.int .i64 tg) := cell_of_row _ _ _ _ _ (0, 0) HB4.out.r0
          have c0_2 : w4.cell? ⟨w.heap.size, 2, none⟩ = some (.int .i64 lf) := cell_of_row _ _ _ _ _ (0, 0) HB4.out.r0
          have c0_3 : w4.cell? ⟨w.heap.size, 3, none⟩ = some (.int .i64 dd) := cell_of_row _ _ _ _ _ (0, 0) HB4.out.r0
          have c0_4 : w4.cell? ⟨w.heap.size, 4, none⟩ = some (.int .i64 am) := cell_of_row _ _ _ _ _ (0, 0) HB4.out.r0
          have c0_5 : w4.cell? ⟨w.heap.size, 5, none⟩ = some (.int .i64 tk) := cell_of_row _ _ _ _ _ (0, 0) HB4.out.r0
          go_wp2_with fail
          go_ret
          exact ⟨rfl, HB4.out.below⟩
        · have HB0 := Lib.hid (bxs1 w (.cells #[.int .i64 fl, .int .i64 tg, .int .i64 lf, .int .i64 dd, .int .i64 am, .int .i64 tk] 23))
          go_enter Try.func14, Try.ntmps14
          go_wp2_with fail
          refine (F1.out _).mono ?_
          rintro e w1 ⟨rfl, hb1⟩
          have HB1 := Lib.hid (HB0.out.next hb1)
          clear hb1 HB0
          have c0_0 : w1.cell? ⟨w.heap.size, 0, none⟩ = some (.int .i64 fl) := cell_of_row _ _ _ _ _ (0, 0) HB1.out.r0
          have c0_1 : w1.cell? ⟨w.heap.size, 1, none⟩ = some (.int .i64 tg) := cell_of_row _ _ _ _ _ (0, 0) HB1.out.r0
          have c0_2 : w1.cell? ⟨w.heap.size, 2, none⟩ = some (.int .i64 lf) := cell_of_row _ _ _ _ _ (0, 0) HB1.out.r0
          have c0_3 : w1.cell? ⟨w.heap.size, 3, none⟩ = some (.int .i64 dd) := cell_of_row _ _ _ _ _ (0, 0) HB1.out.r0
          have c0_4 : w1.cell? ⟨w.heap.size, 4, none⟩ = some (.int .i64 am) := cell_of_row _ _ _ _ _ (0, 0) HB1.out.r0
          have c0_5 : w1.cell? ⟨w.heap.size, 5, none⟩ = some (.int .i64 tk) := cell_of_row _ _ _ _ _ (0, 0) HB1.out.r0
          go_wp2_with fail
          refine (F2.out _).mono ?_
          rintro e w2 ⟨rfl, hb2⟩
          have HB2 := Lib.hid (HB1.out.next hb2)
          clear c0_0 c0_1 c0_2 c0_3 c0_4 c0_5 hb2 HB1
          have c0_0 : w2.cell? ⟨w.heap.size, 0, none⟩ = some (.int .i64 fl) := cell_of_row _ _ _ _ _ (0, 0) HB2.out.r0
          have c0_1 : w2.cell? ⟨w.heap.size, 1, none⟩ = some (.int .i64 tg) := cell_of_row _ _ _ _ _ (0, 0) HB2.out.r0
          have c0_2 : w2.cell? ⟨w.heap.size, 2, none⟩ = some (.int .i64 lf) := cell_of_row _ _ _ _ _ (0, 0) HB2.out.r0
          have c0_3 : w2.cell? ⟨w.heap.size, 3, none⟩ = some (.int .i64 dd) := cell_of_row _ _ _ _ _ (0, 0) HB2.out.r0
          have c0_4 : w2.cell? ⟨w.heap.size, 4, none⟩ = some (.int .i64 am) := cell_of_row _ _ _ _ _ (0, 0) HB2.out.r0
          have c0_5 : w2.cell? ⟨w.heap.size, 5, none⟩ = some (.int .i64 tk) := cell_of_row _ _ _ _ _ (0, 0) HB2.out.r0
          go_wp2_with fail
          refine (F3.out _).mono ?_
          rintro e w3 ⟨rfl, hb3⟩
          have HB3 := Lib.hid (HB2.out.next hb3)
          clear c0_0 c0_1 c0_2 c0_3 c0_4 c0_5 hb3 HB2
          have c0_0 : w3.cell? ⟨w.heap.size, 0, none⟩ = some (.int .i64 fl) := cell_of_row _ _ _ _ _ (0, 0) HB3.out.r0
          have c0_1 : w3.cell? ⟨w.heap.size, 1, none⟩ = some (.int .i64 tg) := cell_of_row _ _ _ _ _ (0, 0) HB3.out.r0
          have c0_2 : w3.cell? ⟨w.heap.size, 2, none⟩ = some (.int .i64 lf) := cell_of_row _ _ _ _ _ (0, 0) HB3.out.r0
          have c0_3 : w3.cell? ⟨w.heap.size, 3, none⟩ = some (.int .i64 dd) := cell_of_row _ _ _ _ _ (0, 0) HB3.out.r0
          have c0_4 : w3.cell? ⟨w.heap.size, 4, none⟩ = some (.int .i64 am) := cell_of_row _ _ _ _ _ (0, 0) HB3.out.r0
          have c0_5 : w3.cell? ⟨w.heap.size, 5, none⟩ = some (.int .i64 tk) := cell_of_row _ _ _ _ _ (0, 0) HB3.out.r0
          go_wp2_with fail
          refine (F4.out _).mono ?_
          rintro e w4 ⟨rfl, hb4⟩
          have HB4 := Lib.hid (HB3.out.next hb4)
          clear c0_0 c0_1 c0_2 c0_3 c0_4 c0_5 hb4 HB3
          have c0_0 : w4.cell? ⟨w.heap.size, 0, none⟩ = some (.int .i64 fl) := cell_of_row _ _ _ _ _ (0, 0) HB4.out.r0
          have c0_1 : w4.cell? ⟨w.heap.size, 1, none⟩ = some (.int .i64 tg) := cell_of_row _ _ _ _ _ (0, 0) HB4.out.r0
          have c0_2 : w4.cell? ⟨w.heap.size, 2, none⟩ = some (.int .i64 lf) := cell_of_row _ _ _ _ _ (0, 0) HB4.out.r0
          have c0_3 : w4.cell? ⟨w.heap.size, 3, none⟩ = some (.int .i64 dd) := cell_of_row _ _ _ _ _ (0, 0) HB4.out.r0
          have c0_4 : w4.cell? ⟨w.heap.size, 4, none⟩ = some (.int .i64 am) := cell_of_row _ _ _ _ _ (0, 0) HB4.out.r0
          have c0_5 : w4.cell? ⟨w.heap.size, 5, none⟩ = some (.int .i64 tk) := cell_of_row _ _ _ _ _ (0, 0) HB4.out.r0
          go_wp2_with fail
          refine (F5.out _).mono ?_
          rintro e w5 ⟨rfl, hb5⟩
          have HB5 := Lib.hid (HB4.out.next hb5)
          clear c0_0 c0_1 c0_2 c0_3 c0_4 c0_5 hb5 HB4
          have c0_0 : w5.cell? ⟨w.heap.size, 0, none⟩ = some (.int .i64 fl) := cell_of_row _ _ _ _ _ (0, 0) HB5.out.r0
          have c0_1 : w5.cell? ⟨w.heap.size, 1, none⟩ = some (.int .i64 tg) := cell_of_row _ _ _ _ _ (0, 0) HB5.out.r0
          have c0_2 : w5.cell? ⟨w.heap.size, 2, none⟩ = some (.int .i64 lf) := cell_of_row _ _ _ _ _ (0, 0) HB5.out.r0
          have c0_3 : w5.cell? ⟨w.heap.size, 3, none⟩ = some (.int .i64 dd) := cell_of_row _ _ _ _ _ (0, 0) HB5.out.r0
          have c0_4 : w5.cell? ⟨w.heap.size, 4, none⟩ = some (.int .i64 am) := cell_of_row _ _ _ _ _ (0, 0) HB5.out.r0
          have c0_5 : w5.cell? ⟨w.heap.size, 5, none⟩ = some (.int .i64 tk) := cell_of_row _ _ _ _ _ (0, 0) HB5.out.r0
          go_wp2_with fail
          go_ret
          exact ⟨by simp, HB5.out.below⟩
set_option maxHeartbeats 4000000 in
theorem rigRide_any (r : Rg) (t l : Int) (w : World) :
    Calls Try.prog 17 #[r.agg, .int .i64 t, .int .i64 l] w fun ee w' => ee = .returned ((Rg.rideF r t l).agg) ∧ Below w.heap.size w w' := by
  obtain ⟨fl, tg, lf, dd, am, tk⟩ := r
  by_cases h0 : l = 0
  · subst h0
    rw [show Rg.rideF ⟨fl, tg, lf, dd, am, tk⟩ t 0 = ⟨t, t, 0, dd, am, tk⟩ from rfl]
    simp only [Rg.agg]
    have HB0 := Lib.hid (bxs2 w (.cells #[.int .i64 fl, .int .i64 tg, .int .i64 lf, .int .i64 dd, .int .i64 am, .int .i64 tk] 23) (.cells #[.int .i64 0, .int .i64 0, .int .i64 0, .int .i64 0, .int .i64 0, .int .i64 0] 23))
    go_enter Try.func17, Try.ntmps17
    go_wp2_with (with_reducible show wpList _ _ _ (Oper.mk _ (.store 3 _ _) _ _ _ _ :: _) _ _; refine Hid.out ?_)
    refine Lib.hid ?_
    refine wpList_putCell rfl 3 _ _ rfl (w.heap.size) 1 (.int .i64 t) _ _ 23 rfl rfl HB0.out.r0 (by kernel_rfl) (by simp) rfl rfl rfl ?_
    intro w1 hr1 hg1
    have HB1 : Hid (Bx w [(w.heap.size, .cells #[.int .i64 fl, .int .i64 t, .int .i64 lf, .int .i64 dd, .int .i64 am, .int .i64 tk] 23 (0, 0)), (w.heap.size + 1, .cells #[.int .i64 0, .int .i64 0, .int .i64 0, .int .i64 0, .int .i64 0, .int .i64 0] 23 (0, 0))] w1) := Lib.hid (HB0.out.put (by omega) hg1.out hr1.out (by simp only [List.mem_cons, List.not_mem_nil, or_false]; rintro p (rfl | rfl) <;> simp <;> omega))
    clear hr1 hg1 HB0
    have c0_0 : w1.cell? ⟨w.heap.size, 0, none⟩ = some (.int .i64 fl) := cell_of_row _ _ _ _ _ (0, 0) HB1.out.r0
    have c0_1 : w1.cell? ⟨w.heap.size, 1, none⟩ = some (.int .i64 t) := cell_of_row _ _ _ _ _ (0, 0) HB1.out.r0
    have c0_2 : w1.cell? ⟨w.heap.size, 2, none⟩ = some (.int .i64 lf) := cell_of_row _ _ _ _ _ (0, 0) HB1.out.r0
    have c0_3 : w1.cell? ⟨w.heap.size, 3, none⟩ = some (.int .i64 dd) := cell_of_row _ _ _ _ _ (0, 0) HB1.out.r0
    have c0_4 : w1.cell? ⟨w.heap.size, 4, none⟩ = some (.int .i64 am) := cell_of_row _ _ _ _ _ (0, 0) HB1.out.r0
    have c0_5 : w1.cell? ⟨w.heap.size, 5, none⟩ = some (.int .i64 tk) := cell_of_row _ _ _ _ _ (0, 0) HB1.out.r0
    have c1_0 : w1.cell? ⟨w.heap.size + 1, 0, none⟩ = some (.int .i64 0) := cell_of_row _ _ _ _ _ (0, 0) HB1.out.r1
    have c1_1 : w1.cell? ⟨w.heap.size + 1, 1, none⟩ = some (.int .i64 0) := cell_of_row _ _ _ _ _ (0, 0) HB1.out.r1
    have c1_2 : w1.cell? ⟨w.heap.size + 1, 2, none⟩ = some (.int .i64 0) := cell_of_row _ _ _ _ _ (0, 0) HB1.out.r1
    have c1_3 : w1.cell? ⟨w.heap.size + 1, 3, none⟩ = some (.int .i64 0) := cell_of_row _ _ _ _ _ (0, 0) HB1.out.r1
    have c1_4 : w1.cell? ⟨w.heap.size + 1, 4, none⟩ = some (.int .i64 0) := cell_of_row _ _ _ _ _ (0, 0) HB1.out.r1
    have c1_5 : w1.cell? ⟨w.heap.size + 1, 5, none⟩ = some (.int .i64 0) := cell_of_row _ _ _ _ _ (0, 0) HB1.out.r1
    go_wp2_with (with_reducible show wpList _ _ _ (Oper.mk _ (.store 3 _ _) _ _ _ _ :: _) _ _; refine Hid.out ?_)
    refine Lib.hid ?_
    refine wpList_putCell rfl 3 _ _ rfl (w.heap.size) 2 (.int .i64 0) _ _ 23 rfl rfl HB1.out.r0 (by kernel_rfl) (by simp) rfl rfl rfl ?_
    intro w2 hr2 hg2
    have HB2 : Hid (Bx w [(w.heap.size, .cells #[.int .i64 fl, .int .i64 t, .int .i64 0, .int .i64 dd, .int .i64 am, .int .i64 tk] 23 (0, 0)), (w.heap.size + 1, .cells #[.int .i64 0, .int .i64 0, .int .i64 0, .int .i64 0, .int .i64 0, .int .i64 0] 23 (0, 0))] w2) := Lib.hid (HB1.out.put (by omega) hg2.out hr2.out (by simp only [List.mem_cons, List.not_mem_nil, or_false]; rintro p (rfl | rfl) <;> simp <;> omega))
    clear c0_0 c0_1 c0_2 c0_3 c0_4 c0_5 c1_0 c1_1 c1_2 c1_3 c1_4 c1_5 hr2 hg2 HB1
    have c0_0 : w2.cell? ⟨w.heap.size, 0, none⟩ = some (.int .i64 fl) := cell_of_row _ _ _ _ _ (0, 0) HB2.out.r0
    have c0_1 : w2.cell? ⟨w.heap.size, 1, none⟩ = some (.int .i64 t) := cell_of_row _ _ _ _ _ (0, 0) HB2.out.r0
    have c0_2 : w2.cell? ⟨w.heap.size, 2, none⟩ = some (.int .i64 0) := cell_of_row _ _ _ _ _ (0, 0) HB2.out.r0
    have c0_3 : w2.cell? ⟨w.heap.size, 3, none⟩ = some (.int .i64 dd) := cell_of_row _ _ _ _ _ (0, 0) HB2.out.r0
    have c0_4 : w2.cell? ⟨w.heap.size, 4, none⟩ = some (.int .i64 am) := cell_of_row _ _ _ _ _ (0, 0) HB2.out.r0
    have c0_5 : w2.cell? ⟨w.heap.size, 5, none⟩ = some (.int .i64 tk) := cell_of_row _ _ _ _ _ (0, 0) HB2.out.r0
    have c1_0 : w2.cell? ⟨w.heap.size + 1, 0, none⟩ = some (.int .i64 0) := cell_of_row _ _ _ _ _ (0, 0) HB2.out.r1
    have c1_1 : w2.cell? ⟨w.heap.size + 1, 1, none⟩ = some (.int .i64 0) := cell_of_row _ _ _ _ _ (0, 0) HB2.out.r1
    have c1_2 : w2.cell? ⟨w.heap.size + 1, 2, none⟩ = some (.int .i64 0) := cell_of_row _ _ _ _ _ (0, 0) HB2.out.r1
    have c1_3 : w2.cell? ⟨w.heap.size + 1, 3, none⟩ = some (.int .i64 0) := cell_of_row _ _ _ _ _ (0, 0) HB2.out.r1
    have c1_4 : w2.cell? ⟨w.heap.size + 1, 4, none⟩ = some (.int .i64 0) := cell_of_row _ _ _ _ _ (0, 0) HB2.out.r1
    have c1_5 : w2.cell? ⟨w.heap.size + 1, 5, none⟩ = some (.int .i64 0) := cell_of_row _ _ _ _ _ (0, 0) HB2.out.r1
    go_wp2_with (with_reducible show wpList _ _ _ (Oper.mk _ (.store 3 _ _) _ _ _ _ :: _) _ _; refine Hid.out ?_)
    refine Lib.hid ?_
    refine wpList_putCell rfl 3 _ _ rfl (w.heap.size) 0 (.int .i64 t) _ _ 23 rfl rfl HB2.out.r0 (by kernel_rfl) (by simp) rfl rfl rfl ?_
    intro w3 hr3 hg3
    have HB3 : Hid (Bx w [(w.heap.size, .cells #[.int .i64 t, .int .i64 t, .int .i64 0, .int .i64 dd, .int .i64 am, .int .i64 tk] 23 (0, 0)), (w.heap.size + 1, .cells #[.int .i64 0, .int .i64 0, .int .i64 0, .int .i64 0, .int .i64 0, .int .i64 0] 23 (0, 0))] w3) := Lib.hid (HB2.out.put (by omega) hg3.out hr3.out (by simp only [List.mem_cons, List.not_mem_nil, or_false]; rintro p (rfl | rfl) <;> simp <;> omega))
    clear c0_0 c0_1 c0_2 c0_3 c0_4 c0_5 c1_0 c1_1 c1_2 c1_3 c1_4 c1_5 hr3 hg3 HB2
    have c0_0 : w3.cell? ⟨w.heap.size, 0, none⟩ = some (.int .i64 t) := cell_of_row _ _ _ _ _ (0, 0) HB3.out.r0
    have c0_1 : w3.cell? ⟨w.heap.size, 1, none⟩ = some (.int .i64 t) := cell_of_row _ _ _ _ _ (0, 0) HB3.out.r0
    have c0_2 : w3.cell? ⟨w.heap.size, 2, none⟩ = some (.int .i64 0) := cell_of_row _ _ _ _ _ (0, 0) HB3.out.r0
    have c0_3 : w3.cell? ⟨w.heap.size, 3, none⟩ = some (.int .i64 dd) := cell_of_row _ _ _ _ _ (0, 0) HB3.out.r0
    have c0_4 : w3.cell? ⟨w.heap.size, 4, none⟩ = some (.int .i64 am) := cell_of_row _ _ _ _ _ (0, 0) HB3.out.r0
    have c0_5 : w3.cell? ⟨w.heap.size, 5, none⟩ = some (.int .i64 tk) := cell_of_row _ _ _ _ _ (0, 0) HB3.out.r0
    have c1_0 : w3.cell? ⟨w.heap.size + 1, 0, none⟩ = some (.int .i64 0) := cell_of_row _ _ _ _ _ (0, 0) HB3.out.r1
    have c1_1 : w3.cell? ⟨w.heap.size + 1, 1, none⟩ = some (.int .i64 0) := cell_of_row _ _ _ _ _ (0, 0) HB3.out.r1
    have c1_2 : w3.cell? ⟨w.heap.size + 1, 2, none⟩ = some (.int .i64 0) := cell_of_row _ _ _ _ _ (0, 0) HB3.out.r1
    have c1_3 : w3.cell? ⟨w.heap.size + 1, 3, none⟩ = some (.int .i64 0) := cell_of_row _ _ _ _ _ (0, 0) HB3.out.r1
    have c1_4 : w3.cell? ⟨w.heap.size + 1, 4, none⟩ = some (.int .i64 0) := cell_of_row _ _ _ _ _ (0, 0) HB3.out.r1
    have c1_5 : w3.cell? ⟨w.heap.size + 1, 5, none⟩ = some (.int .i64 0) := cell_of_row _ _ _ _ _ (0, 0) HB3.out.r1
    go_wp2_with (with_reducible show wpList _ _ _ (Oper.mk _ (.store 23 _ _) _ _ _ _ :: _) _ _; refine Hid.out ?_)
    refine Lib.hid ?_
    refine wpList_put rfl 23 _ _ rfl (w.heap.size + 1) #[.int .i64 t, .int .i64 t, .int .i64 0, .int .i64 dd, .int .i64 am, .int .i64 tk] _ 23 rfl rfl HB3.out.r1 (by kernel_rfl) rfl (by kernel_rfl) ?_
    intro w4 hr4 hg4
    have HB4 : Hid (Bx w [(w.heap.size, .cells #[.int .i64 t, .int .i64 t, .int .i64 0, .int .i64 dd, .int .i64 am, .int .i64 tk] 23 (0, 0)), (w.heap.size + 1, .cells #[.int .i64 t, .int .i64 t, .int .i64 0, .int .i64 dd, .int .i64 am, .int .i64 tk] 23 (0, 0))] w4) := Lib.hid (HB3.out.put (by omega) hg4.out hr4.out (by simp only [List.mem_cons, List.not_mem_nil, or_false]; rintro p (rfl | rfl) <;> simp <;> omega))
    clear c0_0 c0_1 c0_2 c0_3 c0_4 c0_5 c1_0 c1_1 c1_2 c1_3 c1_4 c1_5 hr4 hg4 HB3
    go_wp2_with fail
    exact bodyPost_ret (results_cell_row Try.results17 _ _ _ _ _ (0, 0) _ rfl (HB4.out.r1) Try.underlying23 rfl (by kernel_rfl)) rfl (⟨rfl, HB4.out.below⟩)
  · rw [show Rg.rideF ⟨fl, tg, lf, dd, am, tk⟩ t l = ⟨fl, t, l, dd, am, tk⟩ by unfold Rg.rideF; simp only; rw [if_neg h0]]
    have hB : (l == 0) = false := by simpa using h0
    simp only [Rg.agg]
    have HB0 := Lib.hid (bxs2 w (.cells #[.int .i64 fl, .int .i64 tg, .int .i64 lf, .int .i64 dd, .int .i64 am, .int .i64 tk] 23) (.cells #[.int .i64 0, .int .i64 0, .int .i64 0, .int .i64 0, .int .i64 0, .int .i64 0] 23))
    go_enter Try.func17, Try.ntmps17
    go_wp2_with (with_reducible show wpList _ _ _ (Oper.mk _ (.store 3 _ _) _ _ _ _ :: _) _ _; refine Hid.out ?_)
    refine Lib.hid ?_
    refine wpList_putCell rfl 3 _ _ rfl (w.heap.size) 1 (.int .i64 t) _ _ 23 rfl rfl HB0.out.r0 (by kernel_rfl) (by simp) rfl rfl rfl ?_
    intro w1 hr1 hg1
    have HB1 : Hid (Bx w [(w.heap.size, .cells #[.int .i64 fl, .int .i64 t, .int .i64 lf, .int .i64 dd, .int .i64 am, .int .i64 tk] 23 (0, 0)), (w.heap.size + 1, .cells #[.int .i64 0, .int .i64 0, .int .i64 0, .int .i64 0, .int .i64 0, .int .i64 0] 23 (0, 0))] w1) := Lib.hid (HB0.out.put (by omega) hg1.out hr1.out (by simp only [List.mem_cons, List.not_mem_nil, or_false]; rintro p (rfl | rfl) <;> simp <;> omega))
    clear hr1 hg1 HB0
    have c0_0 : w1.cell? ⟨w.heap.size, 0, none⟩ = some (.int .i64 fl) := cell_of_row _ _ _ _ _ (0, 0) HB1.out.r0
    have c0_1 : w1.cell? ⟨w.heap.size, 1, none⟩ = some (.int .i64 t) := cell_of_row _ _ _ _ _ (0, 0) HB1.out.r0
    have c0_2 : w1.cell? ⟨w.heap.size, 2, none⟩ = some (.int .i64 lf) := cell_of_row _ _ _ _ _ (0, 0) HB1.out.r0
    have c0_3 : w1.cell? ⟨w.heap.size, 3, none⟩ = some (.int .i64 dd) := cell_of_row _ _ _ _ _ (0, 0) HB1.out.r0
    have c0_4 : w1.cell? ⟨w.heap.size, 4, none⟩ = some (.int .i64 am) := cell_of_row _ _ _ _ _ (0, 0) HB1.out.r0
    have c0_5 : w1.cell? ⟨w.heap.size, 5, none⟩ = some (.int .i64 tk) := cell_of_row _ _ _ _ _ (0, 0) HB1.out.r0
    have c1_0 : w1.cell? ⟨w.heap.size + 1, 0, none⟩ = some (.int .i64 0) := cell_of_row _ _ _ _ _ (0, 0) HB1.out.r1
    have c1_1 : w1.cell? ⟨w.heap.size + 1, 1, none⟩ = some (.int .i64 0) := cell_of_row _ _ _ _ _ (0, 0) HB1.out.r1
    have c1_2 : w1.cell? ⟨w.heap.size + 1, 2, none⟩ = some (.int .i64 0) := cell_of_row _ _ _ _ _ (0, 0) HB1.out.r1
    have c1_3 : w1.cell? ⟨w.heap.size + 1, 3, none⟩ = some (.int .i64 0) := cell_of_row _ _ _ _ _ (0, 0) HB1.out.r1
    have c1_4 : w1.cell? ⟨w.heap.size + 1, 4, none⟩ = some (.int .i64 0) := cell_of_row _ _ _ _ _ (0, 0) HB1.out.r1
    have c1_5 : w1.cell? ⟨w.heap.size + 1, 5, none⟩ = some (.int .i64 0) := cell_of_row _ _ _ _ _ (0, 0) HB1.out.r1
    go_wp2_with (with_reducible show wpList _ _ _ (Oper.mk _ (.store 3 _ _) _ _ _ _ :: _) _ _; refine Hid.out ?_)
    refine Lib.hid ?_
    refine wpList_putCell rfl 3 _ _ rfl (w.heap.size) 2 (.int .i64 l) _ _ 23 rfl rfl HB1.out.r0 (by kernel_rfl) (by simp) rfl rfl rfl ?_
    intro w2 hr2 hg2
    have HB2 : Hid (Bx w [(w.heap.size, .cells #[.int .i64 fl, .int .i64 t, .int .i64 l, .int .i64 dd, .int .i64 am, .int .i64 tk] 23 (0, 0)), (w.heap.size + 1, .cells #[.int .i64 0, .int .i64 0, .int .i64 0, .int .i64 0, .int .i64 0, .int .i64 0] 23 (0, 0))] w2) := Lib.hid (HB1.out.put (by omega) hg2.out hr2.out (by simp only [List.mem_cons, List.not_mem_nil, or_false]; rintro p (rfl | rfl) <;> simp <;> omega))
    clear c0_0 c0_1 c0_2 c0_3 c0_4 c0_5 c1_0 c1_1 c1_2 c1_3 c1_4 c1_5 hr2 hg2 HB1
    have c0_0 : w2.cell? ⟨w.heap.size, 0, none⟩ = some (.int .i64 fl) := cell_of_row _ _ _ _ _ (0, 0) HB2.out.r0
    have c0_1 : w2.cell? ⟨w.heap.size, 1, none⟩ = some (.int .i64 t) := cell_of_row _ _ _ _ _ (0, 0) HB2.out.r0
    have c0_2 : w2.cell? ⟨w.heap.size, 2, none⟩ = some (.int .i64 l) := cell_of_row _ _ _ _ _ (0, 0) HB2.out.r0
    have c0_3 : w2.cell? ⟨w.heap.size, 3, none⟩ = some (.int .i64 dd) := cell_of_row _ _ _ _ _ (0, 0) HB2.out.r0
    have c0_4 : w2.cell? ⟨w.heap.size, 4, none⟩ = some (.int .i64 am) := cell_of_row _ _ _ _ _ (0, 0) HB2.out.r0
    have c0_5 : w2.cell? ⟨w.heap.size, 5, none⟩ = some (.int .i64 tk) := cell_of_row _ _ _ _ _ (0, 0) HB2.out.r0
    have c1_0 : w2.cell? ⟨w.heap.size + 1, 0, none⟩ = some (.int .i64 0) := cell_of_row _ _ _ _ _ (0, 0) HB2.out.r1
    have c1_1 : w2.cell? ⟨w.heap.size + 1, 1, none⟩ = some (.int .i64 0) := cell_of_row _ _ _ _ _ (0, 0) HB2.out.r1
    have c1_2 : w2.cell? ⟨w.heap.size + 1, 2, none⟩ = some (.int .i64 0) := cell_of_row _ _ _ _ _ (0, 0) HB2.out.r1
    have c1_3 : w2.cell? ⟨w.heap.size + 1, 3, none⟩ = some (.int .i64 0) := cell_of_row _ _ _ _ _ (0, 0) HB2.out.r1
    have c1_4 : w2.cell? ⟨w.heap.size + 1, 4, none⟩ = some (.int .i64 0) := cell_of_row _ _ _ _ _ (0, 0) HB2.out.r1
    have c1_5 : w2.cell? ⟨w.heap.size + 1, 5, none⟩ = some (.int .i64 0) := cell_of_row _ _ _ _ _ (0, 0) HB2.out.r1
    go_wp2_with (with_reducible show wpList _ _ _ (Oper.mk _ (.store 23 _ _) _ _ _ _ :: _) _ _; refine Hid.out ?_)
    refine Lib.hid ?_
    refine wpList_put rfl 23 _ _ rfl (w.heap.size + 1) #[.int .i64 fl, .int .i64 t, .int .i64 l, .int .i64 dd, .int .i64 am, .int .i64 tk] _ 23 rfl rfl HB2.out.r1 (by kernel_rfl) rfl (by kernel_rfl) ?_
    intro w3 hr3 hg3
    have HB3 : Hid (Bx w [(w.heap.size, .cells #[.int .i64 fl, .int .i64 t, .int .i64 l, .int .i64 dd, .int .i64 am, .int .i64 tk] 23 (0, 0)), (w.heap.size + 1, .cells #[.int .i64 fl, .int .i64 t, .int .i64 l, .int .i64 dd, .int .i64 am, .int .i64 tk] 23 (0, 0))] w3) := Lib.hid (HB2.out.put (by omega) hg3.out hr3.out (by simp only [List.mem_cons, List.not_mem_nil, or_false]; rintro p (rfl | rfl) <;> simp <;> omega))
    clear c0_0 c0_1 c0_2 c0_3 c0_4 c0_5 c1_0 c1_1 c1_2 c1_3 c1_4 c1_5 hr3 hg3 HB2
    go_wp2_with fail
    exact bodyPost_ret (results_cell_row Try.results17 _ _ _ _ _ (0, 0) _ rfl (HB3.out.r1) Try.underlying23 rfl (by kernel_rfl)) rfl (⟨rfl, HB3.out.below⟩)
set_option maxHeartbeats 4000000 in
theorem rigAim_any (r : Rg) (m : Int) (w : World) :
    Calls Try.prog 20 #[r.agg, .int .i64 m] w fun ee w' => ee = .returned (.int .i64 (r.aim m)) ∧ Below w.heap.size w w' := by
  obtain ⟨fl, tg, lf, dd, am, tk⟩ := r
  by_cases m3 : m = 3
  · subst m3
    rw [show Rg.aim ⟨fl, tg, lf, dd, am, tk⟩ 3 = 1 from rfl]
    simp only [Rg.agg]
    have HB0 := Lib.hid (bxs1 w (.cells #[.int .i64 fl, .int .i64 tg, .int .i64 lf, .int .i64 dd, .int .i64 am, .int .i64 tk] 23))
    go_enter Try.func20, Try.ntmps20
    go_wp2_with fail
    go_ret
    exact ⟨rfl, HB0.out.below⟩
  · by_cases m5 : m = 5
    · subst m5
      rw [show Rg.aim ⟨fl, tg, lf, dd, am, tk⟩ 5 = 2 from rfl]
      simp only [Rg.agg]
      have HB0 := Lib.hid (bxs1 w (.cells #[.int .i64 fl, .int .i64 tg, .int .i64 lf, .int .i64 dd, .int .i64 am, .int .i64 tk] 23))
      go_enter Try.func20, Try.ntmps20
      go_wp2_with fail
      go_ret
      exact ⟨rfl, HB0.out.below⟩
    · by_cases m4 : m = 4
      · subst m4
        rw [show Rg.aim ⟨fl, tg, lf, dd, am, tk⟩ 4 = 2 from rfl]
        simp only [Rg.agg]
        have HB0 := Lib.hid (bxs1 w (.cells #[.int .i64 fl, .int .i64 tg, .int .i64 lf, .int .i64 dd, .int .i64 am, .int .i64 tk] 23))
        go_enter Try.func20, Try.ntmps20
        go_wp2_with fail
        go_ret
        exact ⟨rfl, HB0.out.below⟩
      · rw [show Rg.aim ⟨fl, tg, lf, dd, am, tk⟩ m = am by unfold Rg.aim; rw [if_neg m3, if_neg (by omega)]]
        have b3 : (m == 3) = false := by simpa using m3
        have b4 : (m == 4) = false := by simpa using m4
        have b5 : (m == 5) = false := by simpa using m5
        simp only [Rg.agg]
        have HB0 := Lib.hid (bxs1 w (.cells #[.int .i64 fl, .int .i64 tg, .int .i64 lf, .int .i64 dd, .int .i64 am, .int .i64 tk] 23))
        go_enter Try.func20, Try.ntmps20
        go_wp2_with fail
        go_ret
        exact ⟨rfl, HB0.out.below⟩
set_option maxHeartbeats 4000000 in
theorem rigNext_any (F : Int) (r : Rg) (m : Int) (w : World) (hF : 2 ≤ F ∧ F ≤ 32) (hf : 0 ≤ r.fl ∧ r.fl ≤ F - 1) :
    Calls Try.prog 18 #[.int .i64 F, r.agg, .int .i64 m] w fun ee w' => ee = .returned (.int .i64 (Rg.nextF F r m)) ∧ Below w.heap.size w w' := by
  obtain ⟨fl, tg, lf, dd, am, tk⟩ := r
  simp only at hf
  have FI := fun x wx => rigFloor_any F x wx hF
  unfold Rg.nextF
  by_cases m1 : m = 1
  · subst m1
    have hn : Rg.nxt ⟨fl, tg, lf, dd, am, tk⟩ 1 = fl + 1 := rfl
    rw [hn]
    have hw : IntKind.i64.wrap (fl + 1) = fl + 1 := by rw [IntKind.wrap_i64]; omega
    simp only [Rg.agg]
    clear hn
    by_cases hd : dd = 2
    · subst hd
      have FI := Lib.hid (fun wx => FI (fl + 1) wx)
      by_cases hi : 0 ≤ fl + 1 ∧ fl + 1 ≤ F - 1
      · rw [Nc.wi_yes hi] at FI
        rw [if_pos ⟨rfl, hi⟩]
        clear hi hF hf
        have HB0 := Lib.hid (bxs1 w (.cells #[.int .i64 fl, .int .i64 tg, .int .i64 lf, .int .i64 2, .int .i64 am, .int .i64 tk] 23))
        go_enter Try.func18, Try.ntmps18
        go_wp2_with fail
        refine (FI.out _).mono ?_
        rintro e w1 ⟨rfl, hb1⟩
        have HB1 := Lib.hid (HB0.out.next hb1)
        clear hb1 HB0
        have c0_0 : w1.cell? ⟨w.heap.size, 0, none⟩ = some (.int .i64 fl) := cell_of_row _ _ _ _ _ (0, 0) HB1.out.r0
        have c0_1 : w1.cell? ⟨w.heap.size, 1, none⟩ = some (.int .i64 tg) := cell_of_row _ _ _ _ _ (0, 0) HB1.out.r0
        have c0_2 : w1.cell? ⟨w.heap.size, 2, none⟩ = some (.int .i64 lf) := cell_of_row _ _ _ _ _ (0, 0) HB1.out.r0
        have c0_3 : w1.cell? ⟨w.heap.size, 3, none⟩ = some (.int .i64 2) := cell_of_row _ _ _ _ _ (0, 0) HB1.out.r0
        have c0_4 : w1.cell? ⟨w.heap.size, 4, none⟩ = some (.int .i64 am) := cell_of_row _ _ _ _ _ (0, 0) HB1.out.r0
        have c0_5 : w1.cell? ⟨w.heap.size, 5, none⟩ = some (.int .i64 tk) := cell_of_row _ _ _ _ _ (0, 0) HB1.out.r0
        go_wp2_with fail
        go_ret
        exact ⟨rfl, HB1.out.below⟩
      · rw [Nc.wi_no hi] at FI
        rw [if_neg (fun h => hi h.2)]
        clear hi hF hf
        have HB0 := Lib.hid (bxs1 w (.cells #[.int .i64 fl, .int .i64 tg, .int .i64 lf, .int .i64 2, .int .i64 am, .int .i64 tk] 23))
        go_enter Try.func18, Try.ntmps18
        go_wp2_with fail
        refine (FI.out _).mono ?_
        rintro e w1 ⟨rfl, hb1⟩
        have HB1 := Lib.hid (HB0.out.next hb1)
        clear hb1 HB0
        have c0_0 : w1.cell? ⟨w.heap.size, 0, none⟩ = some (.int .i64 fl) := cell_of_row _ _ _ _ _ (0, 0) HB1.out.r0
        have c0_1 : w1.cell? ⟨w.heap.size, 1, none⟩ = some (.int .i64 tg) := cell_of_row _ _ _ _ _ (0, 0) HB1.out.r0
        have c0_2 : w1.cell? ⟨w.heap.size, 2, none⟩ = some (.int .i64 lf) := cell_of_row _ _ _ _ _ (0, 0) HB1.out.r0
        have c0_3 : w1.cell? ⟨w.heap.size, 3, none⟩ = some (.int .i64 2) := cell_of_row _ _ _ _ _ (0, 0) HB1.out.r0
        have c0_4 : w1.cell? ⟨w.heap.size, 4, none⟩ = some (.int .i64 am) := cell_of_row _ _ _ _ _ (0, 0) HB1.out.r0
        have c0_5 : w1.cell? ⟨w.heap.size, 5, none⟩ = some (.int .i64 tk) := cell_of_row _ _ _ _ _ (0, 0) HB1.out.r0
        go_wp2_with fail
        go_ret
        exact ⟨rfl, HB1.out.below⟩
    · rw [if_neg (fun h => hd h.1)]
      have hdB : (dd != 2) = true := by simpa using hd
      clear FI hd hF hf
      have HB0 := Lib.hid (bxs1 w (.cells #[.int .i64 fl, .int .i64 tg, .int .i64 lf, .int .i64 dd, .int .i64 am, .int .i64 tk] 23))
      go_enter Try.func18, Try.ntmps18
      go_wp2_with fail
      go_ret
      exact ⟨rfl, HB0.out.below⟩
  · by_cases m2 : m = 2
    · subst m2
      have hn : Rg.nxt ⟨fl, tg, lf, dd, am, tk⟩ 2 = fl - 1 := rfl
      rw [hn]
      have hw : IntKind.i64.wrap (fl - 1) = fl - 1 := by rw [IntKind.wrap_i64]; omega
      simp only [Rg.agg]
      clear hn
      by_cases hd : dd = 2
      · subst hd
        have FI := Lib.hid (fun wx => FI (fl - 1) wx)
        by_cases hi : 0 ≤ fl - 1 ∧ fl - 1 ≤ F - 1
        · rw [Nc.wi_yes hi] at FI
          rw [if_pos ⟨rfl, hi⟩]
          clear hi hF hf
          have HB0 := Lib.hid (bxs1 w (.cells #[.int .i64 fl, .int .i64 tg, .int .i64 lf, .int .i64 2, .int .i64 am, .int .i64 tk] 23))
          go_enter Try.func18, Try.ntmps18
          go_wp2_with fail
          refine (FI.out _).mono ?_
          rintro e w1 ⟨rfl, hb1⟩
          have HB1 := Lib.hid (HB0.out.next hb1)
          clear hb1 HB0
          have c0_0 : w1.cell? ⟨w.heap.size, 0, none⟩ = some (.int .i64 fl) := cell_of_row _ _ _ _ _ (0, 0) HB1.out.r0
          have c0_1 : w1.cell? ⟨w.heap.size, 1, none⟩ = some (.int .i64 tg) := cell_of_row _ _ _ _ _ (0, 0) HB1.out.r0
          have c0_2 : w1.cell? ⟨w.heap.size, 2, none⟩ = some (.int .i64 lf) := cell_of_row _ _ _ _ _ (0, 0) HB1.out.r0
          have c0_3 : w1.cell? ⟨w.heap.size, 3, none⟩ = some (.int .i64 2) := cell_of_row _ _ _ _ _ (0, 0) HB1.out.r0
          have c0_4 : w1.cell? ⟨w.heap.size, 4, none⟩ = some (.int .i64 am) := cell_of_row _ _ _ _ _ (0, 0) HB1.out.r0
          have c0_5 : w1.cell? ⟨w.heap.size, 5, none⟩ = some (.int .i64 tk) := cell_of_row _ _ _ _ _ (0, 0) HB1.out.r0
          go_wp2_with fail
          go_ret
          exact ⟨rfl, HB1.out.below⟩
        · rw [Nc.wi_no hi] at FI
          rw [if_neg (fun h => hi h.2)]
          clear hi hF hf
          have HB0 := Lib.hid (bxs1 w (.cells #[.int .i64 fl, .int .i64 tg, .int .i64 lf, .int .i64 2, .int .i64 am, .int .i64 tk] 23))
          go_enter Try.func18, Try.ntmps18
          go_wp2_with fail
          refine (FI.out _).mono ?_
          rintro e w1 ⟨rfl, hb1⟩
          have HB1 := Lib.hid (HB0.out.next hb1)
          clear hb1 HB0
          have c0_0 : w1.cell? ⟨w.heap.size, 0, none⟩ = some (.int .i64 fl) := cell_of_row _ _ _ _ _ (0, 0) HB1.out.r0
          have c0_1 : w1.cell? ⟨w.heap.size, 1, none⟩ = some (.int .i64 tg) := cell_of_row _ _ _ _ _ (0, 0) HB1.out.r0
          have c0_2 : w1.cell? ⟨w.heap.size, 2, none⟩ = some (.int .i64 lf) := cell_of_row _ _ _ _ _ (0, 0) HB1.out.r0
          have c0_3 : w1.cell? ⟨w.heap.size, 3, none⟩ = some (.int .i64 2) := cell_of_row _ _ _ _ _ (0, 0) HB1.out.r0
          have c0_4 : w1.cell? ⟨w.heap.size, 4, none⟩ = some (.int .i64 am) := cell_of_row _ _ _ _ _ (0, 0) HB1.out.r0
          have c0_5 : w1.cell? ⟨w.heap.size, 5, none⟩ = some (.int .i64 tk) := cell_of_row _ _ _ _ _ (0, 0) HB1.out.r0
          go_wp2_with fail
          go_ret
          exact ⟨rfl, HB1.out.below⟩
      · rw [if_neg (fun h => hd h.1)]
        have hdB : (dd != 2) = true := by simpa using hd
        clear FI hd hF hf
        have HB0 := Lib.hid (bxs1 w (.cells #[.int .i64 fl, .int .i64 tg, .int .i64 lf, .int .i64 dd, .int .i64 am, .int .i64 tk] 23))
        go_enter Try.func18, Try.ntmps18
        go_wp2_with fail
        go_ret
        exact ⟨rfl, HB0.out.below⟩
    · have hn : Rg.nxt ⟨fl, tg, lf, dd, am, tk⟩ m = fl := by unfold Rg.nxt; rw [if_neg m1, if_neg m2]
      rw [hn]
      have b1 : (m == 1) = false := by simpa using m1
      have b2 : (m == 2) = false := by simpa using m2
      simp only [Rg.agg]
      clear hn m1 m2
      by_cases hd : dd = 2
      · subst hd
        have FI := Lib.hid (fun wx => FI (fl) wx)
        by_cases hi : 0 ≤ fl ∧ fl ≤ F - 1
        · rw [Nc.wi_yes hi] at FI
          rw [if_pos ⟨rfl, hi⟩]
          clear hi hF hf
          have HB0 := Lib.hid (bxs1 w (.cells #[.int .i64 fl, .int .i64 tg, .int .i64 lf, .int .i64 2, .int .i64 am, .int .i64 tk] 23))
          go_enter Try.func18, Try.ntmps18
          go_wp2_with fail
          refine (FI.out _).mono ?_
          rintro e w1 ⟨rfl, hb1⟩
          have HB1 := Lib.hid (HB0.out.next hb1)
          clear hb1 HB0
          have c0_0 : w1.cell? ⟨w.heap.size, 0, none⟩ = some (.int .i64 fl) := cell_of_row _ _ _ _ _ (0, 0) HB1.out.r0
          have c0_1 : w1.cell? ⟨w.heap.size, 1, none⟩ = some (.int .i64 tg) := cell_of_row _ _ _ _ _ (0, 0) HB1.out.r0
          have c0_2 : w1.cell? ⟨w.heap.size, 2, none⟩ = some (.int .i64 lf) := cell_of_row _ _ _ _ _ (0, 0) HB1.out.r0
          have c0_3 : w1.cell? ⟨w.heap.size, 3, none⟩ = some (.int .i64 2) := cell_of_row _ _ _ _ _ (0, 0) HB1.out.r0
          have c0_4 : w1.cell? ⟨w.heap.size, 4, none⟩ = some (.int .i64 am) := cell_of_row _ _ _ _ _ (0, 0) HB1.out.r0
          have c0_5 : w1.cell? ⟨w.heap.size, 5, none⟩ = some (.int .i64 tk) := cell_of_row _ _ _ _ _ (0, 0) HB1.out.r0
          go_wp2_with fail
          go_ret
          exact ⟨rfl, HB1.out.below⟩
        · rw [Nc.wi_no hi] at FI
          rw [if_neg (fun h => hi h.2)]
          clear hi hF hf
          have HB0 := Lib.hid (bxs1 w (.cells #[.int .i64 fl, .int .i64 tg, .int .i64 lf, .int .i64 2, .int .i64 am, .int .i64 tk] 23))
          go_enter Try.func18, Try.ntmps18
          go_wp2_with fail
          refine (FI.out _).mono ?_
          rintro e w1 ⟨rfl, hb1⟩
          have HB1 := Lib.hid (HB0.out.next hb1)
          clear hb1 HB0
          have c0_0 : w1.cell? ⟨w.heap.size, 0, none⟩ = some (.int .i64 fl) := cell_of_row _ _ _ _ _ (0, 0) HB1.out.r0
          have c0_1 : w1.cell? ⟨w.heap.size, 1, none⟩ = some (.int .i64 tg) := cell_of_row _ _ _ _ _ (0, 0) HB1.out.r0
          have c0_2 : w1.cell? ⟨w.heap.size, 2, none⟩ = some (.int .i64 lf) := cell_of_row _ _ _ _ _ (0, 0) HB1.out.r0
          have c0_3 : w1.cell? ⟨w.heap.size, 3, none⟩ = some (.int .i64 2) := cell_of_row _ _ _ _ _ (0, 0) HB1.out.r0
          have c0_4 : w1.cell? ⟨w.heap.size, 4, none⟩ = some (.int .i64 am) := cell_of_row _ _ _ _ _ (0, 0) HB1.out.r0
          have c0_5 : w1.cell? ⟨w.heap.size, 5, none⟩ = some (.int .i64 tk) := cell_of_row _ _ _ _ _ (0, 0) HB1.out.r0
          go_wp2_with fail
          go_ret
          exact ⟨rfl, HB1.out.below⟩
      · rw [if_neg (fun h => hd h.1)]
        have hdB : (dd != 2) = true := by simpa using hd
        clear FI hd hF hf
        have HB0 := Lib.hid (bxs1 w (.cells #[.int .i64 fl, .int .i64 tg, .int .i64 lf, .int .i64 dd, .int .i64 am, .int .i64 tk] 23))
        go_enter Try.func18, Try.ntmps18
        go_wp2_with fail
        go_ret
        exact ⟨rfl, HB0.out.below⟩
set_option maxHeartbeats 4000000 in
theorem rigTurn_any (r : Rg) (a T : Int) (w : World) (h : 0 ≤ r.tk ∧ r.tk ≤ 10000) (hT : 1 ≤ T ∧ T ≤ 10000) :
    Calls Try.prog 19 #[r.agg, .int .i64 a, .int .i64 T] w fun ee w' => ee = .returned ((Rg.turnF r a T).agg) ∧ Below w.heap.size w w' := by
  obtain ⟨fl, tg, lf, dd, am, tk⟩ := r
  simp only at h
  have w1 : IntKind.i64.wrap (T - 1) = T - 1 := by rw [IntKind.wrap_i64]; omega
  have w2 : IntKind.i64.wrap (tk - 1) = tk - 1 := by rw [IntKind.wrap_i64]; omega
  clear h hT
  unfold Rg.turnF
  by_cases a0 : a = 0
  · subst a0
    rw [if_pos (.inl rfl)]
    simp only [Rg.agg]
    have HB0 := Lib.hid (bxs2 w (.cells #[.int .i64 fl, .int .i64 tg, .int .i64 lf, .int .i64 dd, .int .i64 am, .int .i64 tk] 23) (.cells #[.int .i64 0, .int .i64 0, .int .i64 0, .int .i64 0, .int .i64 0, .int .i64 0] 23))
    go_enter Try.func19, Try.ntmps19
    go_wp2_with (with_reducible show wpList _ _ _ (Oper.mk _ (.store 23 _ _) _ _ _ _ :: _) _ _; refine Hid.out ?_)
    refine Lib.hid ?_
    refine wpList_put rfl 23 _ _ rfl (w.heap.size + 1) #[.int .i64 fl, .int .i64 tg, .int .i64 lf, .int .i64 dd, .int .i64 am, .int .i64 tk] _ 23 rfl rfl HB0.out.r1 (by kernel_rfl) rfl (by kernel_rfl) ?_
    intro w1 hr1 hg1
    have HB1 : Hid (Bx w [(w.heap.size, .cells #[.int .i64 fl, .int .i64 tg, .int .i64 lf, .int .i64 dd, .int .i64 am, .int .i64 tk] 23 (0, 0)), (w.heap.size + 1, .cells #[.int .i64 fl, .int .i64 tg, .int .i64 lf, .int .i64 dd, .int .i64 am, .int .i64 tk] 23 (0, 0))] w1) := Lib.hid (HB0.out.put (by omega) hg1.out hr1.out (by simp only [List.mem_cons, List.not_mem_nil, or_false]; rintro p (rfl | rfl) <;> simp <;> omega))
    clear hr1 hg1 HB0
    go_wp2_with fail
    exact bodyPost_ret (results_cell_row Try.results19 _ _ _ _ _ (0, 0) _ rfl (HB1.out.r1) Try.underlying23 rfl (by kernel_rfl)) rfl (⟨rfl, HB1.out.below⟩)
  · have b0 : (a == 0) = false := by simpa using a0
    by_cases a1 : a = dd
    · subst a1
      rw [if_pos (.inr rfl)]
      simp only [Rg.agg]
      have HB0 := Lib.hid (bxs2 w (.cells #[.int .i64 fl, .int .i64 tg, .int .i64 lf, .int .i64 a, .int .i64 am, .int .i64 tk] 23) (.cells #[.int .i64 0, .int .i64 0, .int .i64 0, .int .i64 0, .int .i64 0, .int .i64 0] 23))
      go_enter Try.func19, Try.ntmps19
      go_wp2_with (with_reducible show wpList _ _ _ (Oper.mk _ (.store 23 _ _) _ _ _ _ :: _) _ _; refine Hid.out ?_)
      refine Lib.hid ?_
      refine wpList_put rfl 23 _ _ rfl (w.heap.size + 1) #[.int .i64 fl, .int .i64 tg, .int .i64 lf, .int .i64 a, .int .i64 am, .int .i64 tk] _ 23 rfl rfl HB0.out.r1 (by kernel_rfl) rfl (by kernel_rfl) ?_
      intro w1 hr1 hg1
      have HB1 : Hid (Bx w [(w.heap.size, .cells #[.int .i64 fl, .int .i64 tg, .int .i64 lf, .int .i64 a, .int .i64 am, .int .i64 tk] 23 (0, 0)), (w.heap.size + 1, .cells #[.int .i64 fl, .int .i64 tg, .int .i64 lf, .int .i64 a, .int .i64 am, .int .i64 tk] 23 (0, 0))] w1) := Lib.hid (HB0.out.put (by omega) hg1.out hr1.out (by simp only [List.mem_cons, List.not_mem_nil, or_false]; rintro p (rfl | rfl) <;> simp <;> omega))
      clear hr1 hg1 HB0
      go_wp2_with fail
      exact bodyPost_ret (results_cell_row Try.results19 _ _ _ _ _ (0, 0) _ rfl (HB1.out.r1) Try.underlying23 rfl (by kernel_rfl)) rfl (⟨rfl, HB1.out.below⟩)
    · have b1 : (a == dd) = false := by simpa using a1
      rw [if_neg (by simp only; omega)]
      by_cases a2 : a = am
      · subst a2
        rw [if_pos rfl]
        simp only [Rg.agg, Rg.shut]
        by_cases hz : tk - 1 = 0
        · rw [if_pos hz]
          have hzB : (tk - 1 == 0) = true := by simpa using hz
          clear hz a0 a1
          have HB0 := Lib.hid (bxs2 w (.cells #[.int .i64 fl, .int .i64 tg, .int .i64 lf, .int .i64 dd, .int .i64 a, .int .i64 tk] 23) (.cells #[.int .i64 0, .int .i64 0, .int .i64 0, .int .i64 0, .int .i64 0, .int .i64 0] 23))
          go_enter Try.func19, Try.ntmps19
          go_wp2_with (with_reducible show wpList _ _ _ (Oper.mk _ (.store 3 _ _) _ _ _ _ :: _) _ _; refine Hid.out ?_)
          refine Lib.hid ?_
          refine wpList_putCell rfl 3 _ _ rfl (w.heap.size) 5 (.int .i64 (tk - 1)) _ _ 23 rfl rfl HB0.out.r0 (by kernel_rfl) (by simp) rfl rfl rfl ?_
          intro w1 hr1 hg1
          have HB1 : Hid (Bx w [(w.heap.size, .cells #[.int .i64 fl, .int .i64 tg, .int .i64 lf, .int .i64 dd, .int .i64 a, .int .i64 (tk - 1)] 23 (0, 0)), (w.heap.size + 1, .cells #[.int .i64 0, .int .i64 0, .int .i64 0, .int .i64 0, .int .i64 0, .int .i64 0] 23 (0, 0))] w1) := Lib.hid (HB0.out.put (by omega) hg1.out hr1.out (by simp only [List.mem_cons, List.not_mem_nil, or_false]; rintro p (rfl | rfl) <;> simp <;> omega))
          clear hr1 hg1 HB0
          have c0_0 : w1.cell? ⟨w.heap.size, 0, none⟩ = some (.int .i64 fl) := cell_of_row _ _ _ _ _ (0, 0) HB1.out.r0
          have c0_1 : w1.cell? ⟨w.heap.size, 1, none⟩ = some (.int .i64 tg) := cell_of_row _ _ _ _ _ (0, 0) HB1.out.r0
          have c0_2 : w1.cell? ⟨w.heap.size, 2, none⟩ = some (.int .i64 lf) := cell_of_row _ _ _ _ _ (0, 0) HB1.out.r0
          have c0_3 : w1.cell? ⟨w.heap.size, 3, none⟩ = some (.int .i64 dd) := cell_of_row _ _ _ _ _ (0, 0) HB1.out.r0
          have c0_4 : w1.cell? ⟨w.heap.size, 4, none⟩ = some (.int .i64 a) := cell_of_row _ _ _ _ _ (0, 0) HB1.out.r0
          have c0_5 : w1.cell? ⟨w.heap.size, 5, none⟩ = some (.int .i64 (tk - 1)) := cell_of_row _ _ _ _ _ (0, 0) HB1.out.r0
          have c1_0 : w1.cell? ⟨w.heap.size + 1, 0, none⟩ = some (.int .i64 0) := cell_of_row _ _ _ _ _ (0, 0) HB1.out.r1
          have c1_1 : w1.cell? ⟨w.heap.size + 1, 1, none⟩ = some (.int .i64 0) := cell_of_row _ _ _ _ _ (0, 0) HB1.out.r1
          have c1_2 : w1.cell? ⟨w.heap.size + 1, 2, none⟩ = some (.int .i64 0) := cell_of_row _ _ _ _ _ (0, 0) HB1.out.r1
          have c1_3 : w1.cell? ⟨w.heap.size + 1, 3, none⟩ = some (.int .i64 0) := cell_of_row _ _ _ _ _ (0, 0) HB1.out.r1
          have c1_4 : w1.cell? ⟨w.heap.size + 1, 4, none⟩ = some (.int .i64 0) := cell_of_row _ _ _ _ _ (0, 0) HB1.out.r1
          have c1_5 : w1.cell? ⟨w.heap.size + 1, 5, none⟩ = some (.int .i64 0) := cell_of_row _ _ _ _ _ (0, 0) HB1.out.r1
          go_wp2_with (with_reducible show wpList _ _ _ (Oper.mk _ (.store 3 _ _) _ _ _ _ :: _) _ _; refine Hid.out ?_)
          refine Lib.hid ?_
          refine wpList_putCell rfl 3 _ _ rfl (w.heap.size) 3 (.int .i64 a) _ _ 23 rfl rfl HB1.out.r0 (by kernel_rfl) (by simp) rfl rfl rfl ?_
          intro w2 hr2 hg2
          have HB2 : Hid (Bx w [(w.heap.size, .cells #[.int .i64 fl, .int .i64 tg, .int .i64 lf, .int .i64 a, .int .i64 a, .int .i64 (tk - 1)] 23 (0, 0)), (w.heap.size + 1, .cells #[.int .i64 0, .int .i64 0, .int .i64 0, .int .i64 0, .int .i64 0, .int .i64 0] 23 (0, 0))] w2) := Lib.hid (HB1.out.put (by omega) hg2.out hr2.out (by simp only [List.mem_cons, List.not_mem_nil, or_false]; rintro p (rfl | rfl) <;> simp <;> omega))
          clear c0_0 c0_1 c0_2 c0_3 c0_4 c0_5 c1_0 c1_1 c1_2 c1_3 c1_4 c1_5 hr2 hg2 HB1
          have c0_0 : w2.cell? ⟨w.heap.size, 0, none⟩ = some (.int .i64 fl) := cell_of_row _ _ _ _ _ (0, 0) HB2.out.r0
          have c0_1 : w2.cell? ⟨w.heap.size, 1, none⟩ = some (.int .i64 tg) := cell_of_row _ _ _ _ _ (0, 0) HB2.out.r0
          have c0_2 : w2.cell? ⟨w.heap.size, 2, none⟩ = some (.int .i64 lf) := cell_of_row _ _ _ _ _ (0, 0) HB2.out.r0
          have c0_3 : w2.cell? ⟨w.heap.size, 3, none⟩ = some (.int .i64 a) := cell_of_row _ _ _ _ _ (0, 0) HB2.out.r0
          have c0_4 : w2.cell? ⟨w.heap.size, 4, none⟩ = some (.int .i64 a) := cell_of_row _ _ _ _ _ (0, 0) HB2.out.r0
          have c0_5 : w2.cell? ⟨w.heap.size, 5, none⟩ = some (.int .i64 (tk - 1)) := cell_of_row _ _ _ _ _ (0, 0) HB2.out.r0
          have c1_0 : w2.cell? ⟨w.heap.size + 1, 0, none⟩ = some (.int .i64 0) := cell_of_row _ _ _ _ _ (0, 0) HB2.out.r1
          have c1_1 : w2.cell? ⟨w.heap.size + 1, 1, none⟩ = some (.int .i64 0) := cell_of_row _ _ _ _ _ (0, 0) HB2.out.r1
          have c1_2 : w2.cell? ⟨w.heap.size + 1, 2, none⟩ = some (.int .i64 0) := cell_of_row _ _ _ _ _ (0, 0) HB2.out.r1
          have c1_3 : w2.cell? ⟨w.heap.size + 1, 3, none⟩ = some (.int .i64 0) := cell_of_row _ _ _ _ _ (0, 0) HB2.out.r1
          have c1_4 : w2.cell? ⟨w.heap.size + 1, 4, none⟩ = some (.int .i64 0) := cell_of_row _ _ _ _ _ (0, 0) HB2.out.r1
          have c1_5 : w2.cell? ⟨w.heap.size + 1, 5, none⟩ = some (.int .i64 0) := cell_of_row _ _ _ _ _ (0, 0) HB2.out.r1
          go_wp2_with (with_reducible show wpList _ _ _ (Oper.mk _ (.store 3 _ _) _ _ _ _ :: _) _ _; refine Hid.out ?_)
          refine Lib.hid ?_
          refine wpList_putCell rfl 3 _ _ rfl (w.heap.size) 4 (.int .i64 0) _ _ 23 rfl rfl HB2.out.r0 (by kernel_rfl) (by simp) rfl rfl rfl ?_
          intro w3 hr3 hg3
          have HB3 : Hid (Bx w [(w.heap.size, .cells #[.int .i64 fl, .int .i64 tg, .int .i64 lf, .int .i64 a, .int .i64 0, .int .i64 (tk - 1)] 23 (0, 0)), (w.heap.size + 1, .cells #[.int .i64 0, .int .i64 0, .int .i64 0, .int .i64 0, .int .i64 0, .int .i64 0] 23 (0, 0))] w3) := Lib.hid (HB2.out.put (by omega) hg3.out hr3.out (by simp only [List.mem_cons, List.not_mem_nil, or_false]; rintro p (rfl | rfl) <;> simp <;> omega))
          clear c0_0 c0_1 c0_2 c0_3 c0_4 c0_5 c1_0 c1_1 c1_2 c1_3 c1_4 c1_5 hr3 hg3 HB2
          have c0_0 : w3.cell? ⟨w.heap.size, 0, none⟩ = some (.int .i64 fl) := cell_of_row _ _ _ _ _ (0, 0) HB3.out.r0
          have c0_1 : w3.cell? ⟨w.heap.size, 1, none⟩ = some (.int .i64 tg) := cell_of_row _ _ _ _ _ (0, 0) HB3.out.r0
          have c0_2 : w3.cell? ⟨w.heap.size, 2, none⟩ = some (.int .i64 lf) := cell_of_row _ _ _ _ _ (0, 0) HB3.out.r0
          have c0_3 : w3.cell? ⟨w.heap.size, 3, none⟩ = some (.int .i64 a) := cell_of_row _ _ _ _ _ (0, 0) HB3.out.r0
          have c0_4 : w3.cell? ⟨w.heap.size, 4, none⟩ = some (.int .i64 0) := cell_of_row _ _ _ _ _ (0, 0) HB3.out.r0
          have c0_5 : w3.cell? ⟨w.heap.size, 5, none⟩ = some (.int .i64 (tk - 1)) := cell_of_row _ _ _ _ _ (0, 0) HB3.out.r0
          have c1_0 : w3.cell? ⟨w.heap.size + 1, 0, none⟩ = some (.int .i64 0) := cell_of_row _ _ _ _ _ (0, 0) HB3.out.r1
          have c1_1 : w3.cell? ⟨w.heap.size + 1, 1, none⟩ = some (.int .i64 0) := cell_of_row _ _ _ _ _ (0, 0) HB3.out.r1
          have c1_2 : w3.cell? ⟨w.heap.size + 1, 2, none⟩ = some (.int .i64 0) := cell_of_row _ _ _ _ _ (0, 0) HB3.out.r1
          have c1_3 : w3.cell? ⟨w.heap.size + 1, 3, none⟩ = some (.int .i64 0) := cell_of_row _ _ _ _ _ (0, 0) HB3.out.r1
          have c1_4 : w3.cell? ⟨w.heap.size + 1, 4, none⟩ = some (.int .i64 0) := cell_of_row _ _ _ _ _ (0, 0) HB3.out.r1
          have c1_5 : w3.cell? ⟨w.heap.size + 1, 5, none⟩ = some (.int .i64 0) := cell_of_row _ _ _ _ _ (0, 0) HB3.out.r1
          go_wp2_with (with_reducible show wpList _ _ _ (Oper.mk _ (.store 23 _ _) _ _ _ _ :: _) _ _; refine Hid.out ?_)
          refine Lib.hid ?_
          refine wpList_put rfl 23 _ _ rfl (w.heap.size + 1) #[.int .i64 fl, .int .i64 tg, .int .i64 lf, .int .i64 a, .int .i64 0, .int .i64 (tk - 1)] _ 23 rfl rfl HB3.out.r1 (by kernel_rfl) rfl (by kernel_rfl) ?_
          intro w4 hr4 hg4
          have HB4 : Hid (Bx w [(w.heap.size, .cells #[.int .i64 fl, .int .i64 tg, .int .i64 lf, .int .i64 a, .int .i64 0, .int .i64 (tk - 1)] 23 (0, 0)), (w.heap.size + 1, .cells #[.int .i64 fl, .int .i64 tg, .int .i64 lf, .int .i64 a, .int .i64 0, .int .i64 (tk - 1)] 23 (0, 0))] w4) := Lib.hid (HB3.out.put (by omega) hg4.out hr4.out (by simp only [List.mem_cons, List.not_mem_nil, or_false]; rintro p (rfl | rfl) <;> simp <;> omega))
          clear c0_0 c0_1 c0_2 c0_3 c0_4 c0_5 c1_0 c1_1 c1_2 c1_3 c1_4 c1_5 hr4 hg4 HB3
          go_wp2_with fail
          exact bodyPost_ret (results_cell_row Try.results19 _ _ _ _ _ (0, 0) _ rfl (HB4.out.r1) Try.underlying23 rfl (by kernel_rfl)) rfl (⟨rfl, HB4.out.below⟩)
        · rw [if_neg hz]
          have hzB : (tk - 1 == 0) = false := by simpa using hz
          clear hz a0 a1
          have HB0 := Lib.hid (bxs2 w (.cells #[.int .i64 fl, .int .i64 tg, .int .i64 lf, .int .i64 dd, .int .i64 a, .int .i64 tk] 23) (.cells #[.int .i64 0, .int .i64 0, .int .i64 0, .int .i64 0, .int .i64 0, .int .i64 0] 23))
          go_enter Try.func19, Try.ntmps19
          go_wp2_with (with_reducible show wpList _ _ _ (Oper.mk _ (.store 3 _ _) _ _ _ _ :: _) _ _; refine Hid.out ?_)
          refine Lib.hid ?_
          refine wpList_putCell rfl 3 _ _ rfl (w.heap.size) 5 (.int .i64 (tk - 1)) _ _ 23 rfl rfl HB0.out.r0 (by kernel_rfl) (by simp) rfl rfl rfl ?_
          intro w1 hr1 hg1
          have HB1 : Hid (Bx w [(w.heap.size, .cells #[.int .i64 fl, .int .i64 tg, .int .i64 lf, .int .i64 dd, .int .i64 a, .int .i64 (tk - 1)] 23 (0, 0)), (w.heap.size + 1, .cells #[.int .i64 0, .int .i64 0, .int .i64 0, .int .i64 0, .int .i64 0, .int .i64 0] 23 (0, 0))] w1) := Lib.hid (HB0.out.put (by omega) hg1.out hr1.out (by simp only [List.mem_cons, List.not_mem_nil, or_false]; rintro p (rfl | rfl) <;> simp <;> omega))
          clear hr1 hg1 HB0
          have c0_0 : w1.cell? ⟨w.heap.size, 0, none⟩ = some (.int .i64 fl) := cell_of_row _ _ _ _ _ (0, 0) HB1.out.r0
          have c0_1 : w1.cell? ⟨w.heap.size, 1, none⟩ = some (.int .i64 tg) := cell_of_row _ _ _ _ _ (0, 0) HB1.out.r0
          have c0_2 : w1.cell? ⟨w.heap.size, 2, none⟩ = some (.int .i64 lf) := cell_of_row _ _ _ _ _ (0, 0) HB1.out.r0
          have c0_3 : w1.cell? ⟨w.heap.size, 3, none⟩ = some (.int .i64 dd) := cell_of_row _ _ _ _ _ (0, 0) HB1.out.r0
          have c0_4 : w1.cell? ⟨w.heap.size, 4, none⟩ = some (.int .i64 a) := cell_of_row _ _ _ _ _ (0, 0) HB1.out.r0
          have c0_5 : w1.cell? ⟨w.heap.size, 5, none⟩ = some (.int .i64 (tk - 1)) := cell_of_row _ _ _ _ _ (0, 0) HB1.out.r0
          have c1_0 : w1.cell? ⟨w.heap.size + 1, 0, none⟩ = some (.int .i64 0) := cell_of_row _ _ _ _ _ (0, 0) HB1.out.r1
          have c1_1 : w1.cell? ⟨w.heap.size + 1, 1, none⟩ = some (.int .i64 0) := cell_of_row _ _ _ _ _ (0, 0) HB1.out.r1
          have c1_2 : w1.cell? ⟨w.heap.size + 1, 2, none⟩ = some (.int .i64 0) := cell_of_row _ _ _ _ _ (0, 0) HB1.out.r1
          have c1_3 : w1.cell? ⟨w.heap.size + 1, 3, none⟩ = some (.int .i64 0) := cell_of_row _ _ _ _ _ (0, 0) HB1.out.r1
          have c1_4 : w1.cell? ⟨w.heap.size + 1, 4, none⟩ = some (.int .i64 0) := cell_of_row _ _ _ _ _ (0, 0) HB1.out.r1
          have c1_5 : w1.cell? ⟨w.heap.size + 1, 5, none⟩ = some (.int .i64 0) := cell_of_row _ _ _ _ _ (0, 0) HB1.out.r1
          go_wp2_with (with_reducible show wpList _ _ _ (Oper.mk _ (.store 23 _ _) _ _ _ _ :: _) _ _; refine Hid.out ?_)
          refine Lib.hid ?_
          refine wpList_put rfl 23 _ _ rfl (w.heap.size + 1) #[.int .i64 fl, .int .i64 tg, .int .i64 lf, .int .i64 dd, .int .i64 a, .int .i64 (tk - 1)] _ 23 rfl rfl HB1.out.r1 (by kernel_rfl) rfl (by kernel_rfl) ?_
          intro w2 hr2 hg2
          have HB2 : Hid (Bx w [(w.heap.size, .cells #[.int .i64 fl, .int .i64 tg, .int .i64 lf, .int .i64 dd, .int .i64 a, .int .i64 (tk - 1)] 23 (0, 0)), (w.heap.size + 1, .cells #[.int .i64 fl, .int .i64 tg, .int .i64 lf, .int .i64 dd, .int .i64 a, .int .i64 (tk - 1)] 23 (0, 0))] w2) := Lib.hid (HB1.out.put (by omega) hg2.out hr2.out (by simp only [List.mem_cons, List.not_mem_nil, or_false]; rintro p (rfl | rfl) <;> simp <;> omega))
          clear c0_0 c0_1 c0_2 c0_3 c0_4 c0_5 c1_0 c1_1 c1_2 c1_3 c1_4 c1_5 hr2 hg2 HB1
          go_wp2_with fail
          exact bodyPost_ret (results_cell_row Try.results19 _ _ _ _ _ (0, 0) _ rfl (HB2.out.r1) Try.underlying23 rfl (by kernel_rfl)) rfl (⟨rfl, HB2.out.below⟩)
      · have b2 : (a == am) = false := by simpa using a2
        rw [if_neg a2]
        simp only [Rg.agg, Rg.shut]
        by_cases hz : T - 1 = 0
        · rw [if_pos hz]
          have hzB : (T - 1 == 0) = true := by simpa using hz
          clear hz a0 a1 a2
          have HB0 := Lib.hid (bxs2 w (.cells #[.int .i64 fl, .int .i64 tg, .int .i64 lf, .int .i64 dd, .int .i64 am, .int .i64 tk] 23) (.cells #[.int .i64 0, .int .i64 0, .int .i64 0, .int .i64 0, .int .i64 0, .int .i64 0] 23))
          go_enter Try.func19, Try.ntmps19
          go_wp2_with (with_reducible show wpList _ _ _ (Oper.mk _ (.store 3 _ _) _ _ _ _ :: _) _ _; refine Hid.out ?_)
          refine Lib.hid ?_
          refine wpList_putCell rfl 3 _ _ rfl (w.heap.size) 3 (.int .i64 0) _ _ 23 rfl rfl HB0.out.r0 (by kernel_rfl) (by simp) rfl rfl rfl ?_
          intro w1 hr1 hg1
          have HB1 : Hid (Bx w [(w.heap.size, .cells #[.int .i64 fl, .int .i64 tg, .int .i64 lf, .int .i64 0, .int .i64 am, .int .i64 tk] 23 (0, 0)), (w.heap.size + 1, .cells #[.int .i64 0, .int .i64 0, .int .i64 0, .int .i64 0, .int .i64 0, .int .i64 0] 23 (0, 0))] w1) := Lib.hid (HB0.out.put (by omega) hg1.out hr1.out (by simp only [List.mem_cons, List.not_mem_nil, or_false]; rintro p (rfl | rfl) <;> simp <;> omega))
          clear hr1 hg1 HB0
          have c0_0 : w1.cell? ⟨w.heap.size, 0, none⟩ = some (.int .i64 fl) := cell_of_row _ _ _ _ _ (0, 0) HB1.out.r0
          have c0_1 : w1.cell? ⟨w.heap.size, 1, none⟩ = some (.int .i64 tg) := cell_of_row _ _ _ _ _ (0, 0) HB1.out.r0
          have c0_2 : w1.cell? ⟨w.heap.size, 2, none⟩ = some (.int .i64 lf) := cell_of_row _ _ _ _ _ (0, 0) HB1.out.r0
          have c0_3 : w1.cell? ⟨w.heap.size, 3, none⟩ = some (.int .i64 0) := cell_of_row _ _ _ _ _ (0, 0) HB1.out.r0
          have c0_4 : w1.cell? ⟨w.heap.size, 4, none⟩ = some (.int .i64 am) := cell_of_row _ _ _ _ _ (0, 0) HB1.out.r0
          have c0_5 : w1.cell? ⟨w.heap.size, 5, none⟩ = some (.int .i64 tk) := cell_of_row _ _ _ _ _ (0, 0) HB1.out.r0
          have c1_0 : w1.cell? ⟨w.heap.size + 1, 0, none⟩ = some (.int .i64 0) := cell_of_row _ _ _ _ _ (0, 0) HB1.out.r1
          have c1_1 : w1.cell? ⟨w.heap.size + 1, 1, none⟩ = some (.int .i64 0) := cell_of_row _ _ _ _ _ (0, 0) HB1.out.r1
          have c1_2 : w1.cell? ⟨w.heap.size + 1, 2, none⟩ = some (.int .i64 0) := cell_of_row _ _ _ _ _ (0, 0) HB1.out.r1
          have c1_3 : w1.cell? ⟨w.heap.size + 1, 3, none⟩ = some (.int .i64 0) := cell_of_row _ _ _ _ _ (0, 0) HB1.out.r1
          have c1_4 : w1.cell? ⟨w.heap.size + 1, 4, none⟩ = some (.int .i64 0) := cell_of_row _ _ _ _ _ (0, 0) HB1.out.r1
          have c1_5 : w1.cell? ⟨w.heap.size + 1, 5, none⟩ = some (.int .i64 0) := cell_of_row _ _ _ _ _ (0, 0) HB1.out.r1
          go_wp2_with (with_reducible show wpList _ _ _ (Oper.mk _ (.store 3 _ _) _ _ _ _ :: _) _ _; refine Hid.out ?_)
          refine Lib.hid ?_
          refine wpList_putCell rfl 3 _ _ rfl (w.heap.size) 4 (.int .i64 a) _ _ 23 rfl rfl HB1.out.r0 (by kernel_rfl) (by simp) rfl rfl rfl ?_
          intro w2 hr2 hg2
          have HB2 : Hid (Bx w [(w.heap.size, .cells #[.int .i64 fl, .int .i64 tg, .int .i64 lf, .int .i64 0, .int .i64 a, .int .i64 tk] 23 (0, 0)), (w.heap.size + 1, .cells #[.int .i64 0, .int .i64 0, .int .i64 0, .int .i64 0, .int .i64 0, .int .i64 0] 23 (0, 0))] w2) := Lib.hid (HB1.out.put (by omega) hg2.out hr2.out (by simp only [List.mem_cons, List.not_mem_nil, or_false]; rintro p (rfl | rfl) <;> simp <;> omega))
          clear c0_0 c0_1 c0_2 c0_3 c0_4 c0_5 c1_0 c1_1 c1_2 c1_3 c1_4 c1_5 hr2 hg2 HB1
          have c0_0 : w2.cell? ⟨w.heap.size, 0, none⟩ = some (.int .i64 fl) := cell_of_row _ _ _ _ _ (0, 0) HB2.out.r0
          have c0_1 : w2.cell? ⟨w.heap.size, 1, none⟩ = some (.int .i64 tg) := cell_of_row _ _ _ _ _ (0, 0) HB2.out.r0
          have c0_2 : w2.cell? ⟨w.heap.size, 2, none⟩ = some (.int .i64 lf) := cell_of_row _ _ _ _ _ (0, 0) HB2.out.r0
          have c0_3 : w2.cell? ⟨w.heap.size, 3, none⟩ = some (.int .i64 0) := cell_of_row _ _ _ _ _ (0, 0) HB2.out.r0
          have c0_4 : w2.cell? ⟨w.heap.size, 4, none⟩ = some (.int .i64 a) := cell_of_row _ _ _ _ _ (0, 0) HB2.out.r0
          have c0_5 : w2.cell? ⟨w.heap.size, 5, none⟩ = some (.int .i64 tk) := cell_of_row _ _ _ _ _ (0, 0) HB2.out.r0
          have c1_0 : w2.cell? ⟨w.heap.size + 1, 0, none⟩ = some (.int .i64 0) := cell_of_row _ _ _ _ _ (0, 0) HB2.out.r1
          have c1_1 : w2.cell? ⟨w.heap.size + 1, 1, none⟩ = some (.int .i64 0) := cell_of_row _ _ _ _ _ (0, 0) HB2.out.r1
          have c1_2 : w2.cell? ⟨w.heap.size + 1, 2, none⟩ = some (.int .i64 0) := cell_of_row _ _ _ _ _ (0, 0) HB2.out.r1
          have c1_3 : w2.cell? ⟨w.heap.size + 1, 3, none⟩ = some (.int .i64 0) := cell_of_row _ _ _ _ _ (0, 0) HB2.out.r1
          have c1_4 : w2.cell? ⟨w.heap.size + 1, 4, none⟩ = some (.int .i64 0) := cell_of_row _ _ _ _ _ (0, 0) HB2.out.r1
          have c1_5 : w2.cell? ⟨w.heap.size + 1, 5, none⟩ = some (.int .i64 0) := cell_of_row _ _ _ _ _ (0, 0) HB2.out.r1
          go_wp2_with (with_reducible show wpList _ _ _ (Oper.mk _ (.store 3 _ _) _ _ _ _ :: _) _ _; refine Hid.out ?_)
          refine Lib.hid ?_
          refine wpList_putCell rfl 3 _ _ rfl (w.heap.size) 5 (.int .i64 (T - 1)) _ _ 23 rfl rfl HB2.out.r0 (by kernel_rfl) (by simp) rfl rfl rfl ?_
          intro w3 hr3 hg3
          have HB3 : Hid (Bx w [(w.heap.size, .cells #[.int .i64 fl, .int .i64 tg, .int .i64 lf, .int .i64 0, .int .i64 a, .int .i64 (T - 1)] 23 (0, 0)), (w.heap.size + 1, .cells #[.int .i64 0, .int .i64 0, .int .i64 0, .int .i64 0, .int .i64 0, .int .i64 0] 23 (0, 0))] w3) := Lib.hid (HB2.out.put (by omega) hg3.out hr3.out (by simp only [List.mem_cons, List.not_mem_nil, or_false]; rintro p (rfl | rfl) <;> simp <;> omega))
          clear c0_0 c0_1 c0_2 c0_3 c0_4 c0_5 c1_0 c1_1 c1_2 c1_3 c1_4 c1_5 hr3 hg3 HB2
          have c0_0 : w3.cell? ⟨w.heap.size, 0, none⟩ = some (.int .i64 fl) := cell_of_row _ _ _ _ _ (0, 0) HB3.out.r0
          have c0_1 : w3.cell? ⟨w.heap.size, 1, none⟩ = some (.int .i64 tg) := cell_of_row _ _ _ _ _ (0, 0) HB3.out.r0
          have c0_2 : w3.cell? ⟨w.heap.size, 2, none⟩ = some (.int .i64 lf) := cell_of_row _ _ _ _ _ (0, 0) HB3.out.r0
          have c0_3 : w3.cell? ⟨w.heap.size, 3, none⟩ = some (.int .i64 0) := cell_of_row _ _ _ _ _ (0, 0) HB3.out.r0
          have c0_4 : w3.cell? ⟨w.heap.size, 4, none⟩ = some (.int .i64 a) := cell_of_row _ _ _ _ _ (0, 0) HB3.out.r0
          have c0_5 : w3.cell? ⟨w.heap.size, 5, none⟩ = some (.int .i64 (T - 1)) := cell_of_row _ _ _ _ _ (0, 0) HB3.out.r0
          have c1_0 : w3.cell? ⟨w.heap.size + 1, 0, none⟩ = some (.int .i64 0) := cell_of_row _ _ _ _ _ (0, 0) HB3.out.r1
          have c1_1 : w3.cell? ⟨w.heap.size + 1, 1, none⟩ = some (.int .i64 0) := cell_of_row _ _ _ _ _ (0, 0) HB3.out.r1
          have c1_2 : w3.cell? ⟨w.heap.size + 1, 2, none⟩ = some (.int .i64 0) := cell_of_row _ _ _ _ _ (0, 0) HB3.out.r1
          have c1_3 : w3.cell? ⟨w.heap.size + 1, 3, none⟩ = some (.int .i64 0) := cell_of_row _ _ _ _ _ (0, 0) HB3.out.r1
          have c1_4 : w3.cell? ⟨w.heap.size + 1, 4, none⟩ = some (.int .i64 0) := cell_of_row _ _ _ _ _ (0, 0) HB3.out.r1
          have c1_5 : w3.cell? ⟨w.heap.size + 1, 5, none⟩ = some (.int .i64 0) := cell_of_row _ _ _ _ _ (0, 0) HB3.out.r1
          go_wp2_with (with_reducible show wpList _ _ _ (Oper.mk _ (.store 3 _ _) _ _ _ _ :: _) _ _; refine Hid.out ?_)
          refine Lib.hid ?_
          refine wpList_putCell rfl 3 _ _ rfl (w.heap.size) 3 (.int .i64 a) _ _ 23 rfl rfl HB3.out.r0 (by kernel_rfl) (by simp) rfl rfl rfl ?_
          intro w4 hr4 hg4
          have HB4 : Hid (Bx w [(w.heap.size, .cells #[.int .i64 fl, .int .i64 tg, .int .i64 lf, .int .i64 a, .int .i64 a, .int .i64 (T - 1)] 23 (0, 0)), (w.heap.size + 1, .cells #[.int .i64 0, .int .i64 0, .int .i64 0, .int .i64 0, .int .i64 0, .int .i64 0] 23 (0, 0))] w4) := Lib.hid (HB3.out.put (by omega) hg4.out hr4.out (by simp only [List.mem_cons, List.not_mem_nil, or_false]; rintro p (rfl | rfl) <;> simp <;> omega))
          clear c0_0 c0_1 c0_2 c0_3 c0_4 c0_5 c1_0 c1_1 c1_2 c1_3 c1_4 c1_5 hr4 hg4 HB3
          have c0_0 : w4.cell? ⟨w.heap.size, 0, none⟩ = some (.int .i64 fl) := cell_of_row _ _ _ _ _ (0, 0) HB4.out.r0
          have c0_1 : w4.cell? ⟨w.heap.size, 1, none⟩ = some (.int .i64 tg) := cell_of_row _ _ _ _ _ (0, 0) HB4.out.r0
          have c0_2 : w4.cell? ⟨w.heap.size, 2, none⟩ = some (.int .i64 lf) := cell_of_row _ _ _ _ _ (0, 0) HB4.out.r0
          have c0_3 : w4.cell? ⟨w.heap.size, 3, none⟩ = some (.int .i64 a) := cell_of_row _ _ _ _ _ (0, 0) HB4.out.r0
          have c0_4 : w4.cell? ⟨w.heap.size, 4, none⟩ = some (.int .i64 a) := cell_of_row _ _ _ _ _ (0, 0) HB4.out.r0
          have c0_5 : w4.cell? ⟨w.heap.size, 5, none⟩ = some (.int .i64 (T - 1)) := cell_of_row _ _ _ _ _ (0, 0) HB4.out.r0
          have c1_0 : w4.cell? ⟨w.heap.size + 1, 0, none⟩ = some (.int .i64 0) := cell_of_row _ _ _ _ _ (0, 0) HB4.out.r1
          have c1_1 : w4.cell? ⟨w.heap.size + 1, 1, none⟩ = some (.int .i64 0) := cell_of_row _ _ _ _ _ (0, 0) HB4.out.r1
          have c1_2 : w4.cell? ⟨w.heap.size + 1, 2, none⟩ = some (.int .i64 0) := cell_of_row _ _ _ _ _ (0, 0) HB4.out.r1
          have c1_3 : w4.cell? ⟨w.heap.size + 1, 3, none⟩ = some (.int .i64 0) := cell_of_row _ _ _ _ _ (0, 0) HB4.out.r1
          have c1_4 : w4.cell? ⟨w.heap.size + 1, 4, none⟩ = some (.int .i64 0) := cell_of_row _ _ _ _ _ (0, 0) HB4.out.r1
          have c1_5 : w4.cell? ⟨w.heap.size + 1, 5, none⟩ = some (.int .i64 0) := cell_of_row _ _ _ _ _ (0, 0) HB4.out.r1
          go_wp2_with (with_reducible show wpList _ _ _ (Oper.mk _ (.store 3 _ _) _ _ _ _ :: _) _ _; refine Hid.out ?_)
          refine Lib.hid ?_
          refine wpList_putCell rfl 3 _ _ rfl (w.heap.size) 4 (.int .i64 0) _ _ 23 rfl rfl HB4.out.r0 (by kernel_rfl) (by simp) rfl rfl rfl ?_
          intro w5 hr5 hg5
          have HB5 : Hid (Bx w [(w.heap.size, .cells #[.int .i64 fl, .int .i64 tg, .int .i64 lf, .int .i64 a, .int .i64 0, .int .i64 (T - 1)] 23 (0, 0)), (w.heap.size + 1, .cells #[.int .i64 0, .int .i64 0, .int .i64 0, .int .i64 0, .int .i64 0, .int .i64 0] 23 (0, 0))] w5) := Lib.hid (HB4.out.put (by omega) hg5.out hr5.out (by simp only [List.mem_cons, List.not_mem_nil, or_false]; rintro p (rfl | rfl) <;> simp <;> omega))
          clear c0_0 c0_1 c0_2 c0_3 c0_4 c0_5 c1_0 c1_1 c1_2 c1_3 c1_4 c1_5 hr5 hg5 HB4
          have c0_0 : w5.cell? ⟨w.heap.size, 0, none⟩ = some (.int .i64 fl) := cell_of_row _ _ _ _ _ (0, 0) HB5.out.r0
          have c0_1 : w5.cell? ⟨w.heap.size, 1, none⟩ = some (.int .i64 tg) := cell_of_row _ _ _ _ _ (0, 0) HB5.out.r0
          have c0_2 : w5.cell? ⟨w.heap.size, 2, none⟩ = some (.int .i64 lf) := cell_of_row _ _ _ _ _ (0, 0) HB5.out.r0
          have c0_3 : w5.cell? ⟨w.heap.size, 3, none⟩ = some (.int .i64 a) := cell_of_row _ _ _ _ _ (0, 0) HB5.out.r0
          have c0_4 : w5.cell? ⟨w.heap.size, 4, none⟩ = some (.int .i64 0) := cell_of_row _ _ _ _ _ (0, 0) HB5.out.r0
          have c0_5 : w5.cell? ⟨w.heap.size, 5, none⟩ = some (.int .i64 (T - 1)) := cell_of_row _ _ _ _ _ (0, 0) HB5.out.r0
          have c1_0 : w5.cell? ⟨w.heap.size + 1, 0, none⟩ = some (.int .i64 0) := cell_of_row _ _ _ _ _ (0, 0) HB5.out.r1
          have c1_1 : w5.cell? ⟨w.heap.size + 1, 1, none⟩ = some (.int .i64 0) := cell_of_row _ _ _ _ _ (0, 0) HB5.out.r1
          have c1_2 : w5.cell? ⟨w.heap.size + 1, 2, none⟩ = some (.int .i64 0) := cell_of_row _ _ _ _ _ (0, 0) HB5.out.r1
          have c1_3 : w5.cell? ⟨w.heap.size + 1, 3, none⟩ = some (.int .i64 0) := cell_of_row _ _ _ _ _ (0, 0) HB5.out.r1
          have c1_4 : w5.cell? ⟨w.heap.size + 1, 4, none⟩ = some (.int .i64 0) := cell_of_row _ _ _ _ _ (0, 0) HB5.out.r1
          have c1_5 : w5.cell? ⟨w.heap.size + 1, 5, none⟩ = some (.int .i64 0) := cell_of_row _ _ _ _ _ (0, 0) HB5.out.r1
          go_wp2_with (with_reducible show wpList _ _ _ (Oper.mk _ (.store 23 _ _) _ _ _ _ :: _) _ _; refine Hid.out ?_)
          refine Lib.hid ?_
          refine wpList_put rfl 23 _ _ rfl (w.heap.size + 1) #[.int .i64 fl, .int .i64 tg, .int .i64 lf, .int .i64 a, .int .i64 0, .int .i64 (T - 1)] _ 23 rfl rfl HB5.out.r1 (by kernel_rfl) rfl (by kernel_rfl) ?_
          intro w6 hr6 hg6
          have HB6 : Hid (Bx w [(w.heap.size, .cells #[.int .i64 fl, .int .i64 tg, .int .i64 lf, .int .i64 a, .int .i64 0, .int .i64 (T - 1)] 23 (0, 0)), (w.heap.size + 1, .cells #[.int .i64 fl, .int .i64 tg, .int .i64 lf, .int .i64 a, .int .i64 0, .int .i64 (T - 1)] 23 (0, 0))] w6) := Lib.hid (HB5.out.put (by omega) hg6.out hr6.out (by simp only [List.mem_cons, List.not_mem_nil, or_false]; rintro p (rfl | rfl) <;> simp <;> omega))
          clear c0_0 c0_1 c0_2 c0_3 c0_4 c0_5 c1_0 c1_1 c1_2 c1_3 c1_4 c1_5 hr6 hg6 HB5
          go_wp2_with fail
          exact bodyPost_ret (results_cell_row Try.results19 _ _ _ _ _ (0, 0) _ rfl (HB6.out.r1) Try.underlying23 rfl (by kernel_rfl)) rfl (⟨rfl, HB6.out.below⟩)
        · rw [if_neg hz]
          have hzB : (T - 1 == 0) = false := by simpa using hz
          clear hz a0 a1 a2
          have HB0 := Lib.hid (bxs2 w (.cells #[.int .i64 fl, .int .i64 tg, .int .i64 lf, .int .i64 dd, .int .i64 am, .int .i64 tk] 23) (.cells #[.int .i64 0, .int .i64 0, .int .i64 0, .int .i64 0, .int .i64 0, .int .i64 0] 23))
          go_enter Try.func19, Try.ntmps19
          go_wp2_with (with_reducible show wpList _ _ _ (Oper.mk _ (.store 3 _ _) _ _ _ _ :: _) _ _; refine Hid.out ?_)
          refine Lib.hid ?_
          refine wpList_putCell rfl 3 _ _ rfl (w.heap.size) 3 (.int .i64 0) _ _ 23 rfl rfl HB0.out.r0 (by kernel_rfl) (by simp) rfl rfl rfl ?_
          intro w1 hr1 hg1
          have HB1 : Hid (Bx w [(w.heap.size, .cells #[.int .i64 fl, .int .i64 tg, .int .i64 lf, .int .i64 0, .int .i64 am, .int .i64 tk] 23 (0, 0)), (w.heap.size + 1, .cells #[.int .i64 0, .int .i64 0, .int .i64 0, .int .i64 0, .int .i64 0, .int .i64 0] 23 (0, 0))] w1) := Lib.hid (HB0.out.put (by omega) hg1.out hr1.out (by simp only [List.mem_cons, List.not_mem_nil, or_false]; rintro p (rfl | rfl) <;> simp <;> omega))
          clear hr1 hg1 HB0
          have c0_0 : w1.cell? ⟨w.heap.size, 0, none⟩ = some (.int .i64 fl) := cell_of_row _ _ _ _ _ (0, 0) HB1.out.r0
          have c0_1 : w1.cell? ⟨w.heap.size, 1, none⟩ = some (.int .i64 tg) := cell_of_row _ _ _ _ _ (0, 0) HB1.out.r0
          have c0_2 : w1.cell? ⟨w.heap.size, 2, none⟩ = some (.int .i64 lf) := cell_of_row _ _ _ _ _ (0, 0) HB1.out.r0
          have c0_3 : w1.cell? ⟨w.heap.size, 3, none⟩ = some (.int .i64 0) := cell_of_row _ _ _ _ _ (0, 0) HB1.out.r0
          have c0_4 : w1.cell? ⟨w.heap.size, 4, none⟩ = some (.int .i64 am) := cell_of_row _ _ _ _ _ (0, 0) HB1.out.r0
          have c0_5 : w1.cell? ⟨w.heap.size, 5, none⟩ = some (.int .i64 tk) := cell_of_row _ _ _ _ _ (0, 0) HB1.out.r0
          have c1_0 : w1.cell? ⟨w.heap.size + 1, 0, none⟩ = some (.int .i64 0) := cell_of_row _ _ _ _ _ (0, 0) HB1.out.r1
          have c1_1 : w1.cell? ⟨w.heap.size + 1, 1, none⟩ = some (.int .i64 0) := cell_of_row _ _ _ _ _ (0, 0) HB1.out.r1
          have c1_2 : w1.cell? ⟨w.heap.size + 1, 2, none⟩ = some (.int .i64 0) := cell_of_row _ _ _ _ _ (0, 0) HB1.out.r1
          have c1_3 : w1.cell? ⟨w.heap.size + 1, 3, none⟩ = some (.int .i64 0) := cell_of_row _ _ _ _ _ (0, 0) HB1.out.r1
          have c1_4 : w1.cell? ⟨w.heap.size + 1, 4, none⟩ = some (.int .i64 0) := cell_of_row _ _ _ _ _ (0, 0) HB1.out.r1
          have c1_5 : w1.cell? ⟨w.heap.size + 1, 5, none⟩ = some (.int .i64 0) := cell_of_row _ _ _ _ _ (0, 0) HB1.out.r1
          go_wp2_with (with_reducible show wpList _ _ _ (Oper.mk _ (.store 3 _ _) _ _ _ _ :: _) _ _; refine Hid.out ?_)
          refine Lib.hid ?_
          refine wpList_putCell rfl 3 _ _ rfl (w.heap.size) 4 (.int .i64 a) _ _ 23 rfl rfl HB1.out.r0 (by kernel_rfl) (by simp) rfl rfl rfl ?_
          intro w2 hr2 hg2
          have HB2 : Hid (Bx w [(w.heap.size, .cells #[.int .i64 fl, .int .i64 tg, .int .i64 lf, .int .i64 0, .int .i64 a, .int .i64 tk] 23 (0, 0)), (w.heap.size + 1, .cells #[.int .i64 0, .int .i64 0, .int .i64 0, .int .i64 0, .int .i64 0, .int .i64 0] 23 (0, 0))] w2) := Lib.hid (HB1.out.put (by omega) hg2.out hr2.out (by simp only [List.mem_cons, List.not_mem_nil, or_false]; rintro p (rfl | rfl) <;> simp <;> omega))
          clear c0_0 c0_1 c0_2 c0_3 c0_4 c0_5 c1_0 c1_1 c1_2 c1_3 c1_4 c1_5 hr2 hg2 HB1
          have c0_0 : w2.cell? ⟨w.heap.size, 0, none⟩ = some (.int .i64 fl) := cell_of_row _ _ _ _ _ (0, 0) HB2.out.r0
          have c0_1 : w2.cell? ⟨w.heap.size, 1, none⟩ = some (.int .i64 tg) := cell_of_row _ _ _ _ _ (0, 0) HB2.out.r0
          have c0_2 : w2.cell? ⟨w.heap.size, 2, none⟩ = some (.int .i64 lf) := cell_of_row _ _ _ _ _ (0, 0) HB2.out.r0
          have c0_3 : w2.cell? ⟨w.heap.size, 3, none⟩ = some (.int .i64 0) := cell_of_row _ _ _ _ _ (0, 0) HB2.out.r0
          have c0_4 : w2.cell? ⟨w.heap.size, 4, none⟩ = some (.int .i64 a) := cell_of_row _ _ _ _ _ (0, 0) HB2.out.r0
          have c0_5 : w2.cell? ⟨w.heap.size, 5, none⟩ = some (.int .i64 tk) := cell_of_row _ _ _ _ _ (0, 0) HB2.out.r0
          have c1_0 : w2.cell? ⟨w.heap.size + 1, 0, none⟩ = some (.int .i64 0) := cell_of_row _ _ _ _ _ (0, 0) HB2.out.r1
          have c1_1 : w2.cell? ⟨w.heap.size + 1, 1, none⟩ = some (.int .i64 0) := cell_of_row _ _ _ _ _ (0, 0) HB2.out.r1
          have c1_2 : w2.cell? ⟨w.heap.size + 1, 2, none⟩ = some (.int .i64 0) := cell_of_row _ _ _ _ _ (0, 0) HB2.out.r1
          have c1_3 : w2.cell? ⟨w.heap.size + 1, 3, none⟩ = some (.int .i64 0) := cell_of_row _ _ _ _ _ (0, 0) HB2.out.r1
          have c1_4 : w2.cell? ⟨w.heap.size + 1, 4, none⟩ = some (.int .i64 0) := cell_of_row _ _ _ _ _ (0, 0) HB2.out.r1
          have c1_5 : w2.cell? ⟨w.heap.size + 1, 5, none⟩ = some (.int .i64 0) := cell_of_row _ _ _ _ _ (0, 0) HB2.out.r1
          go_wp2_with (with_reducible show wpList _ _ _ (Oper.mk _ (.store 3 _ _) _ _ _ _ :: _) _ _; refine Hid.out ?_)
          refine Lib.hid ?_
          refine wpList_putCell rfl 3 _ _ rfl (w.heap.size) 5 (.int .i64 (T - 1)) _ _ 23 rfl rfl HB2.out.r0 (by kernel_rfl) (by simp) rfl rfl rfl ?_
          intro w3 hr3 hg3
          have HB3 : Hid (Bx w [(w.heap.size, .cells #[.int .i64 fl, .int .i64 tg, .int .i64 lf, .int .i64 0, .int .i64 a, .int .i64 (T - 1)] 23 (0, 0)), (w.heap.size + 1, .cells #[.int .i64 0, .int .i64 0, .int .i64 0, .int .i64 0, .int .i64 0, .int .i64 0] 23 (0, 0))] w3) := Lib.hid (HB2.out.put (by omega) hg3.out hr3.out (by simp only [List.mem_cons, List.not_mem_nil, or_false]; rintro p (rfl | rfl) <;> simp <;> omega))
          clear c0_0 c0_1 c0_2 c0_3 c0_4 c0_5 c1_0 c1_1 c1_2 c1_3 c1_4 c1_5 hr3 hg3 HB2
          have c0_0 : w3.cell? ⟨w.heap.size, 0, none⟩ = some (.int .i64 fl) := cell_of_row _ _ _ _ _ (0, 0) HB3.out.r0
          have c0_1 : w3.cell? ⟨w.heap.size, 1, none⟩ = some (.int .i64 tg) := cell_of_row _ _ _ _ _ (0, 0) HB3.out.r0
          have c0_2 : w3.cell? ⟨w.heap.size, 2, none⟩ = some (.int .i64 lf) := cell_of_row _ _ _ _ _ (0, 0) HB3.out.r0
          have c0_3 : w3.cell? ⟨w.heap.size, 3, none⟩ = some (.int .i64 0) := cell_of_row _ _ _ _ _ (0, 0) HB3.out.r0
          have c0_4 : w3.cell? ⟨w.heap.size, 4, none⟩ = some (.int .i64 a) := cell_of_row _ _ _ _ _ (0, 0) HB3.out.r0
          have c0_5 : w3.cell? ⟨w.heap.size, 5, none⟩ = some (.int .i64 (T - 1)) := cell_of_row _ _ _ _ _ (0, 0) HB3.out.r0
          have c1_0 : w3.cell? ⟨w.heap.size + 1, 0, none⟩ = some (.int .i64 0) := cell_of_row _ _ _ _ _ (0, 0) HB3.out.r1
          have c1_1 : w3.cell? ⟨w.heap.size + 1, 1, none⟩ = some (.int .i64 0) := cell_of_row _ _ _ _ _ (0, 0) HB3.out.r1
          have c1_2 : w3.cell? ⟨w.heap.size + 1, 2, none⟩ = some (.int .i64 0) := cell_of_row _ _ _ _ _ (0, 0) HB3.out.r1
          have c1_3 : w3.cell? ⟨w.heap.size + 1, 3, none⟩ = some (.int .i64 0) := cell_of_row _ _ _ _ _ (0, 0) HB3.out.r1
          have c1_4 : w3.cell? ⟨w.heap.size + 1, 4, none⟩ = some (.int .i64 0) := cell_of_row _ _ _ _ _ (0, 0) HB3.out.r1
          have c1_5 : w3.cell? ⟨w.heap.size + 1, 5, none⟩ = some (.int .i64 0) := cell_of_row _ _ _ _ _ (0, 0) HB3.out.r1
          go_wp2_with (with_reducible show wpList _ _ _ (Oper.mk _ (.store 23 _ _) _ _ _ _ :: _) _ _; refine Hid.out ?_)
          refine Lib.hid ?_
          refine wpList_put rfl 23 _ _ rfl (w.heap.size + 1) #[.int .i64 fl, .int .i64 tg, .int .i64 lf, .int .i64 0, .int .i64 a, .int .i64 (T - 1)] _ 23 rfl rfl HB3.out.r1 (by kernel_rfl) rfl (by kernel_rfl) ?_
          intro w4 hr4 hg4
          have HB4 : Hid (Bx w [(w.heap.size, .cells #[.int .i64 fl, .int .i64 tg, .int .i64 lf, .int .i64 0, .int .i64 a, .int .i64 (T - 1)] 23 (0, 0)), (w.heap.size + 1, .cells #[.int .i64 fl, .int .i64 tg, .int .i64 lf, .int .i64 0, .int .i64 a, .int .i64 (T - 1)] 23 (0, 0))] w4) := Lib.hid (HB3.out.put (by omega) hg4.out hr4.out (by simp only [List.mem_cons, List.not_mem_nil, or_false]; rintro p (rfl | rfl) <;> simp <;> omega))
          clear c0_0 c0_1 c0_2 c0_3 c0_4 c0_5 c1_0 c1_1 c1_2 c1_3 c1_4 c1_5 hr4 hg4 HB3
          go_wp2_with fail
          exact bodyPost_ret (results_cell_row Try.results19 _ _ _ _ _ (0, 0) _ rfl (HB4.out.r1) Try.underlying23 rfl (by kernel_rfl)) rfl (⟨rfl, HB4.out.below⟩)
end Go.Proofs.Ytmfinebkikhceaa
