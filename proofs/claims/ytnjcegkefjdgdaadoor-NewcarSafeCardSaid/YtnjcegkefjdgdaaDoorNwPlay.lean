/- The played drive of stage 15's laws: New, Report, arrived, IsState. No statement of the seat is proved here. -/
import Derived.Test.YtnjcegkefjdgdaaDoorG21
import Derived.Test.YtnjcegkefjdgdaaDoorG8
namespace Go.Proofs.YtnjcegkefjdgdaaDoor
open Go.RowKit
set_option maxRecDepth 4000
set_option linter.unusedSimpArgs false

set_option maxHeartbeats 4000000 in
theorem playIn_any (n lo hi : Int) (w : World) :
    Calls Tryd.prog 25 #[.int .i64 n, .int .i64 lo, .int .i64 hi] w fun ee w' => ee = .returned (.bool (Nc.wi lo hi n)) ∧ Below w.heap.size w w' := by
  unfold Nc.wi
  by_cases h1 : lo ≤ n
  all_goals
    by_cases h2 : n ≤ hi
    all_goals
      first
        | rw [decide_eq_true h1]
        | rw [decide_eq_false h1]
      first
        | rw [decide_eq_true h2]
        | rw [decide_eq_false h2]
      go_enter Tryd.func25, Tryd.ntmps25
      go_wp2
      go_ret
      exact ⟨rfl, by go_grown⟩
set_option maxHeartbeats 4000000 in
theorem playNew_any (n : Int) (w : World) :
    Calls Tryd.prog 10 #[.int .i64 n] w fun ee w' => ee = .returned ((Rg.new n).agg) ∧ Below w.heap.size w w' := by
  rw [show (Rg.new n).agg = .agg #[.int .i64 n, .int .i64 n, .int .i64 0, .int .i64 2, .int .i64 0, .int .i64 0] from rfl]
  have HB0 := Lib.hid (bxs1 w (.cells #[.int .i64 0, .int .i64 0, .int .i64 0, .int .i64 0, .int .i64 0, .int .i64 0] 57))
  go_enter Tryd.func10, Tryd.ntmps10
  go_wp2_with (with_reducible show wpList _ _ _ (Oper.mk _ (.store 57 _ _) _ _ _ _ :: _) _ _; refine Hid.out ?_)
  refine Lib.hid ?_
  refine wpList_put rfl 57 _ _ rfl (w.heap.size) #[.int .i64 n, .int .i64 n, .int .i64 0, .int .i64 2, .int .i64 0, .int .i64 0] _ 57 rfl rfl HB0.out.r0 (by kernel_rfl) rfl (by kernel_rfl) ?_
  intro w1 hr1 hg1
  have HB1 : Hid (Bx w [(w.heap.size, .cells #[.int .i64 n, .int .i64 n, .int .i64 0, .int .i64 2, .int .i64 0, .int .i64 0] 57 (0, 0))] w1) := Lib.hid (HB0.out.put (by omega) hg1.out hr1.out (by simp only [List.mem_cons, List.not_mem_nil, or_false]; rintro p rfl <;> simp <;> omega))
  clear hr1 hg1 HB0
  go_wp2_with fail
  exact bodyPost_ret (results_cell_row Tryd.results10 _ _ _ _ _ (0, 0) _ rfl (HB1.out.r0) Tryd.underlying57 rfl (by kernel_rfl)) rfl (⟨rfl, HB1.out.below⟩)
set_option maxHeartbeats 4000000 in
theorem playReport_any (r : Rg) (bl : Bool) (w : World) :
    Calls Tryd.prog 11 #[r.agg, .bool bl] w fun ee w' => ee = .returned ((Rg.report r bl).agg) ∧ Below w.heap.size w w' := by
  obtain ⟨fl, tg, lf, dd, am, tk⟩ := r
  rw [show (Rg.report ⟨fl, tg, lf, dd, am, tk⟩ bl).agg = .agg #[.int .i64 fl, .bool (lf == 0), .int .i64 dd, .bool bl] from rfl]
  simp only [Rg.agg]
  generalize hq : (lf == 0) = q at *
  have HB0 := Lib.hid (bxs2 w (.cells #[.int .i64 fl, .int .i64 tg, .int .i64 lf, .int .i64 dd, .int .i64 am, .int .i64 tk] 57) (.cells #[.int .i64 0, .bool false, .int .i64 0, .bool false] 40))
  go_enter Tryd.func11, Tryd.ntmps11
  go_wp2_with (with_reducible show wpList _ _ _ (Oper.mk _ (.store 40 _ _) _ _ _ _ :: _) _ _; refine Hid.out ?_)
  refine Lib.hid ?_
  refine wpList_put rfl 40 _ _ rfl (w.heap.size + 1) #[.int .i64 fl, .bool q, .int .i64 dd, .bool bl] _ 40 rfl rfl HB0.out.r1 (by kernel_rfl) rfl (by kernel_rfl) ?_
  intro w1 hr1 hg1
  have HB1 : Hid (Bx w [(w.heap.size, .cells #[.int .i64 fl, .int .i64 tg, .int .i64 lf, .int .i64 dd, .int .i64 am, .int .i64 tk] 57 (0, 0)), (w.heap.size + 1, .cells #[.int .i64 fl, .bool q, .int .i64 dd, .bool bl] 40 (0, 0))] w1) := Lib.hid (HB0.out.put (by omega) hg1.out hr1.out (by simp only [List.mem_cons, List.not_mem_nil, or_false]; rintro p (rfl | rfl) <;> simp <;> omega))
  clear hr1 hg1 HB0
  go_wp2_with fail
  exact bodyPost_ret (results_cell_row Tryd.results11 _ _ _ _ _ (0, 0) _ rfl (HB1.out.r1) Tryd.underlying40 rfl (by kernel_rfl)) rfl (⟨rfl, HB1.out.below⟩)
set_option maxHeartbeats 4000000 in
theorem playArr_any (r : Rg) (w : World) :
    Calls Tryd.prog 24 #[r.agg] w fun ee w' => ee = .returned ((Rg.arr r).agg) ∧ Below w.heap.size w w' := by
  obtain ⟨fl, tg, lf, dd, am, tk⟩ := r
  by_cases h0 : lf = 0
  · subst h0
    rw [show Rg.arr ⟨fl, tg, 0, dd, am, tk⟩ = ⟨tg, tg, 0, dd, am, tk⟩ from rfl]
    simp only [Rg.agg]
    have HB0 := Lib.hid (bxs2 w (.cells #[.int .i64 fl, .int .i64 tg, .int .i64 0, .int .i64 dd, .int .i64 am, .int .i64 tk] 57) (.cells #[.int .i64 0, .int .i64 0, .int .i64 0, .int .i64 0, .int .i64 0, .int .i64 0] 57))
    go_enter Tryd.func24, Tryd.ntmps24
    go_wp2_with (with_reducible show wpList _ _ _ (Oper.mk _ (.store 3 _ _) _ _ _ _ :: _) _ _; refine Hid.out ?_)
    refine Lib.hid ?_
    refine wpList_putCell rfl 3 _ _ rfl (w.heap.size) 0 (.int .i64 tg) _ _ 57 rfl rfl HB0.out.r0 (by kernel_rfl) (by simp) rfl rfl rfl ?_
    intro w1 hr1 hg1
    have HB1 : Hid (Bx w [(w.heap.size, .cells #[.int .i64 tg, .int .i64 tg, .int .i64 0, .int .i64 dd, .int .i64 am, .int .i64 tk] 57 (0, 0)), (w.heap.size + 1, .cells #[.int .i64 0, .int .i64 0, .int .i64 0, .int .i64 0, .int .i64 0, .int .i64 0] 57 (0, 0))] w1) := Lib.hid (HB0.out.put (by omega) hg1.out hr1.out (by simp only [List.mem_cons, List.not_mem_nil, or_false]; rintro p (rfl | rfl) <;> simp <;> omega))
    clear hr1 hg1 HB0
    obtain ⟨c0_0, c0_1, c0_2, c0_3, c0_4, c0_5⟩ := row6 (b := w.heap.size) HB1.out.r0
    obtain ⟨c1_0, c1_1, c1_2, c1_3, c1_4, c1_5⟩ := row6 (b := w.heap.size + 1) HB1.out.r1
    go_wp2_with (with_reducible show wpList _ _ _ (Oper.mk _ (.store 57 _ _) _ _ _ _ :: _) _ _; refine Hid.out ?_)
    refine Lib.hid ?_
    refine wpList_put rfl 57 _ _ rfl (w.heap.size + 1) #[.int .i64 tg, .int .i64 tg, .int .i64 0, .int .i64 dd, .int .i64 am, .int .i64 tk] _ 57 rfl rfl HB1.out.r1 (by kernel_rfl) rfl (by kernel_rfl) ?_
    intro w2 hr2 hg2
    have HB2 : Hid (Bx w [(w.heap.size, .cells #[.int .i64 tg, .int .i64 tg, .int .i64 0, .int .i64 dd, .int .i64 am, .int .i64 tk] 57 (0, 0)), (w.heap.size + 1, .cells #[.int .i64 tg, .int .i64 tg, .int .i64 0, .int .i64 dd, .int .i64 am, .int .i64 tk] 57 (0, 0))] w2) := Lib.hid (HB1.out.put (by omega) hg2.out hr2.out (by simp only [List.mem_cons, List.not_mem_nil, or_false]; rintro p (rfl | rfl) <;> simp <;> omega))
    clear c0_0 c0_1 c0_2 c0_3 c0_4 c0_5 c1_0 c1_1 c1_2 c1_3 c1_4 c1_5 hr2 hg2 HB1
    go_wp2_with fail
    exact bodyPost_ret (results_cell_row Tryd.results24 _ _ _ _ _ (0, 0) _ rfl (HB2.out.r1) Tryd.underlying57 rfl (by kernel_rfl)) rfl (⟨rfl, HB2.out.below⟩)
  · rw [show Rg.arr ⟨fl, tg, lf, dd, am, tk⟩ = ⟨fl, tg, lf, dd, am, tk⟩ from if_neg h0]
    have hB : (lf == 0) = false := by simpa using h0
    simp only [Rg.agg]
    have HB0 := Lib.hid (bxs2 w (.cells #[.int .i64 fl, .int .i64 tg, .int .i64 lf, .int .i64 dd, .int .i64 am, .int .i64 tk] 57) (.cells #[.int .i64 0, .int .i64 0, .int .i64 0, .int .i64 0, .int .i64 0, .int .i64 0] 57))
    go_enter Tryd.func24, Tryd.ntmps24
    go_wp2_with (with_reducible show wpList _ _ _ (Oper.mk _ (.store 57 _ _) _ _ _ _ :: _) _ _; refine Hid.out ?_)
    refine Lib.hid ?_
    refine wpList_put rfl 57 _ _ rfl (w.heap.size + 1) #[.int .i64 fl, .int .i64 tg, .int .i64 lf, .int .i64 dd, .int .i64 am, .int .i64 tk] _ 57 rfl rfl HB0.out.r1 (by kernel_rfl) rfl (by kernel_rfl) ?_
    intro w1 hr1 hg1
    have HB1 : Hid (Bx w [(w.heap.size, .cells #[.int .i64 fl, .int .i64 tg, .int .i64 lf, .int .i64 dd, .int .i64 am, .int .i64 tk] 57 (0, 0)), (w.heap.size + 1, .cells #[.int .i64 fl, .int .i64 tg, .int .i64 lf, .int .i64 dd, .int .i64 am, .int .i64 tk] 57 (0, 0))] w1) := Lib.hid (HB0.out.put (by omega) hg1.out hr1.out (by simp only [List.mem_cons, List.not_mem_nil, or_false]; rintro p (rfl | rfl) <;> simp <;> omega))
    clear hr1 hg1 HB0
    go_wp2_with fail
    exact bodyPost_ret (results_cell_row Tryd.results24 _ _ _ _ _ (0, 0) _ rfl (HB1.out.r1) Tryd.underlying57 rfl (by kernel_rfl)) rfl (⟨rfl, HB1.out.below⟩)
set_option maxHeartbeats 4000000 in
theorem playIsState_ok (F : Int) (r : Rg) (w : World) (h : Rg.Ok F r) :
    Calls Tryd.prog 23 #[.int .i64 F, r.agg] w fun ee w' => ee = .returned (.bool true) ∧ Below w.heap.size w w' := by
  obtain ⟨h1, h2, h3, h4, h5, h6, h7⟩ := h
  obtain ⟨fl, tg, lf, dd, am, tk⟩ := r
  simp only at h2 h3 h4 h5 h6 h7
  have F1 := Lib.hid (fun wx => playIn_any F 2 32 wx)
  have F2 := Lib.hid (fun wx => playIn_any fl 0 (F - 1) wx)
  have F3 := Lib.hid (fun wx => playIn_any tg 0 (F - 1) wx)
  have F4 := Lib.hid (fun wx => playIn_any (tg - fl) (-1) 1 wx)
  have F5 := Lib.hid (fun wx => playIn_any dd 0 2 wx)
  rw [Nc.wi_iff.2 h1] at F1
  rw [Nc.wi_iff.2 h2] at F2
  rw [Nc.wi_iff.2 h3] at F3
  rw [Nc.wi_iff.2 h4] at F4
  rw [Nc.wi_iff.2 h5] at F5
  have w1 : IntKind.i64.wrap (F - 1) = F - 1 := by rw [IntKind.wrap_i64]; omega
  have w2 : IntKind.i64.wrap (tg - fl) = tg - fl := by rw [IntKind.wrap_i64]; omega
  clear h1 h2 h3 h4
  simp only [Rg.agg]
  rcases h6 with ⟨e1, e2⟩ | ⟨e1, e2, e3⟩
  · subst e1 e2
    simp only [Int.sub_self] at F4 w2
    rcases h7 with ⟨e4, e5, e6⟩ | ⟨e4, e5, e6⟩
    · subst e4
      have F7 := Lib.hid (fun wx => playIn_any am 1 2 wx)
      have F8 := Lib.hid (fun wx => playIn_any tk 1 10000 wx)
      rw [Nc.wi_iff.2 e5] at F7
      rw [Nc.wi_iff.2 e6] at F8
      clear e5 e6
      clear h5
      have HB0 := Lib.hid (bxs1 w (.cells #[.int .i64 tg, .int .i64 tg, .int .i64 0, .int .i64 0, .int .i64 am, .int .i64 tk] 57))
      go_enter Tryd.func23, Tryd.ntmps23
      go_wp2_with fail
      refine (F1.out _).mono ?_
      rintro e w1 ⟨rfl, hb1⟩
      have HB1 := Lib.hid (HB0.out.next hb1)
      clear hb1 HB0
      obtain ⟨c0_0, c0_1, c0_2, c0_3, c0_4, c0_5⟩ := row6 (b := w.heap.size) HB1.out.r0
      go_wp2_with fail
      refine (F2.out _).mono ?_
      rintro e w2 ⟨rfl, hb2⟩
      have HB2 := Lib.hid (HB1.out.next hb2)
      clear c0_0 c0_1 c0_2 c0_3 c0_4 c0_5 hb2 HB1
      obtain ⟨c0_0, c0_1, c0_2, c0_3, c0_4, c0_5⟩ := row6 (b := w.heap.size) HB2.out.r0
      go_wp2_with fail
      refine (F3.out _).mono ?_
      rintro e w3 ⟨rfl, hb3⟩
      have HB3 := Lib.hid (HB2.out.next hb3)
      clear c0_0 c0_1 c0_2 c0_3 c0_4 c0_5 hb3 HB2
      obtain ⟨c0_0, c0_1, c0_2, c0_3, c0_4, c0_5⟩ := row6 (b := w.heap.size) HB3.out.r0
      go_wp2_with fail
      refine (F4.out _).mono ?_
      rintro e w4 ⟨rfl, hb4⟩
      have HB4 := Lib.hid (HB3.out.next hb4)
      clear c0_0 c0_1 c0_2 c0_3 c0_4 c0_5 hb4 HB3
      obtain ⟨c0_0, c0_1, c0_2, c0_3, c0_4, c0_5⟩ := row6 (b := w.heap.size) HB4.out.r0
      go_wp2_with fail
      refine (F5.out _).mono ?_
      rintro e w5 ⟨rfl, hb5⟩
      have HB5 := Lib.hid (HB4.out.next hb5)
      clear c0_0 c0_1 c0_2 c0_3 c0_4 c0_5 hb5 HB4
      obtain ⟨c0_0, c0_1, c0_2, c0_3, c0_4, c0_5⟩ := row6 (b := w.heap.size) HB5.out.r0
      go_wp2_with fail
      refine (F7.out _).mono ?_
      rintro e w6 ⟨rfl, hb6⟩
      have HB6 := Lib.hid (HB5.out.next hb6)
      clear c0_0 c0_1 c0_2 c0_3 c0_4 c0_5 hb6 HB5
      obtain ⟨c0_0, c0_1, c0_2, c0_3, c0_4, c0_5⟩ := row6 (b := w.heap.size) HB6.out.r0
      go_wp2_with fail
      refine (F8.out _).mono ?_
      rintro e w7 ⟨rfl, hb7⟩
      have HB7 := Lib.hid (HB6.out.next hb7)
      clear c0_0 c0_1 c0_2 c0_3 c0_4 c0_5 hb7 HB6
      obtain ⟨c0_0, c0_1, c0_2, c0_3, c0_4, c0_5⟩ := row6 (b := w.heap.size) HB7.out.r0
      go_wp2_with fail
      go_ret
      exact ⟨rfl, HB7.out.below⟩
    · subst e5 e6
      have hB : (dd == 0) = false := by simpa using e4
      clear h5
      have HB0 := Lib.hid (bxs1 w (.cells #[.int .i64 tg, .int .i64 tg, .int .i64 0, .int .i64 dd, .int .i64 0, .int .i64 0] 57))
      go_enter Tryd.func23, Tryd.ntmps23
      go_wp2_with fail
      refine (F1.out _).mono ?_
      rintro e w1 ⟨rfl, hb1⟩
      have HB1 := Lib.hid (HB0.out.next hb1)
      clear hb1 HB0
      obtain ⟨c0_0, c0_1, c0_2, c0_3, c0_4, c0_5⟩ := row6 (b := w.heap.size) HB1.out.r0
      go_wp2_with fail
      refine (F2.out _).mono ?_
      rintro e w2 ⟨rfl, hb2⟩
      have HB2 := Lib.hid (HB1.out.next hb2)
      clear c0_0 c0_1 c0_2 c0_3 c0_4 c0_5 hb2 HB1
      obtain ⟨c0_0, c0_1, c0_2, c0_3, c0_4, c0_5⟩ := row6 (b := w.heap.size) HB2.out.r0
      go_wp2_with fail
      refine (F3.out _).mono ?_
      rintro e w3 ⟨rfl, hb3⟩
      have HB3 := Lib.hid (HB2.out.next hb3)
      clear c0_0 c0_1 c0_2 c0_3 c0_4 c0_5 hb3 HB2
      obtain ⟨c0_0, c0_1, c0_2, c0_3, c0_4, c0_5⟩ := row6 (b := w.heap.size) HB3.out.r0
      go_wp2_with fail
      refine (F4.out _).mono ?_
      rintro e w4 ⟨rfl, hb4⟩
      have HB4 := Lib.hid (HB3.out.next hb4)
      clear c0_0 c0_1 c0_2 c0_3 c0_4 c0_5 hb4 HB3
      obtain ⟨c0_0, c0_1, c0_2, c0_3, c0_4, c0_5⟩ := row6 (b := w.heap.size) HB4.out.r0
      go_wp2_with fail
      refine (F5.out _).mono ?_
      rintro e w5 ⟨rfl, hb5⟩
      have HB5 := Lib.hid (HB4.out.next hb5)
      clear c0_0 c0_1 c0_2 c0_3 c0_4 c0_5 hb5 HB4
      obtain ⟨c0_0, c0_1, c0_2, c0_3, c0_4, c0_5⟩ := row6 (b := w.heap.size) HB5.out.r0
      go_wp2_with fail
      go_ret
      exact ⟨rfl, HB5.out.below⟩
  · subst e3
    obtain ⟨e5, e6⟩ : am = 0 ∧ tk = 0 := by rcases h7 with ⟨h, _⟩ | ⟨_, h⟩; omega; exact h
    subst e5 e6
    have hB : (tg == fl) = false := by simpa using e1
    have hC : (tg != fl) = true := by simpa using e1
    have F6 := Lib.hid (fun wx => playIn_any lf 1 10000 wx)
    rw [Nc.wi_iff.2 e2] at F6
    clear h5
    have HB0 := Lib.hid (bxs1 w (.cells #[.int .i64 fl, .int .i64 tg, .int .i64 lf, .int .i64 2, .int .i64 0, .int .i64 0] 57))
    go_enter Tryd.func23, Tryd.ntmps23
    go_wp2_with fail
    refine (F1.out _).mono ?_
    rintro e w1 ⟨rfl, hb1⟩
    have HB1 := Lib.hid (HB0.out.next hb1)
    clear hb1 HB0
    obtain ⟨c0_0, c0_1, c0_2, c0_3, c0_4, c0_5⟩ := row6 (b := w.heap.size) HB1.out.r0
    go_wp2_with fail
    refine (F2.out _).mono ?_
    rintro e w2 ⟨rfl, hb2⟩
    have HB2 := Lib.hid (HB1.out.next hb2)
    clear c0_0 c0_1 c0_2 c0_3 c0_4 c0_5 hb2 HB1
    obtain ⟨c0_0, c0_1, c0_2, c0_3, c0_4, c0_5⟩ := row6 (b := w.heap.size) HB2.out.r0
    go_wp2_with fail
    refine (F3.out _).mono ?_
    rintro e w3 ⟨rfl, hb3⟩
    have HB3 := Lib.hid (HB2.out.next hb3)
    clear c0_0 c0_1 c0_2 c0_3 c0_4 c0_5 hb3 HB2
    obtain ⟨c0_0, c0_1, c0_2, c0_3, c0_4, c0_5⟩ := row6 (b := w.heap.size) HB3.out.r0
    go_wp2_with fail
    refine (F4.out _).mono ?_
    rintro e w4 ⟨rfl, hb4⟩
    have HB4 := Lib.hid (HB3.out.next hb4)
    clear c0_0 c0_1 c0_2 c0_3 c0_4 c0_5 hb4 HB3
    obtain ⟨c0_0, c0_1, c0_2, c0_3, c0_4, c0_5⟩ := row6 (b := w.heap.size) HB4.out.r0
    go_wp2_with fail
    refine (F5.out _).mono ?_
    rintro e w5 ⟨rfl, hb5⟩
    have HB5 := Lib.hid (HB4.out.next hb5)
    clear c0_0 c0_1 c0_2 c0_3 c0_4 c0_5 hb5 HB4
    obtain ⟨c0_0, c0_1, c0_2, c0_3, c0_4, c0_5⟩ := row6 (b := w.heap.size) HB5.out.r0
    go_wp2_with fail
    refine (F6.out _).mono ?_
    rintro e w6 ⟨rfl, hb6⟩
    have HB6 := Lib.hid (HB5.out.next hb6)
    clear c0_0 c0_1 c0_2 c0_3 c0_4 c0_5 hb6 HB5
    obtain ⟨c0_0, c0_1, c0_2, c0_3, c0_4, c0_5⟩ := row6 (b := w.heap.size) HB6.out.r0
    go_wp2_with fail
    go_ret
    exact ⟨rfl, HB6.out.below⟩
end Go.Proofs.YtnjcegkefjdgdaaDoor
