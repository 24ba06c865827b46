/- The door's small functions. No statement of the seat is proved here. -/
import Derived.Test.YtnjcegkefjdgdaaDoorG14
import Derived.Test.YtnjcegkefjdgdaaDoorG8
namespace Go.Proofs.YtnjcegkefjdgdaaDoor
open Go.RowKit

theorem oneMore_any (n : Int) (w : World) (h : 0 ≤ n ∧ n ≤ 1000000) :
    Calls Tryd.prog 60 #[.int .i64 n] w fun ee w' => ee = .returned (.int .i64 (Dr.more n)) ∧ Below w.heap.size w w' := by
  by_cases hm : n + 1 ≤ 1000000
  · rw [show Dr.more n = n + 1 from if_pos hm]
    go_enter Tryd.func60, Tryd.ntmps60
    go_wp2
    go_ret
    exact ⟨rfl, by go_grown⟩
  · rw [show Dr.more n = 1000000 from if_neg hm]
    go_enter Tryd.func60, Tryd.ntmps60
    go_wp2
    go_ret
    exact ⟨rfl, by go_grown⟩
theorem isCount_any (n : Int) (w : World) :
    Calls Tryd.prog 52 #[.int .i64 n] w fun ee w' => ee = .returned (.bool (Dr.isCount n)) ∧ Below w.heap.size w w' := by
  unfold Dr.isCount
  by_cases h1 : 0 ≤ n
  all_goals
    by_cases h2 : n ≤ 1000000
    all_goals
      first
        | rw [decide_eq_true h1]
        | rw [decide_eq_false h1]
      first
        | rw [decide_eq_true h2]
        | rw [decide_eq_false h2]
      go_enter Tryd.func52, Tryd.ntmps52
      go_wp2
      go_ret
      exact ⟨rfl, by go_grown⟩
theorem nextSince_any (n : Int) (w : World) (h : 0 ≤ n ∧ n ≤ 1000000) :
    Calls Tryd.prog 43 #[.int .i64 n] w fun ee w' => ee = .returned (.int .i64 (Dr.next n)) ∧ Below w.heap.size w w' := by
  by_cases h0 : n = 0
  · subst h0
    go_enter Tryd.func43, Tryd.ntmps43
    go_wp2
    go_ret
    exact ⟨rfl, by go_grown⟩
  · rw [show Dr.next n = Dr.more n from if_neg h0]
    have F := Lib.hid (fun wx => oneMore_any n wx h)
    generalize Dr.more n = m at *
    go_enter Tryd.func43, Tryd.ntmps43
    go_wp2_with fail
    refine (F.out _).mono ?_
    rintro ee w1 ⟨rfl, hb⟩
    go_wp2_with fail
    go_ret
    exact ⟨rfl, hb⟩
theorem begin_any (a b c : Int) (d : Bool) (e : Int) (s : Int) (w : World) :
    Calls Tryd.prog 84 #[.agg #[.int .i64 a, .int .i64 b, .int .i64 c, .bool d, .int .i64 e], .int .i64 s] w fun ee w' => ee = .returned (.agg #[.int .i64 s, .int .i64 0, .int .i64 c, .bool d, .int .i64 e]) ∧ Below w.heap.size w w' := by
  have HB0 := Lib.hid (bxs2 w (.cells #[.int .i64 a, .int .i64 b, .int .i64 c, .bool d, .int .i64 e] 33) (.cells #[.int .i64 0, .int .i64 0, .int .i64 0, .bool false, .int .i64 0] 33))
  go_enter Tryd.func84, Tryd.ntmps84
  go_wp2_with (with_reducible show wpList _ _ _ (Oper.mk _ (.store 3 _ _) _ _ _ _ :: _) _ _; refine Hid.out ?_)
  refine Lib.hid ?_
  refine wpList_putCell rfl 3 _ _ rfl (w.heap.size) 0 (.int .i64 s) _ _ 33 rfl rfl HB0.out.r0 (by kernel_rfl) (by simp) rfl rfl rfl ?_
  intro w1 hr1 hg1
  have HB1 : Hid (Bx w [(w.heap.size, .cells #[.int .i64 s, .int .i64 b, .int .i64 c, .bool d, .int .i64 e] 33 (0, 0)), (w.heap.size + 1, .cells #[.int .i64 0, .int .i64 0, .int .i64 0, .bool false, .int .i64 0] 33 (0, 0))] w1) := Lib.hid (HB0.out.put (by omega) hg1.out hr1.out (by simp only [List.mem_cons, List.not_mem_nil, or_false]; rintro p (rfl | rfl) <;> simp <;> omega))
  clear hr1 hg1 HB0
  obtain ⟨c0_0, c0_1, c0_2, c0_3, c0_4⟩ := row5 (b := w.heap.size) HB1.out.r0
  obtain ⟨c1_0, c1_1, c1_2, c1_3, c1_4⟩ := row5 (b := w.heap.size + 1) HB1.out.r1
  go_wp2_with (with_reducible show wpList _ _ _ (Oper.mk _ (.store 3 _ _) _ _ _ _ :: _) _ _; refine Hid.out ?_)
  refine Lib.hid ?_
  refine wpList_putCell rfl 3 _ _ rfl (w.heap.size) 1 (.int .i64 0) _ _ 33 rfl rfl HB1.out.r0 (by kernel_rfl) (by simp) rfl rfl rfl ?_
  intro w2 hr2 hg2
  have HB2 : Hid (Bx w [(w.heap.size, .cells #[.int .i64 s, .int .i64 0, .int .i64 c, .bool d, .int .i64 e] 33 (0, 0)), (w.heap.size + 1, .cells #[.int .i64 0, .int .i64 0, .int .i64 0, .bool false, .int .i64 0] 33 (0, 0))] w2) := Lib.hid (HB1.out.put (by omega) hg2.out hr2.out (by simp only [List.mem_cons, List.not_mem_nil, or_false]; rintro p (rfl | rfl) <;> simp <;> omega))
  clear c0_0 c0_1 c0_2 c0_3 c0_4 c1_0 c1_1 c1_2 c1_3 c1_4 hr2 hg2 HB1
  obtain ⟨c0_0, c0_1, c0_2, c0_3, c0_4⟩ := row5 (b := w.heap.size) HB2.out.r0
  obtain ⟨c1_0, c1_1, c1_2, c1_3, c1_4⟩ := row5 (b := w.heap.size + 1) HB2.out.r1
  go_wp2_with (with_reducible show wpList _ _ _ (Oper.mk _ (.store 33 _ _) _ _ _ _ :: _) _ _; refine Hid.out ?_)
  refine Lib.hid ?_
  refine wpList_put rfl 33 _ _ rfl (w.heap.size + 1) #[.int .i64 s, .int .i64 0, .int .i64 c, .bool d, .int .i64 e] _ 33 rfl rfl HB2.out.r1 (by kernel_rfl) rfl (by kernel_rfl) ?_
  intro w3 hr3 hg3
  have HB3 : Hid (Bx w [(w.heap.size, .cells #[.int .i64 s, .int .i64 0, .int .i64 c, .bool d, .int .i64 e] 33 (0, 0)), (w.heap.size + 1, .cells #[.int .i64 s, .int .i64 0, .int .i64 c, .bool d, .int .i64 e] 33 (0, 0))] w3) := Lib.hid (HB2.out.put (by omega) hg3.out hr3.out (by simp only [List.mem_cons, List.not_mem_nil, or_false]; rintro p (rfl | rfl) <;> simp <;> omega))
  clear c0_0 c0_1 c0_2 c0_3 c0_4 c1_0 c1_1 c1_2 c1_3 c1_4 hr3 hg3 HB2
  obtain ⟨c0_0, c0_1, c0_2, c0_3, c0_4⟩ := row5 (b := w.heap.size) HB3.out.r0
  obtain ⟨c1_0, c1_1, c1_2, c1_3, c1_4⟩ := row5 (b := w.heap.size + 1) HB3.out.r1
  go_wp2_with fail
  exact bodyPost_ret (results_cell_row Tryd.results84 _ _ _ _ _ (0, 0) _ rfl (HB3.out.r1) Tryd.underlying33 rfl (by kernel_rfl)) rfl (⟨rfl, HB3.out.below⟩)
theorem longer_any (a b c : Int) (d : Bool) (e : Int) (w : World) (h : 0 ≤ b ∧ b ≤ 1000000) :
    Calls Tryd.prog 44 #[.agg #[.int .i64 a, .int .i64 b, .int .i64 c, .bool d, .int .i64 e]] w fun ee w' => ee = .returned (.agg #[.int .i64 a, .int .i64 (Dr.more b), .int .i64 c, .bool d, .int .i64 e]) ∧ Below w.heap.size w w' := by
  have F := Lib.hid (fun wx => oneMore_any b wx h)
  generalize Dr.more b = m at *
  have HB0 := Lib.hid (bxs2 w (.cells #[.int .i64 a, .int .i64 b, .int .i64 c, .bool d, .int .i64 e] 33) (.cells #[.int .i64 0, .int .i64 0, .int .i64 0, .bool false, .int .i64 0] 33))
  go_enter Tryd.func44, Tryd.ntmps44
  go_wp2_with fail
  refine (F.out _).mono ?_
  rintro e w1 ⟨rfl, hb1⟩
  have HB1 := Lib.hid (HB0.out.next hb1)
  clear hb1 HB0
  obtain ⟨c0_0, c0_1, c0_2, c0_3, c0_4⟩ := row5 (b := w.heap.size) HB1.out.r0
  obtain ⟨c1_0, c1_1, c1_2, c1_3, c1_4⟩ := row5 (b := w.heap.size + 1) HB1.out.r1
  go_wp2_with (with_reducible show wpList _ _ _ (Oper.mk _ (.store 3 _ _) _ _ _ _ :: _) _ _; refine Hid.out ?_)
  refine Lib.hid ?_
  refine wpList_putCell rfl 3 _ _ rfl (w.heap.size) 1 (.int .i64 m) _ _ 33 rfl rfl HB1.out.r0 (by kernel_rfl) (by simp) rfl rfl rfl ?_
  intro w2 hr2 hg2
  have HB2 : Hid (Bx w [(w.heap.size, .cells #[.int .i64 a, .int .i64 m, .int .i64 c, .bool d, .int .i64 e] 33 (0, 0)), (w.heap.size + 1, .cells #[.int .i64 0, .int .i64 0, .int .i64 0, .bool false, .int .i64 0] 33 (0, 0))] w2) := Lib.hid (HB1.out.put (by omega) hg2.out hr2.out (by simp only [List.mem_cons, List.not_mem_nil, or_false]; rintro p (rfl | rfl) <;> simp <;> omega))
  clear c0_0 c0_1 c0_2 c0_3 c0_4 c1_0 c1_1 c1_2 c1_3 c1_4 hr2 hg2 HB1
  obtain ⟨c0_0, c0_1, c0_2, c0_3, c0_4⟩ := row5 (b := w.heap.size) HB2.out.r0
  obtain ⟨c1_0, c1_1, c1_2, c1_3, c1_4⟩ := row5 (b := w.heap.size + 1) HB2.out.r1
  go_wp2_with (with_reducible show wpList _ _ _ (Oper.mk _ (.store 33 _ _) _ _ _ _ :: _) _ _; refine Hid.out ?_)
  refine Lib.hid ?_
  refine wpList_put rfl 33 _ _ rfl (w.heap.size + 1) #[.int .i64 a, .int .i64 m, .int .i64 c, .bool d, .int .i64 e] _ 33 rfl rfl HB2.out.r1 (by kernel_rfl) rfl (by kernel_rfl) ?_
  intro w3 hr3 hg3
  have HB3 : Hid (Bx w [(w.heap.size, .cells #[.int .i64 a, .int .i64 m, .int .i64 c, .bool d, .int .i64 e] 33 (0, 0)), (w.heap.size + 1, .cells #[.int .i64 a, .int .i64 m, .int .i64 c, .bool d, .int .i64 e] 33 (0, 0))] w3) := Lib.hid (HB2.out.put (by omega) hg3.out hr3.out (by simp only [List.mem_cons, List.not_mem_nil, or_false]; rintro p (rfl | rfl) <;> simp <;> omega))
  clear c0_0 c0_1 c0_2 c0_3 c0_4 c1_0 c1_1 c1_2 c1_3 c1_4 hr3 hg3 HB2
  obtain ⟨c0_0, c0_1, c0_2, c0_3, c0_4⟩ := row5 (b := w.heap.size) HB3.out.r0
  obtain ⟨c1_0, c1_1, c1_2, c1_3, c1_4⟩ := row5 (b := w.heap.size + 1) HB3.out.r1
  go_wp2_with fail
  exact bodyPost_ret (results_cell_row Tryd.results44 _ _ _ _ _ (0, 0) _ rfl (HB3.out.r1) Tryd.underlying33 rfl (by kernel_rfl)) rfl (⟨rfl, HB3.out.below⟩)
theorem nudged_any (a b c : Int) (d : Bool) (e : Int) (w : World) :
    Calls Tryd.prog 85 #[.agg #[.int .i64 a, .int .i64 b, .int .i64 c, .bool d, .int .i64 e]] w fun ee w' => ee = .returned (.agg #[.int .i64 3, .int .i64 0, .int .i64 c, .bool true, .int .i64 e]) ∧ Below w.heap.size w w' := by
  have F := Lib.hid (fun wx => begin_any a b c true e 3 wx)
  have HB0 := Lib.hid (bxs2 w (.cells #[.int .i64 a, .int .i64 b, .int .i64 c, .bool d, .int .i64 e] 33) (.cells #[.int .i64 0, .int .i64 0, .int .i64 0, .bool false, .int .i64 0] 33))
  go_enter Tryd.func85, Tryd.ntmps85
  go_wp2_with (with_reducible show wpList _ _ _ (Oper.mk _ (.store 4 _ _) _ _ _ _ :: _) _ _; refine Hid.out ?_)
  refine Lib.hid ?_
  refine wpList_putCell rfl 4 _ _ rfl (w.heap.size) 3 (.bool true) _ _ 33 rfl rfl HB0.out.r0 (by kernel_rfl) (by simp) rfl rfl rfl ?_
  intro w1 hr1 hg1
  have HB1 : Hid (Bx w [(w.heap.size, .cells #[.int .i64 a, .int .i64 b, .int .i64 c, .bool true, .int .i64 e] 33 (0, 0)), (w.heap.size + 1, .cells #[.int .i64 0, .int .i64 0, .int .i64 0, .bool false, .int .i64 0] 33 (0, 0))] w1) := Lib.hid (HB0.out.put (by omega) hg1.out hr1.out (by simp only [List.mem_cons, List.not_mem_nil, or_false]; rintro p (rfl | rfl) <;> simp <;> omega))
  clear hr1 hg1 HB0
  obtain ⟨c0_0, c0_1, c0_2, c0_3, c0_4⟩ := row5 (b := w.heap.size) HB1.out.r0
  obtain ⟨c1_0, c1_1, c1_2, c1_3, c1_4⟩ := row5 (b := w.heap.size + 1) HB1.out.r1
  go_wp2_with fail
  refine (F.out _).mono ?_
  rintro e w2 ⟨rfl, hb2⟩
  have HB2 := Lib.hid (HB1.out.next hb2)
  clear c0_0 c0_1 c0_2 c0_3 c0_4 c1_0 c1_1 c1_2 c1_3 c1_4 hb2 HB1
  obtain ⟨c0_0, c0_1, c0_2, c0_3, c0_4⟩ := row5 (b := w.heap.size) HB2.out.r0
  obtain ⟨c1_0, c1_1, c1_2, c1_3, c1_4⟩ := row5 (b := w.heap.size + 1) HB2.out.r1
  go_wp2_with (with_reducible show wpList _ _ _ (Oper.mk _ (.store 33 _ _) _ _ _ _ :: _) _ _; refine Hid.out ?_)
  refine Lib.hid ?_
  refine wpList_put rfl 33 _ _ rfl (w.heap.size + 1) #[.int .i64 3, .int .i64 0, .int .i64 c, .bool true, .int .i64 e] _ 33 rfl rfl HB2.out.r1 (by kernel_rfl) rfl (by kernel_rfl) ?_
  intro w3 hr3 hg3
  have HB3 : Hid (Bx w [(w.heap.size, .cells #[.int .i64 a, .int .i64 b, .int .i64 c, .bool true, .int .i64 e] 33 (0, 0)), (w.heap.size + 1, .cells #[.int .i64 3, .int .i64 0, .int .i64 c, .bool true, .int .i64 e] 33 (0, 0))] w3) := Lib.hid (HB2.out.put (by omega) hg3.out hr3.out (by simp only [List.mem_cons, List.not_mem_nil, or_false]; rintro p (rfl | rfl) <;> simp <;> omega))
  clear c0_0 c0_1 c0_2 c0_3 c0_4 c1_0 c1_1 c1_2 c1_3 c1_4 hr3 hg3 HB2
  obtain ⟨c0_0, c0_1, c0_2, c0_3, c0_4⟩ := row5 (b := w.heap.size) HB3.out.r0
  obtain ⟨c1_0, c1_1, c1_2, c1_3, c1_4⟩ := row5 (b := w.heap.size + 1) HB3.out.r1
  go_wp2_with fail
  exact bodyPost_ret (results_cell_row Tryd.results85 _ _ _ _ _ (0, 0) _ rfl (HB3.out.r1) Tryd.underlying33 rfl (by kernel_rfl)) rfl (⟨rfl, HB3.out.below⟩)
theorem idle_any (b : Bool) (w : World) :
    Calls Tryd.prog 74 #[.bool b] w fun ee w' => ee = .returned (.tuple #[(if b = true then (⟨1, 0, 0, false, 0⟩ : Dr) else Dr.zero).agg, .int .i64 (if b = true then 3 else 0)]) ∧ Below w.heap.size w w' := by
  cases b
  · skip
    have HB0 := Lib.hid (bxs1 w (.cells #[.int .i64 0, .int .i64 0, .int .i64 0, .bool false, .int .i64 0] 33))
    go_enter Tryd.func74, Tryd.ntmps74
    go_wp2_with (with_reducible show wpList _ _ _ (Oper.mk _ (.store 33 _ _) _ _ _ _ :: _) _ _; refine Hid.out ?_)
    refine Lib.hid ?_
    refine wpList_put rfl 33 _ _ rfl (w.heap.size) #[.int .i64 0, .int .i64 0, .int .i64 0, .bool false, .int .i64 0] _ 33 rfl rfl HB0.out.r0 (by kernel_rfl) rfl (by kernel_rfl) ?_
    intro w1 hr1 hg1
    have HB1 : Hid (Bx w [(w.heap.size, .cells #[.int .i64 0, .int .i64 0, .int .i64 0, .bool false, .int .i64 0] 33 (0, 0))] w1) := Lib.hid (HB0.out.put (by omega) hg1.out hr1.out (by simp only [List.mem_cons, List.not_mem_nil, or_false]; rintro p rfl <;> simp <;> omega))
    clear hr1 hg1 HB0
    go_wp2_with fail
    exact bodyPost_ret (results_row_tmp Tryd.results74 _ _ _ _ _ (0, 0) _ rfl HB1.out.r0 Tryd.underlying33 rfl (by kernel_rfl)) rfl (⟨rfl, HB1.out.below⟩)
  · skip
    have HB0 := Lib.hid (bxs1 w (.cells #[.int .i64 0, .int .i64 0, .int .i64 0, .bool false, .int .i64 0] 33))
    go_enter Tryd.func74, Tryd.ntmps74
    go_wp2_with (with_reducible show wpList _ _ _ (Oper.mk _ (.store 33 _ _) _ _ _ _ :: _) _ _; refine Hid.out ?_)
    refine Lib.hid ?_
    refine wpList_put rfl 33 _ _ rfl (w.heap.size) #[.int .i64 1, .int .i64 0, .int .i64 0, .bool false, .int .i64 0] _ 33 rfl rfl HB0.out.r0 (by kernel_rfl) rfl (by kernel_rfl) ?_
    intro w1 hr1 hg1
    have HB1 : Hid (Bx w [(w.heap.size, .cells #[.int .i64 1, .int .i64 0, .int .i64 0, .bool false, .int .i64 0] 33 (0, 0))] w1) := Lib.hid (HB0.out.put (by omega) hg1.out hr1.out (by simp only [List.mem_cons, List.not_mem_nil, or_false]; rintro p rfl <;> simp <;> omega))
    clear hr1 hg1 HB0
    go_wp2_with fail
    exact bodyPost_ret (results_row_tmp Tryd.results74 _ _ _ _ _ (0, 0) _ rfl HB1.out.r0 Tryd.underlying33 rfl (by kernel_rfl)) rfl (⟨rfl, HB1.out.below⟩)
theorem opening_open (a b c : Int) (d : Bool) (e : Int) (l : Bool) (w : World) :
    Calls Tryd.prog 71 #[.agg #[.int .i64 a, .int .i64 b, .int .i64 c, .bool d, .int .i64 e], .int .i64 1, .bool l] w fun ee w' => ee = .returned (.tuple #[.agg #[.int .i64 2, .int .i64 0, .int .i64 (if c ≤ 1 then 1 else c), .bool d, .int .i64 e], .int .i64 0]) ∧ Below w.heap.size w w' := by
  by_cases hc : 1 ≤ c
  · have hx : (if c ≤ 1 then 1 else c) = c := by split <;> omega
    rw [hx]
    have F := Lib.hid (fun wx => begin_any a b c d e 2 wx)
    have HB0 := Lib.hid (bxs2 w (.cells #[.int .i64 a, .int .i64 b, .int .i64 c, .bool d, .int .i64 e] 33) (.cells #[.int .i64 0, .int .i64 0, .int .i64 0, .bool false, .int .i64 0] 33))
    go_enter Tryd.func71, Tryd.ntmps71
    go_wp2_with (with_reducible show wpList _ _ _ (Oper.mk _ (.store 3 _ _) _ _ _ _ :: _) _ _; refine Hid.out ?_)
    refine Lib.hid ?_
    refine wpList_putCell rfl 3 _ _ rfl (w.heap.size) 2 (.int .i64 c) _ _ 33 rfl rfl HB0.out.r0 (by kernel_rfl) (by simp) rfl rfl rfl ?_
    intro w1 hr1 hg1
    have HB1 : Hid (Bx w [(w.heap.size, .cells #[.int .i64 a, .int .i64 b, .int .i64 c, .bool d, .int .i64 e] 33 (0, 0)), (w.heap.size + 1, .cells #[.int .i64 0, .int .i64 0, .int .i64 0, .bool false, .int .i64 0] 33 (0, 0))] w1) := Lib.hid (HB0.out.put (by omega) hg1.out hr1.out (by simp only [List.mem_cons, List.not_mem_nil, or_false]; rintro p (rfl | rfl) <;> simp <;> omega))
    clear hr1 hg1 HB0
    obtain ⟨c0_0, c0_1, c0_2, c0_3, c0_4⟩ := row5 (b := w.heap.size) HB1.out.r0
    obtain ⟨c1_0, c1_1, c1_2, c1_3, c1_4⟩ := row5 (b := w.heap.size + 1) HB1.out.r1
    go_wp2_with fail
    refine (F.out _).mono ?_
    rintro e w2 ⟨rfl, hb2⟩
    have HB2 := Lib.hid (HB1.out.next hb2)
    clear c0_0 c0_1 c0_2 c0_3 c0_4 c1_0 c1_1 c1_2 c1_3 c1_4 hb2 HB1
    obtain ⟨c0_0, c0_1, c0_2, c0_3, c0_4⟩ := row5 (b := w.heap.size) HB2.out.r0
    obtain ⟨c1_0, c1_1, c1_2, c1_3, c1_4⟩ := row5 (b := w.heap.size + 1) HB2.out.r1
    go_wp2_with (with_reducible show wpList _ _ _ (Oper.mk _ (.store 33 _ _) _ _ _ _ :: _) _ _; refine Hid.out ?_)
    refine Lib.hid ?_
    refine wpList_put rfl 33 _ _ rfl (w.heap.size + 1) #[.int .i64 2, .int .i64 0, .int .i64 c, .bool d, .int .i64 e] _ 33 rfl rfl HB2.out.r1 (by kernel_rfl) rfl (by kernel_rfl) ?_
    intro w3 hr3 hg3
    have HB3 : Hid (Bx w [(w.heap.size, .cells #[.int .i64 a, .int .i64 b, .int .i64 c, .bool d, .int .i64 e] 33 (0, 0)), (w.heap.size + 1, .cells #[.int .i64 2, .int .i64 0, .int .i64 c, .bool d, .int .i64 e] 33 (0, 0))] w3) := Lib.hid (HB2.out.put (by omega) hg3.out hr3.out (by simp only [List.mem_cons, List.not_mem_nil, or_false]; rintro p (rfl | rfl) <;> simp <;> omega))
    clear c0_0 c0_1 c0_2 c0_3 c0_4 c1_0 c1_1 c1_2 c1_3 c1_4 hr3 hg3 HB2
    obtain ⟨c0_0, c0_1, c0_2, c0_3, c0_4⟩ := row5 (b := w.heap.size) HB3.out.r0
    obtain ⟨c1_0, c1_1, c1_2, c1_3, c1_4⟩ := row5 (b := w.heap.size + 1) HB3.out.r1
    go_wp2_with fail
    exact bodyPost_ret (results_row_tmp Tryd.results71 _ _ _ _ _ (0, 0) _ rfl HB3.out.r1 Tryd.underlying33 rfl (by kernel_rfl)) rfl (⟨rfl, HB3.out.below⟩)
  · have hx : (if c ≤ 1 then 1 else c) = 1 := by split <;> omega
    rw [hx]
    have F := Lib.hid (fun wx => begin_any a b 1 d e 2 wx)
    have HB0 := Lib.hid (bxs2 w (.cells #[.int .i64 a, .int .i64 b, .int .i64 c, .bool d, .int .i64 e] 33) (.cells #[.int .i64 0, .int .i64 0, .int .i64 0, .bool false, .int .i64 0] 33))
    go_enter Tryd.func71, Tryd.ntmps71
    go_wp2_with (with_reducible show wpList _ _ _ (Oper.mk _ (.store 3 _ _) _ _ _ _ :: _) _ _; refine Hid.out ?_)
    refine Lib.hid ?_
    refine wpList_putCell rfl 3 _ _ rfl (w.heap.size) 2 (.int .i64 1) _ _ 33 rfl rfl HB0.out.r0 (by kernel_rfl) (by simp) rfl rfl rfl ?_
    intro w1 hr1 hg1
    have HB1 : Hid (Bx w [(w.heap.size, .cells #[.int .i64 a, .int .i64 b, .int .i64 1, .bool d, .int .i64 e] 33 (0, 0)), (w.heap.size + 1, .cells #[.int .i64 0, .int .i64 0, .int .i64 0, .bool false, .int .i64 0] 33 (0, 0))] w1) := Lib.hid (HB0.out.put (by omega) hg1.out hr1.out (by simp only [List.mem_cons, List.not_mem_nil, or_false]; rintro p (rfl | rfl) <;> simp <;> omega))
    clear hr1 hg1 HB0
    obtain ⟨c0_0, c0_1, c0_2, c0_3, c0_4⟩ := row5 (b := w.heap.size) HB1.out.r0
    obtain ⟨c1_0, c1_1, c1_2, c1_3, c1_4⟩ := row5 (b := w.heap.size + 1) HB1.out.r1
    go_wp2_with fail
    refine (F.out _).mono ?_
    rintro e w2 ⟨rfl, hb2⟩
    have HB2 := Lib.hid (HB1.out.next hb2)
    clear c0_0 c0_1 c0_2 c0_3 c0_4 c1_0 c1_1 c1_2 c1_3 c1_4 hb2 HB1
    obtain ⟨c0_0, c0_1, c0_2, c0_3, c0_4⟩ := row5 (b := w.heap.size) HB2.out.r0
    obtain ⟨c1_0, c1_1, c1_2, c1_3, c1_4⟩ := row5 (b := w.heap.size + 1) HB2.out.r1
    go_wp2_with (with_reducible show wpList _ _ _ (Oper.mk _ (.store 33 _ _) _ _ _ _ :: _) _ _; refine Hid.out ?_)
    refine Lib.hid ?_
    refine wpList_put rfl 33 _ _ rfl (w.heap.size + 1) #[.int .i64 2, .int .i64 0, .int .i64 1, .bool d, .int .i64 e] _ 33 rfl rfl HB2.out.r1 (by kernel_rfl) rfl (by kernel_rfl) ?_
    intro w3 hr3 hg3
    have HB3 : Hid (Bx w [(w.heap.size, .cells #[.int .i64 a, .int .i64 b, .int .i64 1, .bool d, .int .i64 e] 33 (0, 0)), (w.heap.size + 1, .cells #[.int .i64 2, .int .i64 0, .int .i64 1, .bool d, .int .i64 e] 33 (0, 0))] w3) := Lib.hid (HB2.out.put (by omega) hg3.out hr3.out (by simp only [List.mem_cons, List.not_mem_nil, or_false]; rintro p (rfl | rfl) <;> simp <;> omega))
    clear c0_0 c0_1 c0_2 c0_3 c0_4 c1_0 c1_1 c1_2 c1_3 c1_4 hr3 hg3 HB2
    obtain ⟨c0_0, c0_1, c0_2, c0_3, c0_4⟩ := row5 (b := w.heap.size) HB3.out.r0
    obtain ⟨c1_0, c1_1, c1_2, c1_3, c1_4⟩ := row5 (b := w.heap.size + 1) HB3.out.r1
    go_wp2_with fail
    exact bodyPost_ret (results_row_tmp Tryd.results71 _ _ _ _ _ (0, 0) _ rfl HB3.out.r1 Tryd.underlying33 rfl (by kernel_rfl)) rfl (⟨rfl, HB3.out.below⟩)
theorem opening_late (a b c : Int) (d : Bool) (e : Int) (k : Int) (w : World) (hk : ¬ k = 1) :
    Calls Tryd.prog 71 #[.agg #[.int .i64 a, .int .i64 b, .int .i64 c, .bool d, .int .i64 e], .int .i64 k, .bool true] w fun ee w' => ee = .returned (.tuple #[.agg #[.int .i64 3, .int .i64 0, .int .i64 c, .bool true, .int .i64 e], .int .i64 5]) ∧ Below w.heap.size w w' := by
  have F := Lib.hid (fun wx => nudged_any a b c d e wx)
  have HB0 := Lib.hid (bxs2 w (.cells #[.int .i64 a, .int .i64 b, .int .i64 c, .bool d, .int .i64 e] 33) (.cells #[.int .i64 0, .int .i64 0, .int .i64 0, .bool false, .int .i64 0] 33))
  go_enter Tryd.func71, Tryd.ntmps71
  go_wp2_with fail
  refine (F.out _).mono ?_
  rintro e w1 ⟨rfl, hb1⟩
  have HB1 := Lib.hid (HB0.out.next hb1)
  clear hb1 HB0
  obtain ⟨c0_0, c0_1, c0_2, c0_3, c0_4⟩ := row5 (b := w.heap.size) HB1.out.r0
  obtain ⟨c1_0, c1_1, c1_2, c1_3, c1_4⟩ := row5 (b := w.heap.size + 1) HB1.out.r1
  go_wp2_with (with_reducible show wpList _ _ _ (Oper.mk _ (.store 33 _ _) _ _ _ _ :: _) _ _; refine Hid.out ?_)
  refine Lib.hid ?_
  refine wpList_put rfl 33 _ _ rfl (w.heap.size + 1) #[.int .i64 3, .int .i64 0, .int .i64 c, .bool true, .int .i64 e] _ 33 rfl rfl HB1.out.r1 (by kernel_rfl) rfl (by kernel_rfl) ?_
  intro w2 hr2 hg2
  have HB2 : Hid (Bx w [(w.heap.size, .cells #[.int .i64 a, .int .i64 b, .int .i64 c, .bool d, .int .i64 e] 33 (0, 0)), (w.heap.size + 1, .cells #[.int .i64 3, .int .i64 0, .int .i64 c, .bool true, .int .i64 e] 33 (0, 0))] w2) := Lib.hid (HB1.out.put (by omega) hg2.out hr2.out (by simp only [List.mem_cons, List.not_mem_nil, or_false]; rintro p (rfl | rfl) <;> simp <;> omega))
  clear c0_0 c0_1 c0_2 c0_3 c0_4 c1_0 c1_1 c1_2 c1_3 c1_4 hr2 hg2 HB1
  obtain ⟨c0_0, c0_1, c0_2, c0_3, c0_4⟩ := row5 (b := w.heap.size) HB2.out.r0
  obtain ⟨c1_0, c1_1, c1_2, c1_3, c1_4⟩ := row5 (b := w.heap.size + 1) HB2.out.r1
  go_wp2_with fail
  exact bodyPost_ret (results_row_tmp Tryd.results71 _ _ _ _ _ (0, 0) _ rfl HB2.out.r1 Tryd.underlying33 rfl (by kernel_rfl)) rfl (⟨rfl, HB2.out.below⟩)
theorem opening_on (a b c : Int) (d : Bool) (e : Int) (k : Int) (w : World) (hb : 0 ≤ b ∧ b ≤ 1000000) (hk : ¬ k = 1) :
    Calls Tryd.prog 71 #[.agg #[.int .i64 a, .int .i64 b, .int .i64 c, .bool d, .int .i64 e], .int .i64 k, .bool false] w fun ee w' => ee = .returned (.tuple #[.agg #[.int .i64 a, .int .i64 (Dr.more b), .int .i64 c, .bool d, .int .i64 e], .int .i64 3]) ∧ Below w.heap.size w w' := by
  have F := Lib.hid (fun wx => longer_any a b c d e wx hb)
  generalize Dr.more b = m at *
  have HB0 := Lib.hid (bxs2 w (.cells #[.int .i64 a, .int .i64 b, .int .i64 c, .bool d, .int .i64 e] 33) (.cells #[.int .i64 0, .int .i64 0, .int .i64 0, .bool false, .int .i64 0] 33))
  go_enter Tryd.func71, Tryd.ntmps71
  go_wp2_with fail
  refine (F.out _).mono ?_
  rintro e w1 ⟨rfl, hb1⟩
  have HB1 := Lib.hid (HB0.out.next hb1)
  clear hb1 HB0
  obtain ⟨c0_0, c0_1, c0_2, c0_3, c0_4⟩ := row5 (b := w.heap.size) HB1.out.r0
  obtain ⟨c1_0, c1_1, c1_2, c1_3, c1_4⟩ := row5 (b := w.heap.size + 1) HB1.out.r1
  go_wp2_with (with_reducible show wpList _ _ _ (Oper.mk _ (.store 33 _ _) _ _ _ _ :: _) _ _; refine Hid.out ?_)
  refine Lib.hid ?_
  refine wpList_put rfl 33 _ _ rfl (w.heap.size + 1) #[.int .i64 a, .int .i64 m, .int .i64 c, .bool d, .int .i64 e] _ 33 rfl rfl HB1.out.r1 (by kernel_rfl) rfl (by kernel_rfl) ?_
  intro w2 hr2 hg2
  have HB2 : Hid (Bx w [(w.heap.size, .cells #[.int .i64 a, .int .i64 b, .int .i64 c, .bool d, .int .i64 e] 33 (0, 0)), (w.heap.size + 1, .cells #[.int .i64 a, .int .i64 m, .int .i64 c, .bool d, .int .i64 e] 33 (0, 0))] w2) := Lib.hid (HB1.out.put (by omega) hg2.out hr2.out (by simp only [List.mem_cons, List.not_mem_nil, or_false]; rintro p (rfl | rfl) <;> simp <;> omega))
  clear c0_0 c0_1 c0_2 c0_3 c0_4 c1_0 c1_1 c1_2 c1_3 c1_4 hr2 hg2 HB1
  obtain ⟨c0_0, c0_1, c0_2, c0_3, c0_4⟩ := row5 (b := w.heap.size) HB2.out.r0
  obtain ⟨c1_0, c1_1, c1_2, c1_3, c1_4⟩ := row5 (b := w.heap.size + 1) HB2.out.r1
  go_wp2_with fail
  exact bodyPost_ret (results_row_tmp Tryd.results71 _ _ _ _ _ (0, 0) _ rfl HB2.out.r1 Tryd.underlying33 rfl (by kernel_rfl)) rfl (⟨rfl, HB2.out.below⟩)
theorem waiting_late (a b c : Int) (d : Bool) (e : Int) (k : Int) (bl : Bool) (w : World) :
    Calls Tryd.prog 72 #[.agg #[.int .i64 a, .int .i64 b, .int .i64 c, .bool d, .int .i64 e], .int .i64 k, .bool bl, .bool true] w fun ee w' => ee = .returned (.tuple #[.agg #[.int .i64 3, .int .i64 0, .int .i64 c, .bool true, .int .i64 e], .int .i64 5]) ∧ Below w.heap.size w w' := by
  have F := Lib.hid (fun wx => nudged_any a b c d e wx)
  have HB0 := Lib.hid (bxs2 w (.cells #[.int .i64 a, .int .i64 b, .int .i64 c, .bool d, .int .i64 e] 33) (.cells #[.int .i64 0, .int .i64 0, .int .i64 0, .bool false, .int .i64 0] 33))
  go_enter Tryd.func72, Tryd.ntmps72
  go_wp2_with fail
  refine (F.out _).mono ?_
  rintro e w1 ⟨rfl, hb1⟩
  have HB1 := Lib.hid (HB0.out.next hb1)
  clear hb1 HB0
  obtain ⟨c0_0, c0_1, c0_2, c0_3, c0_4⟩ := row5 (b := w.heap.size) HB1.out.r0
  obtain ⟨c1_0, c1_1, c1_2, c1_3, c1_4⟩ := row5 (b := w.heap.size + 1) HB1.out.r1
  go_wp2_with (with_reducible show wpList _ _ _ (Oper.mk _ (.store 33 _ _) _ _ _ _ :: _) _ _; refine Hid.out ?_)
  refine Lib.hid ?_
  refine wpList_put rfl 33 _ _ rfl (w.heap.size + 1) #[.int .i64 3, .int .i64 0, .int .i64 c, .bool true, .int .i64 e] _ 33 rfl rfl HB1.out.r1 (by kernel_rfl) rfl (by kernel_rfl) ?_
  intro w2 hr2 hg2
  have HB2 : Hid (Bx w [(w.heap.size, .cells #[.int .i64 a, .int .i64 b, .int .i64 c, .bool d, .int .i64 e] 33 (0, 0)), (w.heap.size + 1, .cells #[.int .i64 3, .int .i64 0, .int .i64 c, .bool true, .int .i64 e] 33 (0, 0))] w2) := Lib.hid (HB1.out.put (by omega) hg2.out hr2.out (by simp only [List.mem_cons, List.not_mem_nil, or_false]; rintro p (rfl | rfl) <;> simp <;> omega))
  clear c0_0 c0_1 c0_2 c0_3 c0_4 c1_0 c1_1 c1_2 c1_3 c1_4 hr2 hg2 HB1
  obtain ⟨c0_0, c0_1, c0_2, c0_3, c0_4⟩ := row5 (b := w.heap.size) HB2.out.r0
  obtain ⟨c1_0, c1_1, c1_2, c1_3, c1_4⟩ := row5 (b := w.heap.size + 1) HB2.out.r1
  go_wp2_with fail
  exact bodyPost_ret (results_row_tmp Tryd.results72 _ _ _ _ _ (0, 0) _ rfl HB2.out.r1 Tryd.underlying33 rfl (by kernel_rfl)) rfl (⟨rfl, HB2.out.below⟩)
theorem waiting_shut (a b c : Int) (d : Bool) (e : Int) (k : Int) (w : World) (hb : 0 ≤ b ∧ b ≤ 1000000) (hk : k ≤ b + 1) :
    Calls Tryd.prog 72 #[.agg #[.int .i64 a, .int .i64 b, .int .i64 c, .bool d, .int .i64 e], .int .i64 k, .bool false, .bool false] w fun ee w' => ee = .returned (.tuple #[.agg #[.int .i64 3, .int .i64 0, .int .i64 c, .bool d, .int .i64 e], .int .i64 4]) ∧ Below w.heap.size w w' := by
  have F := Lib.hid (fun wx => begin_any a b c d e 3 wx)
  have HB0 := Lib.hid (bxs2 w (.cells #[.int .i64 a, .int .i64 b, .int .i64 c, .bool d, .int .i64 e] 33) (.cells #[.int .i64 0, .int .i64 0, .int .i64 0, .bool false, .int .i64 0] 33))
  go_enter Tryd.func72, Tryd.ntmps72
  go_wp2_with fail
  refine (F.out _).mono ?_
  rintro e w1 ⟨rfl, hb1⟩
  have HB1 := Lib.hid (HB0.out.next hb1)
  clear hb1 HB0
  obtain ⟨c0_0, c0_1, c0_2, c0_3, c0_4⟩ := row5 (b := w.heap.size) HB1.out.r0
  obtain ⟨c1_0, c1_1, c1_2, c1_3, c1_4⟩ := row5 (b := w.heap.size + 1) HB1.out.r1
  go_wp2_with (with_reducible show wpList _ _ _ (Oper.mk _ (.store 33 _ _) _ _ _ _ :: _) _ _; refine Hid.out ?_)
  refine Lib.hid ?_
  refine wpList_put rfl 33 _ _ rfl (w.heap.size + 1) #[.int .i64 3, .int .i64 0, .int .i64 c, .bool d, .int .i64 e] _ 33 rfl rfl HB1.out.r1 (by kernel_rfl) rfl (by kernel_rfl) ?_
  intro w2 hr2 hg2
  have HB2 : Hid (Bx w [(w.heap.size, .cells #[.int .i64 a, .int .i64 b, .int .i64 c, .bool d, .int .i64 e] 33 (0, 0)), (w.heap.size + 1, .cells #[.int .i64 3, .int .i64 0, .int .i64 c, .bool d, .int .i64 e] 33 (0, 0))] w2) := Lib.hid (HB1.out.put (by omega) hg2.out hr2.out (by simp only [List.mem_cons, List.not_mem_nil, or_false]; rintro p (rfl | rfl) <;> simp <;> omega))
  clear c0_0 c0_1 c0_2 c0_3 c0_4 c1_0 c1_1 c1_2 c1_3 c1_4 hr2 hg2 HB1
  obtain ⟨c0_0, c0_1, c0_2, c0_3, c0_4⟩ := row5 (b := w.heap.size) HB2.out.r0
  obtain ⟨c1_0, c1_1, c1_2, c1_3, c1_4⟩ := row5 (b := w.heap.size + 1) HB2.out.r1
  go_wp2_with fail
  exact bodyPost_ret (results_row_tmp Tryd.results72 _ _ _ _ _ (0, 0) _ rfl HB2.out.r1 Tryd.underlying33 rfl (by kernel_rfl)) rfl (⟨rfl, HB2.out.below⟩)
theorem waiting_on (a b c : Int) (d : Bool) (e : Int) (k : Int) (bl : Bool) (w : World) (hb : 0 ≤ b ∧ b ≤ 1000000) (hk : ¬ (k ≤ b + 1 ∧ bl = false)) :
    Calls Tryd.prog 72 #[.agg #[.int .i64 a, .int .i64 b, .int .i64 c, .bool d, .int .i64 e], .int .i64 k, .bool bl, .bool false] w fun ee w' => ee = .returned (.tuple #[.agg #[.int .i64 a, .int .i64 (Dr.more b), .int .i64 c, .bool d, .int .i64 e], .int .i64 0]) ∧ Below w.heap.size w w' := by
  have F := Lib.hid (fun wx => longer_any a b c d e wx hb)
  generalize Dr.more b = m at *
  by_cases h1 : k ≤ b + 1
  · obtain rfl : bl = true := by cases bl; exact absurd ⟨h1, rfl⟩ hk; rfl
    clear hk
    have HB0 := Lib.hid (bxs2 w (.cells #[.int .i64 a, .int .i64 b, .int .i64 c, .bool d, .int .i64 e] 33) (.cells #[.int .i64 0, .int .i64 0, .int .i64 0, .bool false, .int .i64 0] 33))
    go_enter Tryd.func72, Tryd.ntmps72
    go_wp2_with fail
    refine (F.out _).mono ?_
    rintro e w1 ⟨rfl, hb1⟩
    have HB1 := Lib.hid (HB0.out.next hb1)
    clear hb1 HB0
    obtain ⟨c0_0, c0_1, c0_2, c0_3, c0_4⟩ := row5 (b := w.heap.size) HB1.out.r0
    obtain ⟨c1_0, c1_1, c1_2, c1_3, c1_4⟩ := row5 (b := w.heap.size + 1) HB1.out.r1
    go_wp2_with (with_reducible show wpList _ _ _ (Oper.mk _ (.store 33 _ _) _ _ _ _ :: _) _ _; refine Hid.out ?_)
    refine Lib.hid ?_
    refine wpList_put rfl 33 _ _ rfl (w.heap.size + 1) #[.int .i64 a, .int .i64 m, .int .i64 c, .bool d, .int .i64 e] _ 33 rfl rfl HB1.out.r1 (by kernel_rfl) rfl (by kernel_rfl) ?_
    intro w2 hr2 hg2
    have HB2 : Hid (Bx w [(w.heap.size, .cells #[.int .i64 a, .int .i64 b, .int .i64 c, .bool d, .int .i64 e] 33 (0, 0)), (w.heap.size + 1, .cells #[.int .i64 a, .int .i64 m, .int .i64 c, .bool d, .int .i64 e] 33 (0, 0))] w2) := Lib.hid (HB1.out.put (by omega) hg2.out hr2.out (by simp only [List.mem_cons, List.not_mem_nil, or_false]; rintro p (rfl | rfl) <;> simp <;> omega))
    clear c0_0 c0_1 c0_2 c0_3 c0_4 c1_0 c1_1 c1_2 c1_3 c1_4 hr2 hg2 HB1
    obtain ⟨c0_0, c0_1, c0_2, c0_3, c0_4⟩ := row5 (b := w.heap.size) HB2.out.r0
    obtain ⟨c1_0, c1_1, c1_2, c1_3, c1_4⟩ := row5 (b := w.heap.size + 1) HB2.out.r1
    go_wp2_with fail
    exact bodyPost_ret (results_row_tmp Tryd.results72 _ _ _ _ _ (0, 0) _ rfl HB2.out.r1 Tryd.underlying33 rfl (by kernel_rfl)) rfl (⟨rfl, HB2.out.below⟩)
  · clear hk
    have HB0 := Lib.hid (bxs2 w (.cells #[.int .i64 a, .int .i64 b, .int .i64 c, .bool d, .int .i64 e] 33) (.cells #[.int .i64 0, .int .i64 0, .int .i64 0, .bool false, .int .i64 0] 33))
    go_enter Tryd.func72, Tryd.ntmps72
    go_wp2_with fail
    refine (F.out _).mono ?_
    rintro e w1 ⟨rfl, hb1⟩
    have HB1 := Lib.hid (HB0.out.next hb1)
    clear hb1 HB0
    obtain ⟨c0_0, c0_1, c0_2, c0_3, c0_4⟩ := row5 (b := w.heap.size) HB1.out.r0
    obtain ⟨c1_0, c1_1, c1_2, c1_3, c1_4⟩ := row5 (b := w.heap.size + 1) HB1.out.r1
    go_wp2_with (with_reducible show wpList _ _ _ (Oper.mk _ (.store 33 _ _) _ _ _ _ :: _) _ _; refine Hid.out ?_)
    refine Lib.hid ?_
    refine wpList_put rfl 33 _ _ rfl (w.heap.size + 1) #[.int .i64 a, .int .i64 m, .int .i64 c, .bool d, .int .i64 e] _ 33 rfl rfl HB1.out.r1 (by kernel_rfl) rfl (by kernel_rfl) ?_
    intro w2 hr2 hg2
    have HB2 : Hid (Bx w [(w.heap.size, .cells #[.int .i64 a, .int .i64 b, .int .i64 c, .bool d, .int .i64 e] 33 (0, 0)), (w.heap.size + 1, .cells #[.int .i64 a, .int .i64 m, .int .i64 c, .bool d, .int .i64 e] 33 (0, 0))] w2) := Lib.hid (HB1.out.put (by omega) hg2.out hr2.out (by simp only [List.mem_cons, List.not_mem_nil, or_false]; rintro p (rfl | rfl) <;> simp <;> omega))
    clear c0_0 c0_1 c0_2 c0_3 c0_4 c1_0 c1_1 c1_2 c1_3 c1_4 hr2 hg2 HB1
    obtain ⟨c0_0, c0_1, c0_2, c0_3, c0_4⟩ := row5 (b := w.heap.size) HB2.out.r0
    obtain ⟨c1_0, c1_1, c1_2, c1_3, c1_4⟩ := row5 (b := w.heap.size + 1) HB2.out.r1
    go_wp2_with fail
    exact bodyPost_ret (results_row_tmp Tryd.results72 _ _ _ _ _ (0, 0) _ rfl HB2.out.r1 Tryd.underlying33 rfl (by kernel_rfl)) rfl (⟨rfl, HB2.out.below⟩)
theorem shutting_shut (a b c : Int) (d : Bool) (e : Int) (bl l : Bool) (w : World) :
    Calls Tryd.prog 73 #[.agg #[.int .i64 a, .int .i64 b, .int .i64 c, .bool d, .int .i64 e], .int .i64 2, .bool bl, .bool l] w fun ee w' => ee = .returned (.tuple #[.agg #[.int .i64 0, .int .i64 0, .int .i64 0, .bool false, .int .i64 0], .int .i64 0]) ∧ Below w.heap.size w w' := by
  have HB0 := Lib.hid (bxs2 w (.cells #[.int .i64 a, .int .i64 b, .int .i64 c, .bool d, .int .i64 e] 33) (.cells #[.int .i64 0, .int .i64 0, .int .i64 0, .bool false, .int .i64 0] 33))
  go_enter Tryd.func73, Tryd.ntmps73
  go_wp2_with (with_reducible show wpList _ _ _ (Oper.mk _ (.store 33 _ _) _ _ _ _ :: _) _ _; refine Hid.out ?_)
  refine Lib.hid ?_
  refine wpList_put rfl 33 _ _ rfl (w.heap.size + 1) #[.int .i64 0, .int .i64 0, .int .i64 0, .bool false, .int .i64 0] _ 33 rfl rfl HB0.out.r1 (by kernel_rfl) rfl (by kernel_rfl) ?_
  intro w1 hr1 hg1
  have HB1 : Hid (Bx w [(w.heap.size, .cells #[.int .i64 a, .int .i64 b, .int .i64 c, .bool d, .int .i64 e] 33 (0, 0)), (w.heap.size + 1, .cells #[.int .i64 0, .int .i64 0, .int .i64 0, .bool false, .int .i64 0] 33 (0, 0))] w1) := Lib.hid (HB0.out.put (by omega) hg1.out hr1.out (by simp only [List.mem_cons, List.not_mem_nil, or_false]; rintro p (rfl | rfl) <;> simp <;> omega))
  clear hr1 hg1 HB0
  obtain ⟨c0_0, c0_1, c0_2, c0_3, c0_4⟩ := row5 (b := w.heap.size) HB1.out.r0
  obtain ⟨c1_0, c1_1, c1_2, c1_3, c1_4⟩ := row5 (b := w.heap.size + 1) HB1.out.r1
  go_wp2_with fail
  exact bodyPost_ret (results_row_tmp Tryd.results73 _ _ _ _ _ (0, 0) _ rfl HB1.out.r1 Tryd.underlying33 rfl (by kernel_rfl)) rfl (⟨rfl, HB1.out.below⟩)
theorem shutting_nudged (a b c e : Int) (k : Int) (bl : Bool) (w : World) (hb : 0 ≤ b ∧ b ≤ 1000000) (hk : ¬ k = 2) :
    Calls Tryd.prog 73 #[.agg #[.int .i64 a, .int .i64 b, .int .i64 c, .bool true, .int .i64 e], .int .i64 k, .bool bl, .bool true] w fun ee w' => ee = .returned (.tuple #[.agg #[.int .i64 a, .int .i64 (Dr.more b), .int .i64 c, .bool true, .int .i64 e], .int .i64 5]) ∧ Below w.heap.size w w' := by
  have F := Lib.hid (fun wx => longer_any a b c true e wx hb)
  generalize Dr.more b = m at *
  have HB0 := Lib.hid (bxs2 w (.cells #[.int .i64 a, .int .i64 b, .int .i64 c, .bool true, .int .i64 e] 33) (.cells #[.int .i64 0, .int .i64 0, .int .i64 0, .bool false, .int .i64 0] 33))
  go_enter Tryd.func73, Tryd.ntmps73
  go_wp2_with fail
  refine (F.out _).mono ?_
  rintro e w1 ⟨rfl, hb1⟩
  have HB1 := Lib.hid (HB0.out.next hb1)
  clear hb1 HB0
  obtain ⟨c0_0, c0_1, c0_2, c0_3, c0_4⟩ := row5 (b := w.heap.size) HB1.out.r0
  obtain ⟨c1_0, c1_1, c1_2, c1_3, c1_4⟩ := row5 (b := w.heap.size + 1) HB1.out.r1
  go_wp2_with (with_reducible show wpList _ _ _ (Oper.mk _ (.store 33 _ _) _ _ _ _ :: _) _ _; refine Hid.out ?_)
  refine Lib.hid ?_
  refine wpList_put rfl 33 _ _ rfl (w.heap.size + 1) #[.int .i64 a, .int .i64 m, .int .i64 c, .bool true, .int .i64 e] _ 33 rfl rfl HB1.out.r1 (by kernel_rfl) rfl (by kernel_rfl) ?_
  intro w2 hr2 hg2
  have HB2 : Hid (Bx w [(w.heap.size, .cells #[.int .i64 a, .int .i64 b, .int .i64 c, .bool true, .int .i64 e] 33 (0, 0)), (w.heap.size + 1, .cells #[.int .i64 a, .int .i64 m, .int .i64 c, .bool true, .int .i64 e] 33 (0, 0))] w2) := Lib.hid (HB1.out.put (by omega) hg2.out hr2.out (by simp only [List.mem_cons, List.not_mem_nil, or_false]; rintro p (rfl | rfl) <;> simp <;> omega))
  clear c0_0 c0_1 c0_2 c0_3 c0_4 c1_0 c1_1 c1_2 c1_3 c1_4 hr2 hg2 HB1
  obtain ⟨c0_0, c0_1, c0_2, c0_3, c0_4⟩ := row5 (b := w.heap.size) HB2.out.r0
  obtain ⟨c1_0, c1_1, c1_2, c1_3, c1_4⟩ := row5 (b := w.heap.size + 1) HB2.out.r1
  go_wp2_with fail
  exact bodyPost_ret (results_row_tmp Tryd.results73 _ _ _ _ _ (0, 0) _ rfl HB2.out.r1 Tryd.underlying33 rfl (by kernel_rfl)) rfl (⟨rfl, HB2.out.below⟩)
theorem shutting_late (a b c e : Int) (k : Int) (bl : Bool) (w : World) (hk : ¬ k = 2) :
    Calls Tryd.prog 73 #[.agg #[.int .i64 a, .int .i64 b, .int .i64 c, .bool false, .int .i64 e], .int .i64 k, .bool bl, .bool true] w fun ee w' => ee = .returned (.tuple #[.agg #[.int .i64 3, .int .i64 0, .int .i64 c, .bool true, .int .i64 e], .int .i64 5]) ∧ Below w.heap.size w w' := by
  have F := Lib.hid (fun wx => nudged_any a b c false e wx)
  have HB0 := Lib.hid (bxs2 w (.cells #[.int .i64 a, .int .i64 b, .int .i64 c, .bool false, .int .i64 e] 33) (.cells #[.int .i64 0, .int .i64 0, .int .i64 0, .bool false, .int .i64 0] 33))
  go_enter Tryd.func73, Tryd.ntmps73
  go_wp2_with fail
  refine (F.out _).mono ?_
  rintro e w1 ⟨rfl, hb1⟩
  have HB1 := Lib.hid (HB0.out.next hb1)
  clear hb1 HB0
  obtain ⟨c0_0, c0_1, c0_2, c0_3, c0_4⟩ := row5 (b := w.heap.size) HB1.out.r0
  obtain ⟨c1_0, c1_1, c1_2, c1_3, c1_4⟩ := row5 (b := w.heap.size + 1) HB1.out.r1
  go_wp2_with (with_reducible show wpList _ _ _ (Oper.mk _ (.store 33 _ _) _ _ _ _ :: _) _ _; refine Hid.out ?_)
  refine Lib.hid ?_
  refine wpList_put rfl 33 _ _ rfl (w.heap.size + 1) #[.int .i64 3, .int .i64 0, .int .i64 c, .bool true, .int .i64 e] _ 33 rfl rfl HB1.out.r1 (by kernel_rfl) rfl (by kernel_rfl) ?_
  intro w2 hr2 hg2
  have HB2 : Hid (Bx w [(w.heap.size, .cells #[.int .i64 a, .int .i64 b, .int .i64 c, .bool false, .int .i64 e] 33 (0, 0)), (w.heap.size + 1, .cells #[.int .i64 3, .int .i64 0, .int .i64 c, .bool true, .int .i64 e] 33 (0, 0))] w2) := Lib.hid (HB1.out.put (by omega) hg2.out hr2.out (by simp only [List.mem_cons, List.not_mem_nil, or_false]; rintro p (rfl | rfl) <;> simp <;> omega))
  clear c0_0 c0_1 c0_2 c0_3 c0_4 c1_0 c1_1 c1_2 c1_3 c1_4 hr2 hg2 HB1
  obtain ⟨c0_0, c0_1, c0_2, c0_3, c0_4⟩ := row5 (b := w.heap.size) HB2.out.r0
  obtain ⟨c1_0, c1_1, c1_2, c1_3, c1_4⟩ := row5 (b := w.heap.size + 1) HB2.out.r1
  go_wp2_with fail
  exact bodyPost_ret (results_row_tmp Tryd.results73 _ _ _ _ _ (0, 0) _ rfl HB2.out.r1 Tryd.underlying33 rfl (by kernel_rfl)) rfl (⟨rfl, HB2.out.below⟩)
theorem shutting_block (a b c : Int) (d : Bool) (e : Int) (k : Int) (w : World) (he : 0 ≤ e ∧ e ≤ 1000000) (hk : ¬ k = 2) :
    Calls Tryd.prog 73 #[.agg #[.int .i64 a, .int .i64 b, .int .i64 c, .bool d, .int .i64 e], .int .i64 k, .bool true, .bool false] w fun ee w' => ee = .returned (.tuple #[.agg #[.int .i64 1, .int .i64 0, .int .i64 c, .bool d, .int .i64 (Dr.more e)], .int .i64 3]) ∧ Below w.heap.size w w' := by
  have F := Lib.hid (fun wx => oneMore_any e wx he)
  generalize Dr.more e = m at *
  have FB := Lib.hid (fun wx => begin_any a b c d m 1 wx)
  have HB0 := Lib.hid (bxs2 w (.cells #[.int .i64 a, .int .i64 b, .int .i64 c, .bool d, .int .i64 e] 33) (.cells #[.int .i64 0, .int .i64 0, .int .i64 0, .bool false, .int .i64 0] 33))
  go_enter Tryd.func73, Tryd.ntmps73
  go_wp2_with fail
  refine (F.out _).mono ?_
  rintro e w1 ⟨rfl, hb1⟩
  have HB1 := Lib.hid (HB0.out.next hb1)
  clear hb1 HB0
  obtain ⟨c0_0, c0_1, c0_2, c0_3, c0_4⟩ := row5 (b := w.heap.size) HB1.out.r0
  obtain ⟨c1_0, c1_1, c1_2, c1_3, c1_4⟩ := row5 (b := w.heap.size + 1) HB1.out.r1
  go_wp2_with (with_reducible show wpList _ _ _ (Oper.mk _ (.store 3 _ _) _ _ _ _ :: _) _ _; refine Hid.out ?_)
  refine Lib.hid ?_
  refine wpList_putCell rfl 3 _ _ rfl (w.heap.size) 4 (.int .i64 m) _ _ 33 rfl rfl HB1.out.r0 (by kernel_rfl) (by simp) rfl rfl rfl ?_
  intro w2 hr2 hg2
  have HB2 : Hid (Bx w [(w.heap.size, .cells #[.int .i64 a, .int .i64 b, .int .i64 c, .bool d, .int .i64 m] 33 (0, 0)), (w.heap.size + 1, .cells #[.int .i64 0, .int .i64 0, .int .i64 0, .bool false, .int .i64 0] 33 (0, 0))] w2) := Lib.hid (HB1.out.put (by omega) hg2.out hr2.out (by simp only [List.mem_cons, List.not_mem_nil, or_false]; rintro p (rfl | rfl) <;> simp <;> omega))
  clear c0_0 c0_1 c0_2 c0_3 c0_4 c1_0 c1_1 c1_2 c1_3 c1_4 hr2 hg2 HB1
  obtain ⟨c0_0, c0_1, c0_2, c0_3, c0_4⟩ := row5 (b := w.heap.size) HB2.out.r0
  obtain ⟨c1_0, c1_1, c1_2, c1_3, c1_4⟩ := row5 (b := w.heap.size + 1) HB2.out.r1
  go_wp2_with fail
  refine (FB.out _).mono ?_
  rintro e w3 ⟨rfl, hb3⟩
  have HB3 := Lib.hid (HB2.out.next hb3)
  clear c0_0 c0_1 c0_2 c0_3 c0_4 c1_0 c1_1 c1_2 c1_3 c1_4 hb3 HB2
  obtain ⟨c0_0, c0_1, c0_2, c0_3, c0_4⟩ := row5 (b := w.heap.size) HB3.out.r0
  obtain ⟨c1_0, c1_1, c1_2, c1_3, c1_4⟩ := row5 (b := w.heap.size + 1) HB3.out.r1
  go_wp2_with (with_reducible show wpList _ _ _ (Oper.mk _ (.store 33 _ _) _ _ _ _ :: _) _ _; refine Hid.out ?_)
  refine Lib.hid ?_
  refine wpList_put rfl 33 _ _ rfl (w.heap.size + 1) #[.int .i64 1, .int .i64 0, .int .i64 c, .bool d, .int .i64 m] _ 33 rfl rfl HB3.out.r1 (by kernel_rfl) rfl (by kernel_rfl) ?_
  intro w4 hr4 hg4
  have HB4 : Hid (Bx w [(w.heap.size, .cells #[.int .i64 a, .int .i64 b, .int .i64 c, .bool d, .int .i64 m] 33 (0, 0)), (w.heap.size + 1, .cells #[.int .i64 1, .int .i64 0, .int .i64 c, .bool d, .int .i64 m] 33 (0, 0))] w4) := Lib.hid (HB3.out.put (by omega) hg4.out hr4.out (by simp only [List.mem_cons, List.not_mem_nil, or_false]; rintro p (rfl | rfl) <;> simp <;> omega))
  clear c0_0 c0_1 c0_2 c0_3 c0_4 c1_0 c1_1 c1_2 c1_3 c1_4 hr4 hg4 HB3
  obtain ⟨c0_0, c0_1, c0_2, c0_3, c0_4⟩ := row5 (b := w.heap.size) HB4.out.r0
  obtain ⟨c1_0, c1_1, c1_2, c1_3, c1_4⟩ := row5 (b := w.heap.size + 1) HB4.out.r1
  go_wp2_with fail
  exact bodyPost_ret (results_row_tmp Tryd.results73 _ _ _ _ _ (0, 0) _ rfl HB4.out.r1 Tryd.underlying33 rfl (by kernel_rfl)) rfl (⟨rfl, HB4.out.below⟩)
theorem shutting_on (a b c : Int) (d : Bool) (e : Int) (k : Int) (w : World) (hb : 0 ≤ b ∧ b ≤ 1000000) (hk : ¬ k = 2) :
    Calls Tryd.prog 73 #[.agg #[.int .i64 a, .int .i64 b, .int .i64 c, .bool d, .int .i64 e], .int .i64 k, .bool false, .bool false] w fun ee w' => ee = .returned (.tuple #[.agg #[.int .i64 a, .int .i64 (Dr.more b), .int .i64 c, .bool d, .int .i64 e], .int .i64 4]) ∧ Below w.heap.size w w' := by
  have F := Lib.hid (fun wx => longer_any a b c d e wx hb)
  generalize Dr.more b = m at *
  have HB0 := Lib.hid (bxs2 w (.cells #[.int .i64 a, .int .i64 b, .int .i64 c, .bool d, .int .i64 e] 33) (.cells #[.int .i64 0, .int .i64 0, .int .i64 0, .bool false, .int .i64 0] 33))
  go_enter Tryd.func73, Tryd.ntmps73
  go_wp2_with fail
  refine (F.out _).mono ?_
  rintro e w1 ⟨rfl, hb1⟩
  have HB1 := Lib.hid (HB0.out.next hb1)
  clear hb1 HB0
  obtain ⟨c0_0, c0_1, c0_2, c0_3, c0_4⟩ := row5 (b := w.heap.size) HB1.out.r0
  obtain ⟨c1_0, c1_1, c1_2, c1_3, c1_4⟩ := row5 (b := w.heap.size + 1) HB1.out.r1
  go_wp2_with (with_reducible show wpList _ _ _ (Oper.mk _ (.store 33 _ _) _ _ _ _ :: _) _ _; refine Hid.out ?_)
  refine Lib.hid ?_
  refine wpList_put rfl 33 _ _ rfl (w.heap.size + 1) #[.int .i64 a, .int .i64 m, .int .i64 c, .bool d, .int .i64 e] _ 33 rfl rfl HB1.out.r1 (by kernel_rfl) rfl (by kernel_rfl) ?_
  intro w2 hr2 hg2
  have HB2 : Hid (Bx w [(w.heap.size, .cells #[.int .i64 a, .int .i64 b, .int .i64 c, .bool d, .int .i64 e] 33 (0, 0)), (w.heap.size + 1, .cells #[.int .i64 a, .int .i64 m, .int .i64 c, .bool d, .int .i64 e] 33 (0, 0))] w2) := Lib.hid (HB1.out.put (by omega) hg2.out hr2.out (by simp only [List.mem_cons, List.not_mem_nil, or_false]; rintro p (rfl | rfl) <;> simp <;> omega))
  clear c0_0 c0_1 c0_2 c0_3 c0_4 c1_0 c1_1 c1_2 c1_3 c1_4 hr2 hg2 HB1
  obtain ⟨c0_0, c0_1, c0_2, c0_3, c0_4⟩ := row5 (b := w.heap.size) HB2.out.r0
  obtain ⟨c1_0, c1_1, c1_2, c1_3, c1_4⟩ := row5 (b := w.heap.size + 1) HB2.out.r1
  go_wp2_with fail
  exact bodyPost_ret (results_row_tmp Tryd.results73 _ _ _ _ _ (0, 0) _ rfl HB2.out.r1 Tryd.underlying33 rfl (by kernel_rfl)) rfl (⟨rfl, HB2.out.below⟩)
end Go.Proofs.YtnjcegkefjdgdaaDoor
