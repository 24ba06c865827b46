/- The reference's functions of stage 13. No statement of the seat is proved here. -/
import Derived.Test.YtcbmpcnanknncaaDoorMoEq
import Derived.Test.YtcbmpcnanknncaaDoorBxn
namespace Go.Proofs.YtcbmpcnanknncaaDoor
open Go.RowKit

set_option maxHeartbeats 2000000 in
theorem refFloor_any (F n : Int) (w : World) :
    Calls Tryd.prog 21 #[.int .i64 F, .int .i64 n] w fun ee w' => ee = .returned (.bool (Mo.isF F n)) ∧ Below w.heap.size w w' := by
  unfold Mo.isF
  by_cases h1 : 0 ≤ n
  all_goals
    by_cases h2 : n < F
    all_goals
      first
        | rw [decide_eq_true h1]
        | rw [decide_eq_false h1]
      first
        | rw [decide_eq_true h2]
        | rw [decide_eq_false h2]
      go_enter Tryd.func21, Tryd.ntmps21
      go_wp2
      go_ret
      exact ⟨rfl, by go_grown⟩
set_option maxHeartbeats 2000000 in
theorem refTarget_any (a b c : Int) (w : World) (hc : 0 ≤ c ∧ c ≤ 1000000) :
    Calls Tryd.prog 22 #[.agg #[.int .i64 a, .int .i64 b, .int .i64 c]] w fun ee w' => ee = .returned (.int .i64 (Mo.tgt ⟨a, b, c⟩)) ∧ Below w.heap.size w w' := by
  by_cases h1 : a = 1
  · subst h1
    rw [show Mo.tgt ⟨1, b, c⟩ = c + 1 from rfl]
    have hw : IntKind.i64.wrap (c + 1) = c + 1 := by rw [IntKind.wrap_i64]; omega
    go_enter Tryd.func22, Tryd.ntmps22
    go_wp2_with fail
    go_ret
    exact ⟨rfl, by go_grown⟩
  · rw [show Mo.tgt ⟨a, b, c⟩ = c - 1 from if_neg h1]
    have hw : IntKind.i64.wrap (c - 1) = c - 1 := by rw [IntKind.wrap_i64]; omega
    go_enter Tryd.func22, Tryd.ntmps22
    go_wp2_with fail
    go_ret
    exact ⟨rfl, by go_grown⟩
set_option maxHeartbeats 4000000 in
theorem refMoState_any (F a b c : Int) (w : World) :
    Calls Tryd.prog 14 #[.int .i64 F, .agg #[.int .i64 a, .int .i64 b, .int .i64 c]] w fun ee w' => ee = .returned (.bool (Mo.isB F ⟨a, b, c⟩)) ∧ Below w.heap.size w w' := by
  by_cases g1 : F < 2
  · rw [Mo.isB_bad (.inl g1)]
    go_enter Tryd.func14, Tryd.ntmps14
    go_wp2_with fail
    go_ret
    exact ⟨rfl, by go_grown⟩
  · by_cases g2 : 32 < F
    · rw [Mo.isB_bad (.inr (.inl g2))]
      have g5 : decide (F > 32) = true := decide_eq_true g2
      go_enter Tryd.func14, Tryd.ntmps14
      go_wp2_with fail
      go_ret
      exact ⟨rfl, by go_grown⟩
    · have g5 : decide (F > 32) = false := decide_eq_false g2
      by_cases g3 : b < 0
      · rw [Mo.isB_bad (.inr (.inr (.inl g3)))]
        go_enter Tryd.func14, Tryd.ntmps14
        go_wp2_with fail
        go_ret
        exact ⟨rfl, by go_grown⟩
      · by_cases g4 : 1000000 < b
        · rw [Mo.isB_bad (.inr (.inr (.inr g4)))]
          have g6 : decide (b > 1000000) = true := decide_eq_true g4
          go_enter Tryd.func14, Tryd.ntmps14
          go_wp2_with fail
          go_ret
          exact ⟨rfl, by go_grown⟩
        · have g6 : decide (b > 1000000) = false := decide_eq_false g4
          rw [Mo.isB_c (by omega) (by omega)]
          by_cases h0 : a = 0
          · subst h0
            rw [if_pos rfl]
            go_enter Tryd.func14, Tryd.ntmps14
            go_wp2_with fail
            go_ret
            exact ⟨rfl, by go_grown⟩
          · rw [if_neg h0]
            by_cases h12 : a = 1 ∨ a = 2
            · rw [if_pos h12]
              have F1 := Lib.hid (fun wx => refFloor_any F c wx)
              have F2 := Lib.hid (fun t wx => refFloor_any F t wx)
              have FT := Lib.hid (fun wx h => refTarget_any a b c wx h)
              cases hf : Mo.isF F c
              · rw [hf] at F1
                clear hf FT
                rcases h12 with rfl | rfl
                · have HZ := Lib.hid True.intro
                  have HB0 := Lib.hid (bxs1 w (.cells #[.int .i64 1, .int .i64 b, .int .i64 c] 23))
                  go_enter Tryd.func14, Tryd.ntmps14
                  go_wp2_with fail
                  refine (F1.out _).mono ?_
                  rintro e w1 ⟨rfl, hb1⟩
                  have HB1 := Lib.hid (HB0.out.next hb1)
                  clear hb1 HB0
                  have c0_0 : w1.cell? ⟨w.heap.size, 0, none⟩ = some (.int .i64 1) := cell_of_row _ _ _ _ _ (0, 0) HB1.out.r0
                  have c0_1 : w1.cell? ⟨w.heap.size, 1, none⟩ = some (.int .i64 b) := cell_of_row _ _ _ _ _ (0, 0) HB1.out.r0
                  have c0_2 : w1.cell? ⟨w.heap.size, 2, none⟩ = some (.int .i64 c) := cell_of_row _ _ _ _ _ (0, 0) HB1.out.r0
                  go_wp2_with fail
                  go_ret
                  exact ⟨by simp, HB1.out.below⟩
                · have HZ := Lib.hid True.intro
                  have HB0 := Lib.hid (bxs1 w (.cells #[.int .i64 2, .int .i64 b, .int .i64 c] 23))
                  go_enter Tryd.func14, Tryd.ntmps14
                  go_wp2_with fail
                  refine (F1.out _).mono ?_
                  rintro e w1 ⟨rfl, hb1⟩
                  have HB1 := Lib.hid (HB0.out.next hb1)
                  clear hb1 HB0
                  have c0_0 : w1.cell? ⟨w.heap.size, 0, none⟩ = some (.int .i64 2) := cell_of_row _ _ _ _ _ (0, 0) HB1.out.r0
                  have c0_1 : w1.cell? ⟨w.heap.size, 1, none⟩ = some (.int .i64 b) := cell_of_row _ _ _ _ _ (0, 0) HB1.out.r0
                  have c0_2 : w1.cell? ⟨w.heap.size, 2, none⟩ = some (.int .i64 c) := cell_of_row _ _ _ _ _ (0, 0) HB1.out.r0
                  go_wp2_with fail
                  go_ret
                  exact ⟨by simp, HB1.out.below⟩
              · rw [hf] at F1
                have hcr := Mo.isF_iff.1 hf
                have FT1 := Lib.hid (fun wx => FT.out wx (by omega))
                clear hf FT
                rcases h12 with rfl | rfl
                · have HZ := Lib.hid True.intro
                  generalize Mo.tgt ⟨1, b, c⟩ = tg at *
                  have HB0 := Lib.hid (bxs1 w (.cells #[.int .i64 1, .int .i64 b, .int .i64 c] 23))
                  go_enter Tryd.func14, Tryd.ntmps14
                  go_wp2_with fail
                  refine (F1.out _).mono ?_
                  rintro e w1 ⟨rfl, hb1⟩
                  have HB1 := Lib.hid (HB0.out.next hb1)
                  clear hb1 HB0
                  have c0_0 : w1.cell? ⟨w.heap.size, 0, none⟩ = some (.int .i64 1) := cell_of_row _ _ _ _ _ (0, 0) HB1.out.r0
                  have c0_1 : w1.cell? ⟨w.heap.size, 1, none⟩ = some (.int .i64 b) := cell_of_row _ _ _ _ _ (0, 0) HB1.out.r0
                  have c0_2 : w1.cell? ⟨w.heap.size, 2, none⟩ = some (.int .i64 c) := cell_of_row _ _ _ _ _ (0, 0) HB1.out.r0
                  go_wp2_with fail
                  refine (FT1.out _).mono ?_
                  rintro e w2 ⟨rfl, hb2⟩
                  have HB2 := Lib.hid (HB1.out.next hb2)
                  clear c0_0 c0_1 c0_2 hb2 HB1
                  have c0_0 : w2.cell? ⟨w.heap.size, 0, none⟩ = some (.int .i64 1) := cell_of_row _ _ _ _ _ (0, 0) HB2.out.r0
                  have c0_1 : w2.cell? ⟨w.heap.size, 1, none⟩ = some (.int .i64 b) := cell_of_row _ _ _ _ _ (0, 0) HB2.out.r0
                  have c0_2 : w2.cell? ⟨w.heap.size, 2, none⟩ = some (.int .i64 c) := cell_of_row _ _ _ _ _ (0, 0) HB2.out.r0
                  go_wp2_with fail
                  refine (F2.out tg _).mono ?_
                  rintro e w3 ⟨rfl, hb3⟩
                  have HB3 := Lib.hid (HB2.out.next hb3)
                  clear c0_0 c0_1 c0_2 hb3 HB2
                  go_wp2_with fail
                  go_ret
                  exact ⟨by simp, HB3.out.below⟩
                · have HZ := Lib.hid True.intro
                  generalize Mo.tgt ⟨2, b, c⟩ = tg at *
                  have HB0 := Lib.hid (bxs1 w (.cells #[.int .i64 2, .int .i64 b, .int .i64 c] 23))
                  go_enter Tryd.func14, Tryd.ntmps14
                  go_wp2_with fail
                  refine (F1.out _).mono ?_
                  rintro e w1 ⟨rfl, hb1⟩
                  have HB1 := Lib.hid (HB0.out.next hb1)
                  clear hb1 HB0
                  have c0_0 : w1.cell? ⟨w.heap.size, 0, none⟩ = some (.int .i64 2) := cell_of_row _ _ _ _ _ (0, 0) HB1.out.r0
                  have c0_1 : w1.cell? ⟨w.heap.size, 1, none⟩ = some (.int .i64 b) := cell_of_row _ _ _ _ _ (0, 0) HB1.out.r0
                  have c0_2 : w1.cell? ⟨w.heap.size, 2, none⟩ = some (.int .i64 c) := cell_of_row _ _ _ _ _ (0, 0) HB1.out.r0
                  go_wp2_with fail
                  refine (FT1.out _).mono ?_
                  rintro e w2 ⟨rfl, hb2⟩
                  have HB2 := Lib.hid (HB1.out.next hb2)
                  clear c0_0 c0_1 c0_2 hb2 HB1
                  have c0_0 : w2.cell? ⟨w.heap.size, 0, none⟩ = some (.int .i64 2) := cell_of_row _ _ _ _ _ (0, 0) HB2.out.r0
                  have c0_1 : w2.cell? ⟨w.heap.size, 1, none⟩ = some (.int .i64 b) := cell_of_row _ _ _ _ _ (0, 0) HB2.out.r0
                  have c0_2 : w2.cell? ⟨w.heap.size, 2, none⟩ = some (.int .i64 c) := cell_of_row _ _ _ _ _ (0, 0) HB2.out.r0
                  go_wp2_with fail
                  refine (F2.out tg _).mono ?_
                  rintro e w3 ⟨rfl, hb3⟩
                  have HB3 := Lib.hid (HB2.out.next hb3)
                  clear c0_0 c0_1 c0_2 hb3 HB2
                  go_wp2_with fail
                  go_ret
                  exact ⟨by simp, HB3.out.below⟩
            · rw [if_neg h12]
              have h1 : ¬ a = 1 := fun h => h12 (.inl h)
              have h2 : ¬ a = 2 := fun h => h12 (.inr h)
              go_enter Tryd.func14, Tryd.ntmps14
              go_wp2_with fail
              go_ret
              exact ⟨rfl, by go_grown⟩
set_option maxHeartbeats 2000000 in
theorem refLater_any (a b c : Int) (w : World) :
    Calls Tryd.prog 23 #[.agg #[.int .i64 a, .int .i64 b, .int .i64 c]] w fun ee w' => ee = .returned ((Mo.later ⟨a, b, c⟩).agg) ∧ Below w.heap.size w w' := by
  by_cases h1 : 0 ≤ b
  · by_cases h2 : b < 1000000
    · rw [show Mo.later ⟨a, b, c⟩ = ⟨a, b + 1, c⟩ from if_pos ⟨h1, h2⟩]
      have hw : IntKind.i64.wrap (b + 1) = b + 1 := by rw [IntKind.wrap_i64]; omega
      have HB0 := Lib.hid (bxs2 w (.cells #[.int .i64 a, .int .i64 b, .int .i64 c] 23) (.cells #[.int .i64 0, .int .i64 0, .int .i64 0] 23))
      go_enter Tryd.func23, Tryd.ntmps23
      go_wp2_with (with_reducible show wpList _ _ _ (Oper.mk _ (.store 3 _ _) _ _ _ _ :: _) _ _; refine Hid.out ?_)
      refine Lib.hid ?_
      refine wpList_putCell rfl 3 _ _ rfl (w.heap.size) 1 (.int .i64 (b + 1)) _ _ 23 rfl rfl HB0.out.r0 (by kernel_rfl) (by simp) rfl rfl rfl ?_
      intro w1 hr1 hg1
      have HB1 : Hid (Bx w [(w.heap.size, .cells #[.int .i64 a, .int .i64 (b + 1), .int .i64 c] 23 (0, 0)), (w.heap.size + 1, .cells #[.int .i64 0, .int .i64 0, .int .i64 0] 23 (0, 0))] w1) := Lib.hid (HB0.out.put (by omega) hg1.out hr1.out (by simp only [List.mem_cons, List.not_mem_nil, or_false]; rintro p (rfl | rfl) <;> simp <;> omega))
      clear hr1 hg1 HB0
      have c0_0 : w1.cell? ⟨w.heap.size, 0, none⟩ = some (.int .i64 a) := cell_of_row _ _ _ _ _ (0, 0) HB1.out.r0
      have c0_1 : w1.cell? ⟨w.heap.size, 1, none⟩ = some (.int .i64 (b + 1)) := cell_of_row _ _ _ _ _ (0, 0) HB1.out.r0
      have c0_2 : w1.cell? ⟨w.heap.size, 2, none⟩ = some (.int .i64 c) := cell_of_row _ _ _ _ _ (0, 0) HB1.out.r0
      have c1_0 : w1.cell? ⟨w.heap.size + 1, 0, none⟩ = some (.int .i64 0) := cell_of_row _ _ _ _ _ (0, 0) HB1.out.r1
      have c1_1 : w1.cell? ⟨w.heap.size + 1, 1, none⟩ = some (.int .i64 0) := cell_of_row _ _ _ _ _ (0, 0) HB1.out.r1
      have c1_2 : w1.cell? ⟨w.heap.size + 1, 2, none⟩ = some (.int .i64 0) := cell_of_row _ _ _ _ _ (0, 0) HB1.out.r1
      go_wp2_with (with_reducible show wpList _ _ _ (Oper.mk _ (.store 23 _ _) _ _ _ _ :: _) _ _; refine Hid.out ?_)
      refine Lib.hid ?_
      refine wpList_put rfl 23 _ _ rfl (w.heap.size + 1) #[.int .i64 a, .int .i64 (b + 1), .int .i64 c] _ 23 rfl rfl HB1.out.r1 (by kernel_rfl) rfl (by kernel_rfl) ?_
      intro w2 hr2 hg2
      have HB2 : Hid (Bx w [(w.heap.size, .cells #[.int .i64 a, .int .i64 (b + 1), .int .i64 c] 23 (0, 0)), (w.heap.size + 1, .cells #[.int .i64 a, .int .i64 (b + 1), .int .i64 c] 23 (0, 0))] w2) := Lib.hid (HB1.out.put (by omega) hg2.out hr2.out (by simp only [List.mem_cons, List.not_mem_nil, or_false]; rintro p (rfl | rfl) <;> simp <;> omega))
      clear c0_0 c0_1 c0_2 c1_0 c1_1 c1_2 hr2 hg2 HB1
      go_wp2_with fail
      exact bodyPost_ret (results_cell_row Tryd.results23 _ _ _ _ _ (0, 0) _ rfl (HB2.out.r1) Tryd.underlying23 rfl (by kernel_rfl)) rfl (⟨rfl, HB2.out.below⟩)
    · rw [show Mo.later ⟨a, b, c⟩ = ⟨a, b, c⟩ from if_neg (fun h => h2 h.2)]
      have HB0 := Lib.hid (bxs2 w (.cells #[.int .i64 a, .int .i64 b, .int .i64 c] 23) (.cells #[.int .i64 0, .int .i64 0, .int .i64 0] 23))
      go_enter Tryd.func23, Tryd.ntmps23
      go_wp2_with (with_reducible show wpList _ _ _ (Oper.mk _ (.store 23 _ _) _ _ _ _ :: _) _ _; refine Hid.out ?_)
      refine Lib.hid ?_
      refine wpList_put rfl 23 _ _ rfl (w.heap.size + 1) #[.int .i64 a, .int .i64 b, .int .i64 c] _ 23 rfl rfl HB0.out.r1 (by kernel_rfl) rfl (by kernel_rfl) ?_
      intro w1 hr1 hg1
      have HB1 : Hid (Bx w [(w.heap.size, .cells #[.int .i64 a, .int .i64 b, .int .i64 c] 23 (0, 0)), (w.heap.size + 1, .cells #[.int .i64 a, .int .i64 b, .int .i64 c] 23 (0, 0))] w1) := Lib.hid (HB0.out.put (by omega) hg1.out hr1.out (by simp only [List.mem_cons, List.not_mem_nil, or_false]; rintro p (rfl | rfl) <;> simp <;> omega))
      clear hr1 hg1 HB0
      go_wp2_with fail
      exact bodyPost_ret (results_cell_row Tryd.results23 _ _ _ _ _ (0, 0) _ rfl (HB1.out.r1) Tryd.underlying23 rfl (by kernel_rfl)) rfl (⟨rfl, HB1.out.below⟩)
  · rw [show Mo.later ⟨a, b, c⟩ = ⟨a, b, c⟩ from if_neg (fun h => h1 h.1)]
    have hB : decide (b ≥ 0) = false := decide_eq_false h1
    have HB0 := Lib.hid (bxs2 w (.cells #[.int .i64 a, .int .i64 b, .int .i64 c] 23) (.cells #[.int .i64 0, .int .i64 0, .int .i64 0] 23))
    go_enter Tryd.func23, Tryd.ntmps23
    go_wp2_with (with_reducible show wpList _ _ _ (Oper.mk _ (.store 23 _ _) _ _ _ _ :: _) _ _; refine Hid.out ?_)
    refine Lib.hid ?_
    refine wpList_put rfl 23 _ _ rfl (w.heap.size + 1) #[.int .i64 a, .int .i64 b, .int .i64 c] _ 23 rfl rfl HB0.out.r1 (by kernel_rfl) rfl (by kernel_rfl) ?_
    intro w1 hr1 hg1
    have HB1 : Hid (Bx w [(w.heap.size, .cells #[.int .i64 a, .int .i64 b, .int .i64 c] 23 (0, 0)), (w.heap.size + 1, .cells #[.int .i64 a, .int .i64 b, .int .i64 c] 23 (0, 0))] w1) := Lib.hid (HB0.out.put (by omega) hg1.out hr1.out (by simp only [List.mem_cons, List.not_mem_nil, or_false]; rintro p (rfl | rfl) <;> simp <;> omega))
    clear hr1 hg1 HB0
    go_wp2_with fail
    exact bodyPost_ret (results_cell_row Tryd.results23 _ _ _ _ _ (0, 0) _ rfl (HB1.out.r1) Tryd.underlying23 rfl (by kernel_rfl)) rfl (⟨rfl, HB1.out.below⟩)
set_option maxHeartbeats 2000000 in
theorem refMoLate_any (t0 t1 t2 t3 t4 t5 t6 t7 t8 a b c : Int) (w : World) :
    Calls Tryd.prog 16 #[.agg #[.int .i64 t0, .int .i64 t1, .int .i64 t2, .int .i64 t3, .int .i64 t4, .int .i64 t5, .int .i64 t6, .int .i64 t7, .int .i64 t8], .agg #[.int .i64 a, .int .i64 b, .int .i64 c]] w fun ee w' => ee = .returned (.bool (Mo.late t4 ⟨a, b, c⟩)) ∧ Below w.heap.size w w' := by
  rw [show Mo.late t4 ⟨a, b, c⟩ = decide (t4 < b) from rfl]
  go_enter Tryd.func16, Tryd.ntmps16
  go_wp2_with fail
  go_ret
  exact ⟨rfl, by go_grown⟩
set_option maxHeartbeats 2000000 in
theorem refMoSkip_any (a b c : Int) (w : World) :
    Calls Tryd.prog 15 #[.agg #[.int .i64 a, .int .i64 b, .int .i64 c]] w fun ee w' => ee = .returned ((Mo.skipF ⟨a, b, c⟩).agg) ∧ Below w.heap.size w w' := by
  have FL := Lib.hid (fun wx => refLater_any a b c wx)
  by_cases h0 : a = 0
  · by_cases h1 : b = 0
    · rw [show Mo.skipF ⟨a, b, c⟩ = ⟨a, b, c⟩ from if_neg (fun h => h.elim (fun h => h h0) (fun h => h h1))]
      subst h0 h1
      have HB0 := Lib.hid (bxs2 w (.cells #[.int .i64 0, .int .i64 0, .int .i64 c] 23) (.cells #[.int .i64 0, .int .i64 0, .int .i64 0] 23))
      go_enter Tryd.func15, Tryd.ntmps15
      go_wp2_with (with_reducible show wpList _ _ _ (Oper.mk _ (.store 23 _ _) _ _ _ _ :: _) _ _; refine Hid.out ?_)
      refine Lib.hid ?_
      refine wpList_put rfl 23 _ _ rfl (w.heap.size + 1) #[.int .i64 0, .int .i64 0, .int .i64 c] _ 23 rfl rfl HB0.out.r1 (by kernel_rfl) rfl (by kernel_rfl) ?_
      intro w1 hr1 hg1
      have HB1 : Hid (Bx w [(w.heap.size, .cells #[.int .i64 0, .int .i64 0, .int .i64 c] 23 (0, 0)), (w.heap.size + 1, .cells #[.int .i64 0, .int .i64 0, .int .i64 c] 23 (0, 0))] w1) := Lib.hid (HB0.out.put (by omega) hg1.out hr1.out (by simp only [List.mem_cons, List.not_mem_nil, or_false]; rintro p (rfl | rfl) <;> simp <;> omega))
      clear hr1 hg1 HB0
      go_wp2_with fail
      exact bodyPost_ret (results_cell_row Tryd.results15 _ _ _ _ _ (0, 0) _ rfl (HB1.out.r1) Tryd.underlying23 rfl (by kernel_rfl)) rfl (⟨rfl, HB1.out.below⟩)
    · rw [show Mo.skipF ⟨a, b, c⟩ = Mo.later ⟨a, b, c⟩ from if_pos (.inr h1)]
      subst h0
      generalize Mo.later ⟨0, b, c⟩ = l at *
      obtain ⟨l1, l2, l3⟩ := l
      simp only [Mo.agg] at FL
      have HB0 := Lib.hid (bxs2 w (.cells #[.int .i64 0, .int .i64 b, .int .i64 c] 23) (.cells #[.int .i64 0, .int .i64 0, .int .i64 0] 23))
      go_enter Tryd.func15, Tryd.ntmps15
      go_wp2_with fail
      refine (FL.out _).mono ?_
      rintro e w1 ⟨rfl, hb1⟩
      have HB1 := Lib.hid (HB0.out.next hb1)
      clear hb1 HB0
      go_wp2_with (with_reducible show wpList _ _ _ (Oper.mk _ (.store 23 _ _) _ _ _ _ :: _) _ _; refine Hid.out ?_)
      refine Lib.hid ?_
      refine wpList_put rfl 23 _ _ rfl (w.heap.size + 1) #[.int .i64 l1, .int .i64 l2, .int .i64 l3] _ 23 rfl rfl HB1.out.r1 (by kernel_rfl) rfl (by kernel_rfl) ?_
      intro w2 hr2 hg2
      have HB2 : Hid (Bx w [(w.heap.size, .cells #[.int .i64 0, .int .i64 b, .int .i64 c] 23 (0, 0)), (w.heap.size + 1, .cells #[.int .i64 l1, .int .i64 l2, .int .i64 l3] 23 (0, 0))] w2) := Lib.hid (HB1.out.put (by omega) hg2.out hr2.out (by simp only [List.mem_cons, List.not_mem_nil, or_false]; rintro p (rfl | rfl) <;> simp <;> omega))
      clear hr2 hg2 HB1
      go_wp2_with fail
      exact bodyPost_ret (results_cell_row Tryd.results15 _ _ _ _ _ (0, 0) _ rfl (HB2.out.r1) Tryd.underlying23 rfl (by kernel_rfl)) rfl (⟨rfl, HB2.out.below⟩)
  · rw [show Mo.skipF ⟨a, b, c⟩ = Mo.later ⟨a, b, c⟩ from if_pos (.inl h0)]
    generalize Mo.later ⟨a, b, c⟩ = l at *
    obtain ⟨l1, l2, l3⟩ := l
    simp only [Mo.agg] at FL
    have HB0 := Lib.hid (bxs2 w (.cells #[.int .i64 a, .int .i64 b, .int .i64 c] 23) (.cells #[.int .i64 0, .int .i64 0, .int .i64 0] 23))
    go_enter Tryd.func15, Tryd.ntmps15
    go_wp2_with fail
    refine (FL.out _).mono ?_
    rintro e w1 ⟨rfl, hb1⟩
    have HB1 := Lib.hid (HB0.out.next hb1)
    clear hb1 HB0
    go_wp2_with (with_reducible show wpList _ _ _ (Oper.mk _ (.store 23 _ _) _ _ _ _ :: _) _ _; refine Hid.out ?_)
    refine Lib.hid ?_
    refine wpList_put rfl 23 _ _ rfl (w.heap.size + 1) #[.int .i64 l1, .int .i64 l2, .int .i64 l3] _ 23 rfl rfl HB1.out.r1 (by kernel_rfl) rfl (by kernel_rfl) ?_
    intro w2 hr2 hg2
    have HB2 : Hid (Bx w [(w.heap.size, .cells #[.int .i64 a, .int .i64 b, .int .i64 c] 23 (0, 0)), (w.heap.size + 1, .cells #[.int .i64 l1, .int .i64 l2, .int .i64 l3] 23 (0, 0))] w2) := Lib.hid (HB1.out.put (by omega) hg2.out hr2.out (by simp only [List.mem_cons, List.not_mem_nil, or_false]; rintro p (rfl | rfl) <;> simp <;> omega))
    clear hr2 hg2 HB1
    go_wp2_with fail
    exact bodyPost_ret (results_cell_row Tryd.results15 _ _ _ _ _ (0, 0) _ rfl (HB2.out.r1) Tryd.underlying23 rfl (by kernel_rfl)) rfl (⟨rfl, HB2.out.below⟩)
end Go.Proofs.YtcbmpcnanknncaaDoor
