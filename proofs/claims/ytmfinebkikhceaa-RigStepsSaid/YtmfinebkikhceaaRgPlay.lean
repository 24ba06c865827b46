/- The played drive, for anything: in, New, Report, arrived, IsState. No statement of the seat is proved here. -/
import Derived.Test.YtmfinebkikhceaaRgM
import Derived.Test.YtmfinebkikhceaaBxm
namespace Go.Proofs.Ytmfinebkikhceaa
open Go.RowKit
set_option maxRecDepth 4000
set_option linter.unusedSimpArgs false
set_option linter.unusedVariables false

set_option maxHeartbeats 4000000 in
theorem playIn_any (n lo hi : Int) (w : World) :
    Calls Try.prog 29 #[.int .i64 n, .int .i64 lo, .int .i64 hi] w fun ee w' => ee = .returned (.bool (Nc.wi lo hi n)) ∧ Below w.heap.size w w' := by
  unfold Nc.wi
  by_cases h1 : lo ≤ n
  all_goals
    by_cases h2 : n ≤ hi
    all_goals
      first
        | rw [decide_eq_true h1]
        | rw [decide_eq_false h1]
      first
        | rw [decide_eq_true h2]
        | rw [decide_eq_false h2]
      go_enter Try.func29, Try.ntmps29
      go_wp2
      go_ret
      exact ⟨rfl, by go_grown⟩
set_option maxHeartbeats 4000000 in
theorem playNew_any (n : Int) (w : World) :
    Calls Try.prog 16 #[.int .i64 n] w fun ee w' => ee = .returned ((Rg.new n).agg) ∧ Below w.heap.size w w' := by
  rw [show (Rg.new n).agg = .agg #[.int .i64 n, .int .i64 n, .int .i64 0, .int .i64 2, .int .i64 0, .int .i64 0] from rfl]
  have HB0 := Lib.hid (bxs1 w (.cells #[.int .i64 0, .int .i64 0, .int .i64 0, .int .i64 0, .int .i64 0, .int .i64 0] 23))
  go_enter Try.func16, Try.ntmps16
  go_wp2_with (with_reducible show wpList _ _ _ (Oper.mk _ (.store 23 _ _) _ _ _ _ :: _) _ _; refine Hid.out ?_)
  refine Lib.hid ?_
  refine wpList_put rfl 23 _ _ rfl (w.heap.size) #[.int .i64 n, .int .i64 n, .int .i64 0, .int .i64 2, .int .i64 0, .int .i64 0] _ 23 rfl rfl HB0.out.r0 (by kernel_rfl) rfl (by kernel_rfl) ?_
  intro w1 hr1 hg1
  have HB1 : Hid (Bx w [(w.heap.size, .cells #[.int .i64 n, .int .i64 n, .int .i64 0, .int .i64 2, .int .i64 0, .int .i64 0] 23 (0, 0))] w1) := Lib.hid (HB0.out.put (by omega) hg1.out hr1.out (by simp only [List.mem_cons, List.not_mem_nil, or_false]; rintro p rfl <;> simp <;> omega))
  clear hr1 hg1 HB0
  go_wp2_with fail
  exact bodyPost_ret (results_cell_row Try.results16 _ _ _ _ _ (0, 0) _ rfl (HB1.out.r0) Try.underlying23 rfl (by kernel_rfl)) rfl (⟨rfl, HB1.out.below⟩)
set_option maxHeartbeats 4000000 in
theorem playReport_any (r : Rg) (bl : Bool) (w : World) :
    Calls Try.prog 22 #[r.agg, .bool bl] w fun ee w' => ee = .returned ((Rg.report r bl).agg) ∧ Below w.heap.size w w' := by
  obtain ⟨fl, tg, lf, dd, am, tk⟩ := r
  rw [show (Rg.report ⟨fl, tg, lf, dd, am, tk⟩ bl).agg = .agg #[.int .i64 fl, .bool (lf == 0), .int .i64 dd, .bool bl] from rfl]
  simp only [Rg.agg]
  generalize hq : (lf == 0) = q at *
  have HB0 := Lib.hid (bxs2 w (.cells #[.int .i64 fl, .int .i64 tg, .int .i64 lf, .int .i64 dd, .int .i64 am, .int .i64 tk] 23) (.cells #[.int .i64 0, .bool false, .int .i64 0, .bool false] 32))
  go_enter Try.func22, Try.ntmps22
  go_wp2_with (with_reducible show wpList _ _ _ (Oper.mk _ (.store 32 _ _) _ _ _ _ :: _) _ _; refine Hid.out ?_)
  refine Lib.hid ?_
  refine wpList_put rfl 32 _ _ rfl (w.heap.size + 1) #[.int .i64 fl, .bool q, .int .i64 dd, .bool bl] _ 32 rfl rfl HB0.out.r1 (by kernel_rfl) rfl (by kernel_rfl) ?_
  intro w1 hr1 hg1
  have HB1 : Hid (Bx w [(w.heap.size, .cells #[.int .i64 fl, .int .i64 tg, .int .i64 lf, .int .i64 dd, .int .i64 am, .int .i64 tk] 23 (0, 0)), (w.heap.size + 1, .cells #[.int .i64 fl, .bool q, .int .i64 dd, .bool bl] 32 (0, 0))] w1) := Lib.hid (HB0.out.put (by omega) hg1.out hr1.out (by simp only [List.mem_cons, List.not_mem_nil, or_false]; rintro p (rfl | rfl) <;> simp <;> omega))
  clear hr1 hg1 HB0
  go_wp2_with fail
  exact bodyPost_ret (results_cell_row Try.results22 _ _ _ _ _ (0, 0) _ rfl (HB1.out.r1) Try.underlying32 rfl (by kernel_rfl)) rfl (⟨rfl, HB1.out.below⟩)
set_option maxHeartbeats 4000000 in
theorem playArr_any (r : Rg) (w : World) :
    Calls Try.prog 28 #[r.agg] w fun ee w' => ee = .returned ((Rg.arr r).agg) ∧ Below w.heap.size w w' := by
  obtain ⟨fl, tg, lf, dd, am, tk⟩ := r
  by_cases h0 : lf = 0
  · subst h0
    rw [show Rg.arr ⟨fl, tg, 0, dd, am, tk⟩ = ⟨tg, tg, 0, dd, am, tk⟩ from rfl]
    simp only [Rg.agg]
    have HB0 := Lib.hid (bxs2 w (.cells #[.int .i64 fl, .int .i64 tg, .int .i64 0, .int .i64 dd, .int .i64 am, .int .i64 tk] 23) (.cells #[.int .i64 0, .int .i64 0, .int .i64 0, .int .i64 0, .int .i64 0, .int .i64 0] 23))
    go_enter Try.func28, Try.ntmps28
    go_wp2_with (with_reducible show wpList _ _ _ (Oper.mk _ (.store 3 _ _) _ _ _ _ :: _) _ _; refine Hid.out ?_)
    refine Lib.hid ?_
    refine wpList_putCell rfl 3 _ _ rfl (w.heap.size) 0 (.int .i64 tg) _ _ 23 rfl rfl HB0.out.r0 (by kernel_rfl) (by simp) rfl rfl rfl ?_
    intro w1 hr1 hg1
    have HB1 : Hid (Bx w [(w.heap.size, .cells #[.int .i64 tg, .int .i64 tg, .int .i64 0, .int .i64 dd, .int .i64 am, .int .i64 tk] 23 (0, 0)), (w.heap.size + 1, .cells #[.int .i64 0, .int .i64 0, .int .i64 0, .int .i64 0, .int .i64 0, .int .i64 0] 23 (0, 0))] w1) := Lib.hid (HB0.out.put (by omega) hg1.out hr1.out (by simp only [List.mem_cons, List.not_mem_nil, or_false]; rintro p (rfl | rfl) <;> simp <;> omega))
    clear hr1 hg1 HB0
    have c0_0 : w1.cell? ⟨w.heap.size, 0, none⟩ = some (.int .i64 tg) := cell_of_row _ _ _ _ _ (0, 0) HB1.out.r0
    have c0_1 : w1.cell? ⟨w.heap.size, 1, none⟩ = some (.int .i64 tg) := cell_of_row _ _ _ _ _ (0, 0) HB1.out.r0
    have c0_2 : w1.cell? ⟨w.heap.size, 2, none⟩ = some (.int .i64 0) := cell_of_row _ _ _ _ _ (0, 0) HB1.out.r0
    have c0_3 : w1.cell? ⟨w.heap.size, 3, none⟩ = some (.int .i64 dd) := cell_of_row _ _ _ _ _ (0, 0) HB1.out.r0
    have c0_4 : w1.cell? ⟨w.heap.size, 4, none⟩ = some (.int .i64 am) := cell_of_row _ _ _ _ _ (0, 0) HB1.out.r0
    have c0_5 : w1.cell? ⟨w.heap.size, 5, none⟩ = some (.int .i64 tk) := cell_of_row _ _ _ _ _ (0, 0) HB1.out.r0
    have c1_0 : w1.cell? ⟨w.heap.size + 1, 0, none⟩ = some (.int .i64 0) := cell_of_row _ _ _ _ _ (0, 0) HB1.out.r1
    have c1_1 : w1.cell? ⟨w.heap.size + 1, 1, none⟩ = some (.int .i64 0) := cell_of_row _ _ _ _ _ (0, 0) HB1.out.r1
    have c1_2 : w1.cell? ⟨w.heap.size + 1, 2, none⟩ = some (.int .i64 0) := cell_of_row _ _ _ _ _ (0, 0) HB1.out.r1
    have c1_3 : w1.cell? ⟨w.heap.size + 1, 3, none⟩ = some (.int .i64 0) := cell_of_row _ _ _ _ _ (0, 0) HB1.out.r1
    have c1_4 : w1.cell? ⟨w.heap.size + 1, 4, none⟩ = some (.int .i64 0) := cell_of_row _ _ _ _ _ (0, 0) HB1.out.r1
    have c1_5 : w1.cell? ⟨w.heap.size + 1, 5, none⟩ = some (.int .i64 0) := cell_of_row _ _ _ _ _ (0, 0) HB1.out.r1
    go_wp2_with (with_reducible show wpList _ _ _ (Oper.mk _ (.store 23 _ _) _ _ _ _ :: _) _ _; refine Hid.out ?_)
    refine Lib.hid ?_
    refine wpList_put rfl 23 _ _ rfl (w.heap.size + 1) #[.int .i64 tg, .int .i64 tg, .int .i64 0, .int .i64 dd, .int .i64 am, .int .i64 tk] _ 23 rfl rfl HB1.out.r1 (by kernel_rfl) rfl (by kernel_rfl) ?_
    intro w2 hr2 hg2
    have HB2 : Hid (Bx w [(w.heap.size, .cells #[.int .i64 tg, .int .i64 tg, .int .i64 0, .int .i64 dd, .int .i64 am, .int .i64 tk] 23 (0, 0)), (w.heap.size + 1, .cells #[.int .i64 tg, .int .i64 tg, .int .i64 0, .int .i64 dd, .int .i64 am, .int .i64 tk] 23 (0, 0))] w2) := Lib.hid (HB1.out.put (by omega) hg2.out hr2.out (by simp only [List.mem_cons, List.not_mem_nil, or_false]; rintro p (rfl | rfl) <;> simp <;> omega))
    clear c0_0 c0_1 c0_2 c0_3 c0_4 c0_5 c1_0 c1_1 c1_2 c1_3 c1_4 c1_5 hr2 hg2 HB1
    go_wp2_with fail
    exact bodyPost_ret (results_cell_row Try.results28 _ _ _ _ _ (0, 0) _ rfl (HB2.out.r1) Try.underlying23 rfl (by kernel_rfl)) rfl (⟨rfl, HB2.out.below⟩)
  · rw [show Rg.arr ⟨fl, tg, lf, dd, am, tk⟩ = ⟨fl, tg, lf, dd, am, tk⟩ from if_neg h0]
    have hB : (lf == 0) = false := by simpa using h0
    simp only [Rg.agg]
    have HB0 := Lib.hid (bxs2 w (.cells #[.int .i64 fl, .int .i64 tg, .int .i64 lf, .int .i64 dd, .int .i64 am, .int .i64 tk] 23) (.cells #[.int .i64 0, .int .i64 0, .int .i64 0, .int .i64 0, .int .i64 0, .int .i64 0] 23))
    go_enter Try.func28, Try.ntmps28
    go_wp2_with (with_reducible show wpList _ _ _ (Oper.mk _ (.store 23 _ _) _ _ _ _ :: _) _ _; refine Hid.out ?_)
    refine Lib.hid ?_
    refine wpList_put rfl 23 _ _ rfl (w.heap.size + 1) #[.int .i64 fl, .int .i64 tg, .int .i64 lf, .int .i64 dd, .int .i64 am, .int .i64 tk] _ 23 rfl rfl HB0.out.r1 (by kernel_rfl) rfl (by kernel_rfl) ?_
    intro w1 hr1 hg1
    have HB1 : Hid (Bx w [(w.heap.size, .cells #[.int .i64 fl, .int .i64 tg, .int .i64 lf, .int .i64 dd, .int .i64 am, .int .i64 tk] 23 (0, 0)), (w.heap.size + 1, .cells #[.int .i64 fl, .int .i64 tg, .int .i64 lf, .int .i64 dd, .int .i64 am, .int .i64 tk] 23 (0, 0))] w1) := Lib.hid (HB0.out.put (by omega) hg1.out hr1.out (by simp only [List.mem_cons, List.not_mem_nil, or_false]; rintro p (rfl | rfl) <;> simp <;> omega))
    clear hr1 hg1 HB0
    go_wp2_with fail
    exact bodyPost_ret (results_cell_row Try.results28 _ _ _ _ _ (0, 0) _ rfl (HB1.out.r1) Try.underlying23 rfl (by kernel_rfl)) rfl (⟨rfl, HB1.out.below⟩)
set_option maxHeartbeats 4000000 in
theorem playIs_any (F : Int) (r : Rg) (w : World) :
    Calls Try.prog 27 #[.int .i64 F, r.agg] w fun ee w' => ee = .returned (.bool (Rg.isB F r)) ∧ Below w.heap.size w w' := by
  obtain ⟨fl, tg, lf, dd, am, tk⟩ := r
  by_cases e1 : 2 ≤ F ∧ F ≤ 32
  · have Fe1 := Lib.hid (fun wx => playIn_any F 2 32 wx)
    rw [Nc.wi_yes e1] at Fe1
    have w1 : IntKind.i64.wrap (F - 1) = F - 1 := by rw [IntKind.wrap_i64]; omega
    by_cases e2 : 0 ≤ fl ∧ fl ≤ F - 1
    · have Fe2 := Lib.hid (fun wx => playIn_any fl 0 (F - 1) wx)
      rw [Nc.wi_yes e2] at Fe2
      by_cases e3 : 0 ≤ tg ∧ tg ≤ F - 1
      · have Fe3 := Lib.hid (fun wx => playIn_any tg 0 (F - 1) wx)
        rw [Nc.wi_yes e3] at Fe3
        have w2 : IntKind.i64.wrap (tg - fl) = tg - fl := by rw [IntKind.wrap_i64]; omega
        by_cases e4 : -1 ≤ tg - fl ∧ tg - fl ≤ 1
        · have Fe4 := Lib.hid (fun wx => playIn_any (tg - fl) (-1) 1 wx)
          rw [Nc.wi_yes e4] at Fe4
          by_cases e5 : 0 ≤ dd ∧ dd ≤ 2
          · have Fe5 := Lib.hid (fun wx => playIn_any dd 0 2 wx)
            rw [Nc.wi_yes e5] at Fe5
            by_cases e6 : tg = fl
            · subst e6
              simp only [Int.sub_self] at Fe4 w2
              by_cases e7 : lf = 0
              · subst e7
                by_cases e8 : dd = 0
                · subst e8
                  by_cases e9 : 1 ≤ am ∧ am ≤ 2
                  · have Fe9 := Lib.hid (fun wx => playIn_any am 1 2 wx)
                    rw [Nc.wi_yes e9] at Fe9
                    by_cases e10 : 1 ≤ tk ∧ tk ≤ 10000
                    · have Fe10 := Lib.hid (fun wx => playIn_any tk 1 10000 wx)
                      rw [Nc.wi_yes e10] at Fe10
                      · have hR : Rg.isB F ⟨tg, tg, 0, 0, am, tk⟩ = true := by
                          refine Rg.isB_iff.2 ⟨?_, ?_, ?_, ?_, ?_, ?_, ?_⟩ <;> (try dsimp only) <;> omega
                        rw [hR]
                        clear hR
                        clear e1 e2 e3 e4 e5 e9 e10
                        simp only [Rg.agg]
                        have HB0 := Lib.hid (bxs1 w (.cells #[.int .i64 tg, .int .i64 tg, .int .i64 0, .int .i64 0, .int .i64 am, .int .i64 tk] 23))
                        go_enter Try.func27, Try.ntmps27
                        go_wp2_with fail
                        refine (Fe1.out _).mono ?_
                        rintro e w1 ⟨rfl, hb1⟩
                        have HB1 := Lib.hid (HB0.out.next hb1)
                        clear hb1 HB0
                        have c0_0 : w1.cell? ⟨w.heap.size, 0, none⟩ = some (.int .i64 tg) := cell_of_row _ _ _ _ _ (0, 0) HB1.out.r0
                        have c0_1 : w1.cell? ⟨w.heap.size, 1, none⟩ = some (.int .i64 tg) := cell_of_row _ _ _ _ _ (0, 0) HB1.out.r0
                        have c0_2 : w1.cell? ⟨w.heap.size, 2, none⟩ = some (.int .i64 0) := cell_of_row _ _ _ _ _ (0, 0) HB1.out.r0
                        have c0_3 : w1.cell? ⟨w.heap.size, 3, none⟩ = some (.int .i64 0) := cell_of_row _ _ _ _ _ (0, 0) HB1.out.r0
                        have c0_4 : w1.cell? ⟨w.heap.size, 4, none⟩ = some (.int .i64 am) := cell_of_row _ _ _ _ _ (0, 0) HB1.out.r0
                        have c0_5 : w1.cell? ⟨w.heap.size, 5, none⟩ = some (.int .i64 tk) := cell_of_row _ _ _ _ _ (0, 0) HB1.out.r0
                        go_wp2_with fail
                        refine (Fe2.out _).mono ?_
                        rintro e w2 ⟨rfl, hb2⟩
                        have HB2 := Lib.hid (HB1.out.next hb2)
                        clear c0_0 c0_1 c0_2 c0_3 c0_4 c0_5 hb2 HB1
                        have c0_0 : w2.cell? ⟨w.heap.size, 0, none⟩ = some (.int .i64 tg) := cell_of_row _ _ _ _ _ (0, 0) HB2.out.r0
                        have c0_1 : w2.cell? ⟨w.heap.size, 1, none⟩ = some (.int .i64 tg) := cell_of_row _ _ _ _ _ (0, 0) HB2.out.r0
                        have c0_2 : w2.cell? ⟨w.heap.size, 2, none⟩ = some (.int .i64 0) := cell_of_row _ _ _ _ _ (0, 0) HB2.out.r0
                        have c0_3 : w2.cell? ⟨w.heap.size, 3, none⟩ = some (.int .i64 0) := cell_of_row _ _ _ _ _ (0, 0) HB2.out.r0
                        have c0_4 : w2.cell? ⟨w.heap.size, 4, none⟩ = some (.int .i64 am) := cell_of_row _ _ _ _ _ (0, 0) HB2.out.r0
                        have c0_5 : w2.cell? ⟨w.heap.size, 5, none⟩ = some (.int .i64 tk) := cell_of_row _ _ _ _ _ (0, 0) HB2.out.r0
                        go_wp2_with fail
                        refine (Fe3.out _).mono ?_
                        rintro e w3 ⟨rfl, hb3⟩
                        have HB3 := Lib.hid (HB2.out.next hb3)
                        clear c0_0 c0_1 c0_2 c0_3 c0_4 c0_5 hb3 HB2
                        have c0_0 : w3.cell? ⟨w.heap.size, 0, none⟩ = some (.int .i64 tg) := cell_of_row _ _ _ _ _ (0, 0) HB3.out.r0
                        have c0_1 : w3.cell? ⟨w.heap.size, 1, none⟩ = some (.int .i64 tg) := cell_of_row _ _ _ _ _ (0, 0) HB3.out.r0
                        have c0_2 : w3.cell? ⟨w.heap.size, 2, none⟩ = some (.int .i64 0) := cell_of_row _ _ _ _ _ (0, 0) HB3.out.r0
                        have c0_3 : w3.cell? ⟨w.heap.size, 3, none⟩ = some (.int .i64 0) := cell_of_row _ _ _ _ _ (0, 0) HB3.out.r0
                        have c0_4 : w3.cell? ⟨w.heap.size, 4, none⟩ = some (.int .i64 am) := cell_of_row _ _ _ _ _ (0, 0) HB3.out.r0
                        have c0_5 : w3.cell? ⟨w.heap.size, 5, none⟩ = some (.int .i64 tk) := cell_of_row _ _ _ _ _ (0, 0) HB3.out.r0
                        go_wp2_with fail
                        refine (Fe4.out _).mono ?_
                        rintro e w4 ⟨rfl, hb4⟩
                        have HB4 := Lib.hid (HB3.out.next hb4)
                        clear c0_0 c0_1 c0_2 c0_3 c0_4 c0_5 hb4 HB3
                        have c0_0 : w4.cell? ⟨w.heap.size, 0, none⟩ = some (.int .i64 tg) := cell_of_row _ _ _ _ _ (0, 0) HB4.out.r0
                        have c0_1 : w4.cell? ⟨w.heap.size, 1, none⟩ = some (.int .i64 tg) := cell_of_row _ _ _ _ _ (0, 0) HB4.out.r0
                        have c0_2 : w4.cell? ⟨w.heap.size, 2, none⟩ = some (.int .i64 0) := cell_of_row _ _ _ _ _ (0, 0) HB4.out.r0
                        have c0_3 : w4.cell? ⟨w.heap.size, 3, none⟩ = some (.int .i64 0) := cell_of_row _ _ _ _ _ (0, 0) HB4.out.r0
                        have c0_4 : w4.cell? ⟨w.heap.size, 4, none⟩ = some (.int .i64 am) := cell_of_row _ _ _ _ _ (0, 0) HB4.out.r0
                        have c0_5 : w4.cell? ⟨w.heap.size, 5, none⟩ = some (.int .i64 tk) := cell_of_row _ _ _ _ _ (0, 0) HB4.out.r0
                        go_wp2_with fail
                        refine (Fe5.out _).mono ?_
                        rintro e w5 ⟨rfl, hb5⟩
                        have HB5 := Lib.hid (HB4.out.next hb5)
                        clear c0_0 c0_1 c0_2 c0_3 c0_4 c0_5 hb5 HB4
                        have c0_0 : w5.cell? ⟨w.heap.size, 0, none⟩ = some (.int .i64 tg) := cell_of_row _ _ _ _ _ (0, 0) HB5.out.r0
                        have c0_1 : w5.cell? ⟨w.heap.size, 1, none⟩ = some (.int .i64 tg) := cell_of_row _ _ _ _ _ (0, 0) HB5.out.r0
                        have c0_2 : w5.cell? ⟨w.heap.size, 2, none⟩ = some (.int .i64 0) := cell_of_row _ _ _ _ _ (0, 0) HB5.out.r0
                        have c0_3 : w5.cell? ⟨w.heap.size, 3, none⟩ = some (.int .i64 0) := cell_of_row _ _ _ _ _ (0, 0) HB5.out.r0
                        have c0_4 : w5.cell? ⟨w.heap.size, 4, none⟩ = some (.int .i64 am) := cell_of_row _ _ _ _ _ (0, 0) HB5.out.r0
                        have c0_5 : w5.cell? ⟨w.heap.size, 5, none⟩ = some (.int .i64 tk) := cell_of_row _ _ _ _ _ (0, 0) HB5.out.r0
                        go_wp2_with fail
                        refine (Fe9.out _).mono ?_
                        rintro e w6 ⟨rfl, hb6⟩
                        have HB6 := Lib.hid (HB5.out.next hb6)
                        clear c0_0 c0_1 c0_2 c0_3 c0_4 c0_5 hb6 HB5
                        have c0_0 : w6.cell? ⟨w.heap.size, 0, none⟩ = some (.int .i64 tg) := cell_of_row _ _ _ _ _ (0, 0) HB6.out.r0
                        have c0_1 : w6.cell? ⟨w.heap.size, 1, none⟩ = some (.int .i64 tg) := cell_of_row _ _ _ _ _ (0, 0) HB6.out.r0
                        have c0_2 : w6.cell? ⟨w.heap.size, 2, none⟩ = some (.int .i64 0) := cell_of_row _ _ _ _ _ (0, 0) HB6.out.r0
                        have c0_3 : w6.cell? ⟨w.heap.size, 3, none⟩ = some (.int .i64 0) := cell_of_row _ _ _ _ _ (0, 0) HB6.out.r0
                        have c0_4 : w6.cell? ⟨w.heap.size, 4, none⟩ = some (.int .i64 am) := cell_of_row _ _ _ _ _ (0, 0) HB6.out.r0
                        have c0_5 : w6.cell? ⟨w.heap.size, 5, none⟩ = some (.int .i64 tk) := cell_of_row _ _ _ _ _ (0, 0) HB6.out.r0
                        go_wp2_with fail
                        refine (Fe10.out _).mono ?_
                        rintro e w7 ⟨rfl, hb7⟩
                        have HB7 := Lib.hid (HB6.out.next hb7)
                        clear c0_0 c0_1 c0_2 c0_3 c0_4 c0_5 hb7 HB6
                        have c0_0 : w7.cell? ⟨w.heap.size, 0, none⟩ = some (.int .i64 tg) := cell_of_row _ _ _ _ _ (0, 0) HB7.out.r0
                        have c0_1 : w7.cell? ⟨w.heap.size, 1, none⟩ = some (.int .i64 tg) := cell_of_row _ _ _ _ _ (0, 0) HB7.out.r0
                        have c0_2 : w7.cell? ⟨w.heap.size, 2, none⟩ = some (.int .i64 0) := cell_of_row _ _ _ _ _ (0, 0) HB7.out.r0
                        have c0_3 : w7.cell? ⟨w.heap.size, 3, none⟩ = some (.int .i64 0) := cell_of_row _ _ _ _ _ (0, 0) HB7.out.r0
                        have c0_4 : w7.cell? ⟨w.heap.size, 4, none⟩ = some (.int .i64 am) := cell_of_row _ _ _ _ _ (0, 0) HB7.out.r0
                        have c0_5 : w7.cell? ⟨w.heap.size, 5, none⟩ = some (.int .i64 tk) := cell_of_row _ _ _ _ _ (0, 0) HB7.out.r0
                        go_wp2_with fail
                        go_ret
                        exact ⟨rfl, HB7.out.below⟩
                    · have Fe10 := Lib.hid (fun wx => playIn_any tk 1 10000 wx)
                      rw [Nc.wi_no e10] at Fe10
                      have hR : Rg.isB F ⟨tg, tg, 0, 0, am, tk⟩ = false := by
                        cases hq : Rg.isB F ⟨tg, tg, 0, 0, am, tk⟩
                        · rfl
                        · obtain ⟨z1, z2, z3, z4, z5, z6, z7⟩ := Rg.isB_iff.1 hq
                          simp only at z2 z3 z4 z5 z6 z7
                          exfalso; omega
                      rw [hR]
                      clear hR
                      clear e1 e2 e3 e4 e5 e9 e10
                      simp only [Rg.agg]
                      have HB0 := Lib.hid (bxs1 w (.cells #[.int .i64 tg, .int .i64 tg, .int .i64 0, .int .i64 0, .int .i64 am, .int .i64 tk] 23))
                      go_enter Try.func27, Try.ntmps27
                      go_wp2_with fail
                      refine (Fe1.out _).mono ?_
                      rintro e w1 ⟨rfl, hb1⟩
                      have HB1 := Lib.hid (HB0.out.next hb1)
                      clear hb1 HB0
                      have c0_0 : w1.cell? ⟨w.heap.size, 0, none⟩ = some (.int .i64 tg) := cell_of_row _ _ _ _ _ (0, 0) HB1.out.r0
                      have c0_1 : w1.cell? ⟨w.heap.size, 1, none⟩ = some (.int .i64 tg) := cell_of_row _ _ _ _ _ (0, 0) HB1.out.r0
                      have c0_2 : w1.cell? ⟨w.heap.size, 2, none⟩ = some (.int .i64 0) := cell_of_row _ _ _ _ _ (0, 0) HB1.out.r0
                      have c0_3 : w1.cell? ⟨w.heap.size, 3, none⟩ = some (.int .i64 0) := cell_of_row _ _ _ _ _ (0, 0) HB1.out.r0
                      have c0_4 : w1.cell? ⟨w.heap.size, 4, none⟩ = some (.int .i64 am) := cell_of_row _ _ _ _ _ (0, 0) HB1.out.r0
                      have c0_5 : w1.cell? ⟨w.heap.size, 5, none⟩ = some (.int .i64 tk) := cell_of_row _ _ _ _ _ (0, 0) HB1.out.r0
                      go_wp2_with fail
                      refine (Fe2.out _).mono ?_
                      rintro e w2 ⟨rfl, hb2⟩
                      have HB2 := Lib.hid (HB1.out.next hb2)
                      clear c0_0 c0_1 c0_2 c0_3 c0_4 c0_5 hb2 HB1
                      have c0_0 : w2.cell? ⟨w.heap.size, 0, none⟩ = some (.int .i64 tg) := cell_of_row _ _ _ _ _ (0, 0) HB2.out.r0
                      have c0_1 : w2.cell? ⟨w.heap.size, 1, none⟩ = some (.int .i64 tg) := cell_of_row _ _ _ _ _ (0, 0) HB2.out.r0
                      have c0_2 : w2.cell? ⟨w.heap.size, 2, none⟩ = some (.int .i64 0) := cell_of_row _ _ _ _ _ (0, 0) HB2.out.r0
                      have c0_3 : w2.cell? ⟨w.heap.size, 3, none⟩ = some (.int .i64 0) := cell_of_row _ _ _ _ _ (0, 0) HB2.out.r0
                      have c0_4 : w2.cell? ⟨w.heap.size, 4, none⟩ = some (.int .i64 am) := cell_of_row _ _ _ _ _ (0, 0) HB2.out.r0
                      have c0_5 : w2.cell? ⟨w.heap.size, 5, none⟩ = some (.int .i64 tk) := cell_of_row _ _ _ _ _ (0, 0) HB2.out.r0
                      go_wp2_with fail
                      refine (Fe3.out _).mono ?_
                      rintro e w3 ⟨rfl, hb3⟩
                      have HB3 := Lib.hid (HB2.out.next hb3)
                      clear c0_0 c0_1 c0_2 c0_3 c0_4 c0_5 hb3 HB2
                      have c0_0 : w3.cell? ⟨w.heap.size, 0, none⟩ = some (.int .i64 tg) := cell_of_row _ _ _ _ _ (0, 0) HB3.out.r0
                      have c0_1 : w3.cell? ⟨w.heap.size, 1, none⟩ = some (.int .i64 tg) := cell_of_row _ _ _ _ _ (0, 0) HB3.out.r0
                      have c0_2 : w3.cell? ⟨w.heap.size, 2, none⟩ = some (.int .i64 0) := cell_of_row _ _ _ _ _ (0, 0) HB3.out.r0
                      have c0_3 : w3.cell? ⟨w.heap.size, 3, none⟩ = some (.int .i64 0) := cell_of_row _ _ _ _ _ (0, 0) HB3.out.r0
                      have c0_4 : w3.cell? ⟨w.heap.size, 4, none⟩ = some (.int .i64 am) := cell_of_row _ _ _ _ _ (0, 0) HB3.out.r0
                      have c0_5 : w3.cell? ⟨w.heap.size, 5, none⟩ = some (.int .i64 tk) := cell_of_row _ _ _ _ _ (0, 0) HB3.out.r0
                      go_wp2_with fail
                      refine (Fe4.out _).mono ?_
                      rintro e w4 ⟨rfl, hb4⟩
                      have HB4 := Lib.hid (HB3.out.next hb4)
                      clear c0_0 c0_1 c0_2 c0_3 c0_4 c0_5 hb4 HB3
                      have c0_0 : w4.cell? ⟨w.heap.size, 0, none⟩ = some (.int .i64 tg) := cell_of_row _ _ _ _ _ (0, 0) HB4.out.r0
                      have c0_1 : w4.cell? ⟨w.heap.size, 1, none⟩ = some (.int .i64 tg) := cell_of_row _ _ _ _ _ (0, 0) HB4.out.r0
                      have c0_2 : w4.cell? ⟨w.heap.size, 2, none⟩ = some (.int .i64 0) := cell_of_row _ _ _ _ _ (0, 0) HB4.out.r0
                      have c0_3 : w4.cell? ⟨w.heap.size, 3, none⟩ = some (.int .i64 0) := cell_of_row _ _ _ _ _ (0, 0) HB4.out.r0
                      have c0_4 : w4.cell? ⟨w.heap.size, 4, none⟩ = some (.int .i64 am) := cell_of_row _ _ _ _ _ (0, 0) HB4.out.r0
                      have c0_5 : w4.cell? ⟨w.heap.size, 5, none⟩ = some (.int .i64 tk) := cell_of_row _ _ _ _ _ (0, 0) HB4.out.r0
                      go_wp2_with fail
                      refine (Fe5.out _).mono ?_
                      rintro e w5 ⟨rfl, hb5⟩
                      have HB5 := Lib.hid (HB4.out.next hb5)
                      clear c0_0 c0_1 c0_2 c0_3 c0_4 c0_5 hb5 HB4
                      have c0_0 : w5.cell? ⟨w.heap.size, 0, none⟩ = some (.int .i64 tg) := cell_of_row _ _ _ _ _ (0, 0) HB5.out.r0
                      have c0_1 : w5.cell? ⟨w.heap.size, 1, none⟩ = some (.int .i64 tg) := cell_of_row _ _ _ _ _ (0, 0) HB5.out.r0
                      have c0_2 : w5.cell? ⟨w.heap.size, 2, none⟩ = some (.int .i64 0) := cell_of_row _ _ _ _ _ (0, 0) HB5.out.r0
                      have c0_3 : w5.cell? ⟨w.heap.size, 3, none⟩ = some (.int .i64 0) := cell_of_row _ _ _ _ _ (0, 0) HB5.out.r0
                      have c0_4 : w5.cell? ⟨w.heap.size, 4, none⟩ = some (.int .i64 am) := cell_of_row _ _ _ _ _ (0, 0) HB5.out.r0
                      have c0_5 : w5.cell? ⟨w.heap.size, 5, none⟩ = some (.int .i64 tk) := cell_of_row _ _ _ _ _ (0, 0) HB5.out.r0
                      go_wp2_with fail
                      refine (Fe9.out _).mono ?_
                      rintro e w6 ⟨rfl, hb6⟩
                      have HB6 := Lib.hid (HB5.out.next hb6)
                      clear c0_0 c0_1 c0_2 c0_3 c0_4 c0_5 hb6 HB5
                      have c0_0 : w6.cell? ⟨w.heap.size, 0, none⟩ = some (.int .i64 tg) := cell_of_row _ _ _ _ _ (0, 0) HB6.out.r0
                      have c0_1 : w6.cell? ⟨w.heap.size, 1, none⟩ = some (.int .i64 tg) := cell_of_row _ _ _ _ _ (0, 0) HB6.out.r0
                      have c0_2 : w6.cell? ⟨w.heap.size, 2, none⟩ = some (.int .i64 0) := cell_of_row _ _ _ _ _ (0, 0) HB6.out.r0
                      have c0_3 : w6.cell? ⟨w.heap.size, 3, none⟩ = some (.int .i64 0) := cell_of_row _ _ _ _ _ (0, 0) HB6.out.r0
                      have c0_4 : w6.cell? ⟨w.heap.size, 4, none⟩ = some (.int .i64 am) := cell_of_row _ _ _ _ _ (0, 0) HB6.out.r0
                      have c0_5 : w6.cell? ⟨w.heap.size, 5, none⟩ = some (.int .i64 tk) := cell_of_row _ _ _ _ _ (0, 0) HB6.out.r0
                      go_wp2_with fail
                      refine (Fe10.out _).mono ?_
                      rintro e w7 ⟨rfl, hb7⟩
                      have HB7 := Lib.hid (HB6.out.next hb7)
                      clear c0_0 c0_1 c0_2 c0_3 c0_4 c0_5 hb7 HB6
                      have c0_0 : w7.cell? ⟨w.heap.size, 0, none⟩ = some (.int .i64 tg) := cell_of_row _ _ _ _ _ (0, 0) HB7.out.r0
                      have c0_1 : w7.cell? ⟨w.heap.size, 1, none⟩ = some (.int .i64 tg) := cell_of_row _ _ _ _ _ (0, 0) HB7.out.r0
                      have c0_2 : w7.cell? ⟨w.heap.size, 2, none⟩ = some (.int .i64 0) := cell_of_row _ _ _ _ _ (0, 0) HB7.out.r0
                      have c0_3 : w7.cell? ⟨w.heap.size, 3, none⟩ = some (.int .i64 0) := cell_of_row _ _ _ _ _ (0, 0) HB7.out.r0
                      have c0_4 : w7.cell? ⟨w.heap.size, 4, none⟩ = some (.int .i64 am) := cell_of_row _ _ _ _ _ (0, 0) HB7.out.r0
                      have c0_5 : w7.cell? ⟨w.heap.size, 5, none⟩ = some (.int .i64 tk) := cell_of_row _ _ _ _ _ (0, 0) HB7.out.r0
                      go_wp2_with fail
                      go_ret
                      exact ⟨rfl, HB7.out.below⟩
                  · have Fe9 := Lib.hid (fun wx => playIn_any am 1 2 wx)
                    rw [Nc.wi_no e9] at Fe9
                    have hR : Rg.isB F ⟨tg, tg, 0, 0, am, tk⟩ = false := by
                      cases hq : Rg.isB F ⟨tg, tg, 0, 0, am, tk⟩
                      · rfl
                      · obtain ⟨z1, z2, z3, z4, z5, z6, z7⟩ := Rg.isB_iff.1 hq
                        simp only at z2 z3 z4 z5 z6 z7
                        exfalso; omega
                    rw [hR]
                    clear hR
                    clear e1 e2 e3 e4 e5 e9
                    simp only [Rg.agg]
                    have HB0 := Lib.hid (bxs1 w (.cells #[.int .i64 tg, .int .i64 tg, .int .i64 0, .int .i64 0, .int .i64 am, .int .i64 tk] 23))
                    go_enter Try.func27, Try.ntmps27
                    go_wp2_with fail
                    refine (Fe1.out _).mono ?_
                    rintro e w1 ⟨rfl, hb1⟩
                    have HB1 := Lib.hid (HB0.out.next hb1)
                    clear hb1 HB0
                    have c0_0 : w1.cell? ⟨w.heap.size, 0, none⟩ = some (.int .i64 tg) := cell_of_row _ _ _ _ _ (0, 0) HB1.out.r0
                    have c0_1 : w1.cell? ⟨w.heap.size, 1, none⟩ = some (.int .i64 tg) := cell_of_row _ _ _ _ _ (0, 0) HB1.out.r0
                    have c0_2 : w1.cell? ⟨w.heap.size, 2, none⟩ = some (.int .i64 0) := cell_of_row _ _ _ _ _ (0, 0) HB1.out.r0
                    have c0_3 : w1.cell? ⟨w.heap.size, 3, none⟩ = some (.int .i64 0) := cell_of_row _ _ _ _ _ (0, 0) HB1.out.r0
                    have c0_4 : w1.cell? ⟨w.heap.size, 4, none⟩ = some (.int .i64 am) := cell_of_row _ _ _ _ _ (0, 0) HB1.out.r0
                    have c0_5 : w1.cell? ⟨w.heap.size, 5, none⟩ = some (.int .i64 tk) := cell_of_row _ _ _ _ _ (0, 0) HB1.out.r0
                    go_wp2_with fail
                    refine (Fe2.out _).mono ?_
                    rintro e w2 ⟨rfl, hb2⟩
                    have HB2 := Lib.hid (HB1.out.next hb2)
                    clear c0_0 c0_1 c0_2 c0_3 c0_4 c0_5 hb2 HB1
                    have c0_0 : w2.cell? ⟨w.heap.size, 0, none⟩ = some (.int .i64 tg) := cell_of_row _ _ _ _ _ (0, 0) HB2.out.r0
                    have c0_1 : w2.cell? ⟨w.heap.size, 1, none⟩ = some (.int .i64 tg) := cell_of_row _ _ _ _ _ (0, 0) HB2.out.r0
                    have c0_2 : w2.cell? ⟨w.heap.size, 2, none⟩ = some (.int .i64 0) := cell_of_row _ _ _ _ _ (0, 0) HB2.out.r0
                    have c0_3 : w2.cell? ⟨w.heap.size, 3, none⟩ = some (.int .i64 0) := cell_of_row _ _ _ _ _ (0, 0) HB2.out.r0
                    have c0_4 : w2.cell? ⟨w.heap.size, 4, none⟩ = some (.int .i64 am) := cell_of_row _ _ _ _ _ (0, 0) HB2.out.r0
                    have c0_5 : w2.cell? ⟨w.heap.size, 5, none⟩ = some (.int .i64 tk) := cell_of_row _ _ _ _ _ (0, 0) HB2.out.r0
                    go_wp2_with fail
                    refine (Fe3.out _).mono ?_
                    rintro e w3 ⟨rfl, hb3⟩
                    have HB3 := Lib.hid (HB2.out.next hb3)
                    clear c0_0 c0_1 c0_2 c0_3 c0_4 c0_5 hb3 HB2
                    have c0_0 : w3.cell? ⟨w.heap.size, 0, none⟩ = some (.int .i64 tg) := cell_of_row _ _ _ _ _ (0, 0) HB3.out.r0
                    have c0_1 : w3.cell? ⟨w.heap.size, 1, none⟩ = some (.int .i64 tg) := cell_of_row _ _ _ _ _ (0, 0) HB3.out.r0
                    have c0_2 : w3.cell? ⟨w.heap.size, 2, none⟩ = some (.int .i64 0) := cell_of_row _ _ _ _ _ (0, 0) HB3.out.r0
                    have c0_3 : w3.cell? ⟨w.heap.size, 3, none⟩ = some (.int .i64 0) := cell_of_row _ _ _ _ _ (0, 0) HB3.out.r0
                    have c0_4 : w3.cell? ⟨w.heap.size, 4, none⟩ = some (.int .i64 am) := cell_of_row _ _ _ _ _ (0, 0) HB3.out.r0
                    have c0_5 : w3.cell? ⟨w.heap.size, 5, none⟩ = some (.int .i64 tk) := cell_of_row _ _ _ _ _ (0, 0) HB3.out.r0
                    go_wp2_with fail
                    refine (Fe4.out _).mono ?_
                    rintro e w4 ⟨rfl, hb4⟩
                    have HB4 := Lib.hid (HB3.out.next hb4)
                    clear c0_0 c0_1 c0_2 c0_3 c0_4 c0_5 hb4 HB3
                    have c0_0 : w4.cell? ⟨w.heap.size, 0, none⟩ = some (.int .i64 tg) := cell_of_row _ _ _ _ _ (0, 0) HB4.out.r0
                    have c0_1 : w4.cell? ⟨w.heap.size, 1, none⟩ = some (.int .i64 tg) := cell_of_row _ _ _ _ _ (0, 0) HB4.out.r0
                    have c0_2 : w4.cell? ⟨w.heap.size, 2, none⟩ = some (.int .i64 0) := cell_of_row _ _ _ _ _ (0, 0) HB4.out.r0
                    have c0_3 : w4.cell? ⟨w.heap.size, 3, none⟩ = some (.int .i64 0) := cell_of_row _ _ _ _ _ (0, 0) HB4.out.r0
                    have c0_4 : w4.cell? ⟨w.heap.size, 4, none⟩ = some (.int .i64 am) := cell_of_row _ _ _ _ _ (0, 0) HB4.out.r0
                    have c0_5 : w4.cell? ⟨w.heap.size, 5, none⟩ = some (.int .i64 tk) := cell_of_row _ _ _ _ _ (0, 0) HB4.out.r0
                    go_wp2_with fail
                    refine (Fe5.out _).mono ?_
                    rintro e w5 ⟨rfl, hb5⟩
                    have HB5 := Lib.hid (HB4.out.next hb5)
                    clear c0_0 c0_1 c0_2 c0_3 c0_4 c0_5 hb5 HB4
                    have c0_0 : w5.cell? ⟨w.heap.size, 0, none⟩ = some (.int .i64 tg) := cell_of_row _ _ _ _ _ (0, 0) HB5.out.r0
                    have c0_1 : w5.cell? ⟨w.heap.size, 1, none⟩ = some (.int .i64 tg) := cell_of_row _ _ _ _ _ (0, 0) HB5.out.r0
                    have c0_2 : w5.cell? ⟨w.heap.size, 2, none⟩ = some (.int .i64 0) := cell_of_row _ _ _ _ _ (0, 0) HB5.out.r0
                    have c0_3 : w5.cell? ⟨w.heap.size, 3, none⟩ = some (.int .i64 0) := cell_of_row _ _ _ _ _ (0, 0) HB5.out.r0
                    have c0_4 : w5.cell? ⟨w.heap.size, 4, none⟩ = some (.int .i64 am) := cell_of_row _ _ _ _ _ (0, 0) HB5.out.r0
                    have c0_5 : w5.cell? ⟨w.heap.size, 5, none⟩ = some (.int .i64 tk) := cell_of_row _ _ _ _ _ (0, 0) HB5.out.r0
                    go_wp2_with fail
                    refine (Fe9.out _).mono ?_
                    rintro e w6 ⟨rfl, hb6⟩
                    have HB6 := Lib.hid (HB5.out.next hb6)
                    clear c0_0 c0_1 c0_2 c0_3 c0_4 c0_5 hb6 HB5
                    have c0_0 : w6.cell? ⟨w.heap.size, 0, none⟩ = some (.int .i64 tg) := cell_of_row _ _ _ _ _ (0, 0) HB6.out.r0
                    have c0_1 : w6.cell? ⟨w.heap.size, 1, none⟩ = some (.int .i64 tg) := cell_of_row _ _ _ _ _ (0, 0) HB6.out.r0
                    have c0_2 : w6.cell? ⟨w.heap.size, 2, none⟩ = some (.int .i64 0) := cell_of_row _ _ _ _ _ (0, 0) HB6.out.r0
                    have c0_3 : w6.cell? ⟨w.heap.size, 3, none⟩ = some (.int .i64 0) := cell_of_row _ _ _ _ _ (0, 0) HB6.out.r0
                    have c0_4 : w6.cell? ⟨w.heap.size, 4, none⟩ = some (.int .i64 am) := cell_of_row _ _ _ _ _ (0, 0) HB6.out.r0
                    have c0_5 : w6.cell? ⟨w.heap.size, 5, none⟩ = some (.int .i64 tk) := cell_of_row _ _ _ _ _ (0, 0) HB6.out.r0
                    go_wp2_with fail
                    go_ret
                    exact ⟨rfl, HB6.out.below⟩
                · have hB : (dd == 0) = false := by simpa using e8
                  by_cases e9 : am = 0
                  · subst e9
                    by_cases e10 : tk = 0
                    · subst e10
                      have hR : Rg.isB F ⟨tg, tg, 0, dd, 0, 0⟩ = true := by
                        refine Rg.isB_iff.2 ⟨?_, ?_, ?_, ?_, ?_, ?_, ?_⟩ <;> (try dsimp only) <;> omega
                      rw [hR]
                      clear hR
                      clear e1 e2 e3 e4 e5 e8
                      simp only [Rg.agg]
                      have HB0 := Lib.hid (bxs1 w (.cells #[.int .i64 tg, .int .i64 tg, .int .i64 0, .int .i64 dd, .int .i64 0, .int .i64 0] 23))
                      go_enter Try.func27, Try.ntmps27
                      go_wp2_with fail
                      refine (Fe1.out _).mono ?_
                      rintro e w1 ⟨rfl, hb1⟩
                      have HB1 := Lib.hid (HB0.out.next hb1)
                      clear hb1 HB0
                      have c0_0 : w1.cell? ⟨w.heap.size, 0, none⟩ = some (.int .i64 tg) := cell_of_row _ _ _ _ _ (0, 0) HB1.out.r0
                      have c0_1 : w1.cell? ⟨w.heap.size, 1, none⟩ = some (.int .i64 tg) := cell_of_row _ _ _ _ _ (0, 0) HB1.out.r0
                      have c0_2 : w1.cell? ⟨w.heap.size, 2, none⟩ = some (.int .i64 0) := cell_of_row _ _ _ _ _ (0, 0) HB1.out.r0
                      have c0_3 : w1.cell? ⟨w.heap.size, 3, none⟩ = some (.int .i64 dd) := cell_of_row _ _ _ _ _ (0, 0) HB1.out.r0
                      have c0_4 : w1.cell? ⟨w.heap.size, 4, none⟩ = some (.int .i64 0) := cell_of_row _ _ _ _ _ (0, 0) HB1.out.r0
                      have c0_5 : w1.cell? ⟨w.heap.size, 5, none⟩ = some (.int .i64 0) := cell_of_row _ _ _ _ _ (0, 0) HB1.out.r0
                      go_wp2_with fail
                      refine (Fe2.out _).mono ?_
                      rintro e w2 ⟨rfl, hb2⟩
                      have HB2 := Lib.hid (HB1.out.next hb2)
                      clear c0_0 c0_1 c0_2 c0_3 c0_4 c0_5 hb2 HB1
                      have c0_0 : w2.cell? ⟨w.heap.size, 0, none⟩ = some (.int .i64 tg) := cell_of_row _ _ _ _ _ (0, 0) HB2.out.r0
                      have c0_1 : w2.cell? ⟨w.heap.size, 1, none⟩ = some (.int .i64 tg) := cell_of_row _ _ _ _ _ (0, 0) HB2.out.r0
                      have c0_2 : w2.cell? ⟨w.heap.size, 2, none⟩ = some (.int .i64 0) := cell_of_row _ _ _ _ _ (0, 0) HB2.out.r0
                      have c0_3 : w2.cell? ⟨w.heap.size, 3, none⟩ = some (.int .i64 dd) := cell_of_row _ _ _ _ _ (0, 0) HB2.out.r0
                      have c0_4 : w2.cell? ⟨w.heap.size, 4, none⟩ = some (.int .i64 0) := cell_of_row _ _ _ _ _ (0, 0) HB2.out.r0
                      have c0_5 : w2.cell? ⟨w.heap.size, 5, none⟩ = some (.int .i64 0) := cell_of_row _ _ _ _ _ (0, 0) HB2.out.r0
                      go_wp2_with fail
                      refine (Fe3.out _).mono ?_
                      rintro e w3 ⟨rfl, hb3⟩
                      have HB3 := Lib.hid (HB2.out.next hb3)
                      clear c0_0 c0_1 c0_2 c0_3 c0_4 c0_5 hb3 HB2
                      have c0_0 : w3.cell? ⟨w.heap.size, 0, none⟩ = some (.int .i64 tg) := cell_of_row _ _ _ _ _ (0, 0) HB3.out.r0
                      have c0_1 : w3.cell? ⟨w.heap.size, 1, none⟩ = some (.int .i64 tg) := cell_of_row _ _ _ _ _ (0, 0) HB3.out.r0
                      have c0_2 : w3.cell? ⟨w.heap.size, 2, none⟩ = some (.int .i64 0) := cell_of_row _ _ _ _ _ (0, 0) HB3.out.r0
                      have c0_3 : w3.cell? ⟨w.heap.size, 3, none⟩ = some (.int .i64 dd) := cell_of_row _ _ _ _ _ (0, 0) HB3.out.r0
                      have c0_4 : w3.cell? ⟨w.heap.size, 4, none⟩ = some (.int .i64 0) := cell_of_row _ _ _ _ _ (0, 0) HB3.out.r0
                      have c0_5 : w3.cell? ⟨w.heap.size, 5, none⟩ = some (.int .i64 0) := cell_of_row _ _ _ _ _ (0, 0) HB3.out.r0
                      go_wp2_with fail
                      refine (Fe4.out _).mono ?_
                      rintro e w4 ⟨rfl, hb4⟩
                      have HB4 := Lib.hid (HB3.out.next hb4)
                      clear c0_0 c0_1 c0_2 c0_3 c0_4 c0_5 hb4 HB3
                      have c0_0 : w4.cell? ⟨w.heap.size, 0, none⟩ = some (.int .i64 tg) := cell_of_row _ _ _ _ _ (0, 0) HB4.out.r0
                      have c0_1 : w4.cell? ⟨w.heap.size, 1, none⟩ = some (.int .i64 tg) := cell_of_row _ _ _ _ _ (0, 0) HB4.out.r0
                      have c0_2 : w4.cell? ⟨w.heap.size, 2, none⟩ = some (.int .i64 0) := cell_of_row _ _ _ _ _ (0, 0) HB4.out.r0
                      have c0_3 : w4.cell? ⟨w.heap.size, 3, none⟩ = some (.int .i64 dd) := cell_of_row _ _ _ _ _ (0, 0) HB4.out.r0
                      have c0_4 : w4.cell? ⟨w.heap.size, 4, none⟩ = some (.int .i64 0) := cell_of_row _ _ _ _ _ (0, 0) HB4.out.r0
                      have c0_5 : w4.cell? ⟨w.heap.size, 5, none⟩ = some (.int .i64 0) := cell_of_row _ _ _ _ _ (0, 0) HB4.out.r0
                      go_wp2_with fail
                      refine (Fe5.out _).mono ?_
                      rintro e w5 ⟨rfl, hb5⟩
                      have HB5 := Lib.hid (HB4.out.next hb5)
                      clear c0_0 c0_1 c0_2 c0_3 c0_4 c0_5 hb5 HB4
                      have c0_0 : w5.cell? ⟨w.heap.size, 0, none⟩ = some (.int .i64 tg) := cell_of_row _ _ _ _ _ (0, 0) HB5.out.r0
                      have c0_1 : w5.cell? ⟨w.heap.size, 1, none⟩ = some (.int .i64 tg) := cell_of_row _ _ _ _ _ (0, 0) HB5.out.r0
                      have c0_2 : w5.cell? ⟨w.heap.size, 2, none⟩ = some (.int .i64 0) := cell_of_row _ _ _ _ _ (0, 0) HB5.out.r0
                      have c0_3 : w5.cell? ⟨w.heap.size, 3, none⟩ = some (.int .i64 dd) := cell_of_row _ _ _ _ _ (0, 0) HB5.out.r0
                      have c0_4 : w5.cell? ⟨w.heap.size, 4, none⟩ = some (.int .i64 0) := cell_of_row _ _ _ _ _ (0, 0) HB5.out.r0
                      have c0_5 : w5.cell? ⟨w.heap.size, 5, none⟩ = some (.int .i64 0) := cell_of_row _ _ _ _ _ (0, 0) HB5.out.r0
                      go_wp2_with fail
                      go_ret
                      exact ⟨rfl, HB5.out.below⟩
                    · have hK : (tk == 0) = false := by simpa using e10
                      have hR : Rg.isB F ⟨tg, tg, 0, dd, 0, tk⟩ = false := by
                        cases hq : Rg.isB F ⟨tg, tg, 0, dd, 0, tk⟩
                        · rfl
                        · obtain ⟨z1, z2, z3, z4, z5, z6, z7⟩ := Rg.isB_iff.1 hq
                          simp only at z2 z3 z4 z5 z6 z7
                          exfalso; omega
                      rw [hR]
                      clear hR
                      clear e1 e2 e3 e4 e5 e8 e10
                      simp only [Rg.agg]
                      have HB0 := Lib.hid (bxs1 w (.cells #[.int .i64 tg, .int .i64 tg, .int .i64 0, .int .i64 dd, .int .i64 0, .int .i64 tk] 23))
                      go_enter Try.func27, Try.ntmps27
                      go_wp2_with fail
                      refine (Fe1.out _).mono ?_
                      rintro e w1 ⟨rfl, hb1⟩
                      have HB1 := Lib.hid (HB0.out.next hb1)
                      clear hb1 HB0
                      have c0_0 : w1.cell? ⟨w.heap.size, 0, none⟩ = some (.int .i64 tg) := cell_of_row _ _ _ _ _ (0, 0) HB1.out.r0
                      have c0_1 : w1.cell? ⟨w.heap.size, 1, none⟩ = some (.int .i64 tg) := cell_of_row _ _ _ _ _ (0, 0) HB1.out.r0
                      have c0_2 : w1.cell? ⟨w.heap.size, 2, none⟩ = some (.int .i64 0) := cell_of_row _ _ _ _ _ (0, 0) HB1.out.r0
                      have c0_3 : w1.cell? ⟨w.heap.size, 3, none⟩ = some (.int .i64 dd) := cell_of_row _ _ _ _ _ (0, 0) HB1.out.r0
                      have c0_4 : w1.cell? ⟨w.heap.size, 4, none⟩ = some (.int .i64 0) := cell_of_row _ _ _ _ _ (0, 0) HB1.out.r0
                      have c0_5 : w1.cell? ⟨w.heap.size, 5, none⟩ = some (.int .i64 tk) := cell_of_row _ _ _ _ _ (0, 0) HB1.out.r0
                      go_wp2_with fail
                      refine (Fe2.out _).mono ?_
                      rintro e w2 ⟨rfl, hb2⟩
                      have HB2 := Lib.hid (HB1.out.next hb2)
                      clear c0_0 c0_1 c0_2 c0_3 c0_4 c0_5 hb2 HB1
                      have c0_0 : w2.cell? ⟨w.heap.size, 0, none⟩ = some (.int .i64 tg) := cell_of_row _ _ _ _ _ (0, 0) HB2.out.r0
                      have c0_1 : w2.cell? ⟨w.heap.size, 1, none⟩ = some (.int .i64 tg) := cell_of_row _ _ _ _ _ (0, 0) HB2.out.r0
                      have c0_2 : w2.cell? ⟨w.heap.size, 2, none⟩ = some (.int .i64 0) := cell_of_row _ _ _ _ _ (0, 0) HB2.out.r0
                      have c0_3 : w2.cell? ⟨w.heap.size, 3, none⟩ = some (.int .i64 dd) := cell_of_row _ _ _ _ _ (0, 0) HB2.out.r0
                      have c0_4 : w2.cell? ⟨w.heap.size, 4, none⟩ = some (.int .i64 0) := cell_of_row _ _ _ _ _ (0, 0) HB2.out.r0
                      have c0_5 : w2.cell? ⟨w.heap.size, 5, none⟩ = some (.int .i64 tk) := cell_of_row _ _ _ _ _ (0, 0) HB2.out.r0
                      go_wp2_with fail
                      refine (Fe3.out _).mono ?_
                      rintro e w3 ⟨rfl, hb3⟩
                      have HB3 := Lib.hid (HB2.out.next hb3)
                      clear c0_0 c0_1 c0_2 c0_3 c0_4 c0_5 hb3 HB2
                      have c0_0 : w3.cell? ⟨w.heap.size, 0, none⟩ = some (.int .i64 tg) := cell_of_row _ _ _ _ _ (0, 0) HB3.out.r0
                      have c0_1 : w3.cell? ⟨w.heap.size, 1, none⟩ = some (.int .i64 tg) := cell_of_row _ _ _ _ _ (0, 0) HB3.out.r0
                      have c0_2 : w3.cell? ⟨w.heap.size, 2, none⟩ = some (.int .i64 0) := cell_of_row _ _ _ _ _ (0, 0) HB3.out.r0
                      have c0_3 : w3.cell? ⟨w.heap.size, 3, none⟩ = some (.int .i64 dd) := cell_of_row _ _ _ _ _ (0, 0) HB3.out.r0
                      have c0_4 : w3.cell? ⟨w.heap.size, 4, none⟩ = some (.int .i64 0) := cell_of_row _ _ _ _ _ (0, 0) HB3.out.r0
                      have c0_5 : w3.cell? ⟨w.heap.size, 5, none⟩ = some (.int .i64 tk) := cell_of_row _ _ _ _ _ (0, 0) HB3.out.r0
                      go_wp2_with fail
                      refine (Fe4.out _).mono ?_
                      rintro e w4 ⟨rfl, hb4⟩
                      have HB4 := Lib.hid (HB3.out.next hb4)
                      clear c0_0 c0_1 c0_2 c0_3 c0_4 c0_5 hb4 HB3
                      have c0_0 : w4.cell? ⟨w.heap.size, 0, none⟩ = some (.int .i64 tg) := cell_of_row _ _ _ _ _ (0, 0) HB4.out.r0
                      have c0_1 : w4.cell? ⟨w.heap.size, 1, none⟩ = some (.int .i64 tg) := cell_of_row _ _ _ _ _ (0, 0) HB4.out.r0
                      have c0_2 : w4.cell? ⟨w.heap.size, 2, none⟩ = some (.int .i64 0) := cell_of_row _ _ _ _ _ (0, 0) HB4.out.r0
                      have c0_3 : w4.cell? ⟨w.heap.size, 3, none⟩ = some (.int .i64 dd) := cell_of_row _ _ _ _ _ (0, 0) HB4.out.r0
                      have c0_4 : w4.cell? ⟨w.heap.size, 4, none⟩ = some (.int .i64 0) := cell_of_row _ _ _ _ _ (0, 0) HB4.out.r0
                      have c0_5 : w4.cell? ⟨w.heap.size, 5, none⟩ = some (.int .i64 tk) := cell_of_row _ _ _ _ _ (0, 0) HB4.out.r0
                      go_wp2_with fail
                      refine (Fe5.out _).mono ?_
                      rintro e w5 ⟨rfl, hb5⟩
                      have HB5 := Lib.hid (HB4.out.next hb5)
                      clear c0_0 c0_1 c0_2 c0_3 c0_4 c0_5 hb5 HB4
                      have c0_0 : w5.cell? ⟨w.heap.size, 0, none⟩ = some (.int .i64 tg) := cell_of_row _ _ _ _ _ (0, 0) HB5.out.r0
                      have c0_1 : w5.cell? ⟨w.heap.size, 1, none⟩ = some (.int .i64 tg) := cell_of_row _ _ _ _ _ (0, 0) HB5.out.r0
                      have c0_2 : w5.cell? ⟨w.heap.size, 2, none⟩ = some (.int .i64 0) := cell_of_row _ _ _ _ _ (0, 0) HB5.out.r0
                      have c0_3 : w5.cell? ⟨w.heap.size, 3, none⟩ = some (.int .i64 dd) := cell_of_row _ _ _ _ _ (0, 0) HB5.out.r0
                      have c0_4 : w5.cell? ⟨w.heap.size, 4, none⟩ = some (.int .i64 0) := cell_of_row _ _ _ _ _ (0, 0) HB5.out.r0
                      have c0_5 : w5.cell? ⟨w.heap.size, 5, none⟩ = some (.int .i64 tk) := cell_of_row _ _ _ _ _ (0, 0) HB5.out.r0
                      go_wp2_with fail
                      go_ret
                      exact ⟨rfl, HB5.out.below⟩
                  · have hK : (am == 0) = false := by simpa using e9
                    have hR : Rg.isB F ⟨tg, tg, 0, dd, am, tk⟩ = false := by
                      cases hq : Rg.isB F ⟨tg, tg, 0, dd, am, tk⟩
                      · rfl
                      · obtain ⟨z1, z2, z3, z4, z5, z6, z7⟩ := Rg.isB_iff.1 hq
                        simp only at z2 z3 z4 z5 z6 z7
                        exfalso; omega
                    rw [hR]
                    clear hR
                    clear e1 e2 e3 e4 e5 e8 e9
                    simp only [Rg.agg]
                    have HB0 := Lib.hid (bxs1 w (.cells #[.int .i64 tg, .int .i64 tg, .int .i64 0, .int .i64 dd, .int .i64 am, .int .i64 tk] 23))
                    go_enter Try.func27, Try.ntmps27
                    go_wp2_with fail
                    refine (Fe1.out _).mono ?_
                    rintro e w1 ⟨rfl, hb1⟩
                    have HB1 := Lib.hid (HB0.out.next hb1)
                    clear hb1 HB0
                    have c0_0 : w1.cell? ⟨w.heap.size, 0, none⟩ = some (.int .i64 tg) := cell_of_row _ _ _ _ _ (0, 0) HB1.out.r0
                    have c0_1 : w1.cell? ⟨w.heap.size, 1, none⟩ = some (.int .i64 tg) := cell_of_row _ _ _ _ _ (0, 0) HB1.out.r0
                    have c0_2 : w1.cell? ⟨w.heap.size, 2, none⟩ = some (.int .i64 0) := cell_of_row _ _ _ _ _ (0, 0) HB1.out.r0
                    have c0_3 : w1.cell? ⟨w.heap.size, 3, none⟩ = some (.int .i64 dd) := cell_of_row _ _ _ _ _ (0, 0) HB1.out.r0
                    have c0_4 : w1.cell? ⟨w.heap.size, 4, none⟩ = some (.int .i64 am) := cell_of_row _ _ _ _ _ (0, 0) HB1.out.r0
                    have c0_5 : w1.cell? ⟨w.heap.size, 5, none⟩ = some (.int .i64 tk) := cell_of_row _ _ _ _ _ (0, 0) HB1.out.r0
                    go_wp2_with fail
                    refine (Fe2.out _).mono ?_
                    rintro e w2 ⟨rfl, hb2⟩
                    have HB2 := Lib.hid (HB1.out.next hb2)
                    clear c0_0 c0_1 c0_2 c0_3 c0_4 c0_5 hb2 HB1
                    have c0_0 : w2.cell? ⟨w.heap.size, 0, none⟩ = some (.int .i64 tg) := cell_of_row _ _ _ _ _ (0, 0) HB2.out.r0
                    have c0_1 : w2.cell? ⟨w.heap.size, 1, none⟩ = some (.int .i64 tg) := cell_of_row _ _ _ _ _ (0, 0) HB2.out.r0
                    have c0_2 : w2.cell? ⟨w.heap.size, 2, none⟩ = some (.int .i64 0) := cell_of_row _ _ _ _ _ (0, 0) HB2.out.r0
                    have c0_3 : w2.cell? ⟨w.heap.size, 3, none⟩ = some (.int .i64 dd) := cell_of_row _ _ _ _ _ (0, 0) HB2.out.r0
                    have c0_4 : w2.cell? ⟨w.heap.size, 4, none⟩ = some (.int .i64 am) := cell_of_row _ _ _ _ _ (0, 0) HB2.out.r0
                    have c0_5 : w2.cell? ⟨w.heap.size, 5, none⟩ = some (.int .i64 tk) := cell_of_row _ _ _ _ _ (0, 0) HB2.out.r0
                    go_wp2_with fail
                    refine (Fe3.out _).mono ?_
                    rintro e w3 ⟨rfl, hb3⟩
                    have HB3 := Lib.hid (HB2.out.next hb3)
                    clear c0_0 c0_1 c0_2 c0_3 c0_4 c0_5 hb3 HB2
                    have c0_0 : w3.cell? ⟨w.heap.size, 0, none⟩ = some (.int .i64 tg) := cell_of_row _ _ _ _ _ (0, 0) HB3.out.r0
                    have c0_1 : w3.cell? ⟨w.heap.size, 1, none⟩ = some (.int .i64 tg) := cell_of_row _ _ _ _ _ (0, 0) HB3.out.r0
                    have c0_2 : w3.cell? ⟨w.heap.size, 2, none⟩ = some (.int .i64 0) := cell_of_row _ _ _ _ _ (0, 0) HB3.out.r0
                    have c0_3 : w3.cell? ⟨w.heap.size, 3, none⟩ = some (.int .i64 dd) := cell_of_row _ _ _ _ _ (0, 0) HB3.out.r0
                    have c0_4 : w3.cell? ⟨w.heap.size, 4, none⟩ = some (.int .i64 am) := cell_of_row _ _ _ _ _ (0, 0) HB3.out.r0
                    have c0_5 : w3.cell? ⟨w.heap.size, 5, none⟩ = some (.int .i64 tk) := cell_of_row _ _ _ _ _ (0, 0) HB3.out.r0
                    go_wp2_with fail
                    refine (Fe4.out _).mono ?_
                    rintro e w4 ⟨rfl, hb4⟩
                    have HB4 := Lib.hid (HB3.out.next hb4)
                    clear c0_0 c0_1 c0_2 c0_3 c0_4 c0_5 hb4 HB3
                    have c0_0 : w4.cell? ⟨w.heap.size, 0, none⟩ = some (.int .i64 tg) := cell_of_row _ _ _ _ _ (0, 0) HB4.out.r0
                    have c0_1 : w4.cell? ⟨w.heap.size, 1, none⟩ = some (.int .i64 tg) := cell_of_row _ _ _ _ _ (0, 0) HB4.out.r0
                    have c0_2 : w4.cell? ⟨w.heap.size, 2, none⟩ = some (.int .i64 0) := cell_of_row _ _ _ _ _ (0, 0) HB4.out.r0
                    have c0_3 : w4.cell? ⟨w.heap.size, 3, none⟩ = some (.int .i64 dd) := cell_of_row _ _ _ _ _ (0, 0) HB4.out.r0
                    have c0_4 : w4.cell? ⟨w.heap.size, 4, none⟩ = some (.int .i64 am) := cell_of_row _ _ _ _ _ (0, 0) HB4.out.r0
                    have c0_5 : w4.cell? ⟨w.heap.size, 5, none⟩ = some (.int .i64 tk) := cell_of_row _ _ _ _ _ (0, 0) HB4.out.r0
                    go_wp2_with fail
                    refine (Fe5.out _).mono ?_
                    rintro e w5 ⟨rfl, hb5⟩
                    have HB5 := Lib.hid (HB4.out.next hb5)
                    clear c0_0 c0_1 c0_2 c0_3 c0_4 c0_5 hb5 HB4
                    have c0_0 : w5.cell? ⟨w.heap.size, 0, none⟩ = some (.int .i64 tg) := cell_of_row _ _ _ _ _ (0, 0) HB5.out.r0
                    have c0_1 : w5.cell? ⟨w.heap.size, 1, none⟩ = some (.int .i64 tg) := cell_of_row _ _ _ _ _ (0, 0) HB5.out.r0
                    have c0_2 : w5.cell? ⟨w.heap.size, 2, none⟩ = some (.int .i64 0) := cell_of_row _ _ _ _ _ (0, 0) HB5.out.r0
                    have c0_3 : w5.cell? ⟨w.heap.size, 3, none⟩ = some (.int .i64 dd) := cell_of_row _ _ _ _ _ (0, 0) HB5.out.r0
                    have c0_4 : w5.cell? ⟨w.heap.size, 4, none⟩ = some (.int .i64 am) := cell_of_row _ _ _ _ _ (0, 0) HB5.out.r0
                    have c0_5 : w5.cell? ⟨w.heap.size, 5, none⟩ = some (.int .i64 tk) := cell_of_row _ _ _ _ _ (0, 0) HB5.out.r0
                    go_wp2_with fail
                    go_ret
                    exact ⟨rfl, HB5.out.below⟩
              · have hB : (lf != 0) = true := by simpa using e7
                have hR : Rg.isB F ⟨tg, tg, lf, dd, am, tk⟩ = false := by
                  cases hq : Rg.isB F ⟨tg, tg, lf, dd, am, tk⟩
                  · rfl
                  · obtain ⟨z1, z2, z3, z4, z5, z6, z7⟩ := Rg.isB_iff.1 hq
                    simp only at z2 z3 z4 z5 z6 z7
                    exfalso; omega
                rw [hR]
                clear hR
                clear e1 e2 e3 e4 e5 e7
                simp only [Rg.agg]
                have HB0 := Lib.hid (bxs1 w (.cells #[.int .i64 tg, .int .i64 tg, .int .i64 lf, .int .i64 dd, .int .i64 am, .int .i64 tk] 23))
                go_enter Try.func27, Try.ntmps27
                go_wp2_with fail
                refine (Fe1.out _).mono ?_
                rintro e w1 ⟨rfl, hb1⟩
                have HB1 := Lib.hid (HB0.out.next hb1)
                clear hb1 HB0
                have c0_0 : w1.cell? ⟨w.heap.size, 0, none⟩ = some (.int .i64 tg) := cell_of_row _ _ _ _ _ (0, 0) HB1.out.r0
                have c0_1 : w1.cell? ⟨w.heap.size, 1, none⟩ = some (.int .i64 tg) := cell_of_row _ _ _ _ _ (0, 0) HB1.out.r0
                have c0_2 : w1.cell? ⟨w.heap.size, 2, none⟩ = some (.int .i64 lf) := cell_of_row _ _ _ _ _ (0, 0) HB1.out.r0
                have c0_3 : w1.cell? ⟨w.heap.size, 3, none⟩ = some (.int .i64 dd) := cell_of_row _ _ _ _ _ (0, 0) HB1.out.r0
                have c0_4 : w1.cell? ⟨w.heap.size, 4, none⟩ = some (.int .i64 am) := cell_of_row _ _ _ _ _ (0, 0) HB1.out.r0
                have c0_5 : w1.cell? ⟨w.heap.size, 5, none⟩ = some (.int .i64 tk) := cell_of_row _ _ _ _ _ (0, 0) HB1.out.r0
                go_wp2_with fail
                refine (Fe2.out _).mono ?_
                rintro e w2 ⟨rfl, hb2⟩
                have HB2 := Lib.hid (HB1.out.next hb2)
                clear c0_0 c0_1 c0_2 c0_3 c0_4 c0_5 hb2 HB1
                have c0_0 : w2.cell? ⟨w.heap.size, 0, none⟩ = some (.int .i64 tg) := cell_of_row _ _ _ _ _ (0, 0) HB2.out.r0
                have c0_1 : w2.cell? ⟨w.heap.size, 1, none⟩ = some (.int .i64 tg) := cell_of_row _ _ _ _ _ (0, 0) HB2.out.r0
                have c0_2 : w2.cell? ⟨w.heap.size, 2, none⟩ = some (.int .i64 lf) := cell_of_row _ _ _ _ _ (0, 0) HB2.out.r0
                have c0_3 : w2.cell? ⟨w.heap.size, 3, none⟩ = some (.int .i64 dd) := cell_of_row _ _ _ _ _ (0, 0) HB2.out.r0
                have c0_4 : w2.cell? ⟨w.heap.size, 4, none⟩ = some (.int .i64 am) := cell_of_row _ _ _ _ _ (0, 0) HB2.out.r0
                have c0_5 : w2.cell? ⟨w.heap.size, 5, none⟩ = some (.int .i64 tk) := cell_of_row _ _ _ _ _ (0, 0) HB2.out.r0
                go_wp2_with fail
                refine (Fe3.out _).mono ?_
                rintro e w3 ⟨rfl, hb3⟩
                have HB3 := Lib.hid (HB2.out.next hb3)
                clear c0_0 c0_1 c0_2 c0_3 c0_4 c0_5 hb3 HB2
                have c0_0 : w3.cell? ⟨w.heap.size, 0, none⟩ = some (.int .i64 tg) := cell_of_row _ _ _ _ _ (0, 0) HB3.out.r0
                have c0_1 : w3.cell? ⟨w.heap.size, 1, none⟩ = some (.int .i64 tg) := cell_of_row _ _ _ _ _ (0, 0) HB3.out.r0
                have c0_2 : w3.cell? ⟨w.heap.size, 2, none⟩ = some (.int .i64 lf) := cell_of_row _ _ _ _ _ (0, 0) HB3.out.r0
                have c0_3 : w3.cell? ⟨w.heap.size, 3, none⟩ = some (.int .i64 dd) := cell_of_row _ _ _ _ _ (0, 0) HB3.out.r0
                have c0_4 : w3.cell? ⟨w.heap.size, 4, none⟩ = some (.int .i64 am) := cell_of_row _ _ _ _ _ (0, 0) HB3.out.r0
                have c0_5 : w3.cell? ⟨w.heap.size, 5, none⟩ = some (.int .i64 tk) := cell_of_row _ _ _ _ _ (0, 0) HB3.out.r0
                go_wp2_with fail
                refine (Fe4.out _).mono ?_
                rintro e w4 ⟨rfl, hb4⟩
                have HB4 := Lib.hid (HB3.out.next hb4)
                clear c0_0 c0_1 c0_2 c0_3 c0_4 c0_5 hb4 HB3
                have c0_0 : w4.cell? ⟨w.heap.size, 0, none⟩ = some (.int .i64 tg) := cell_of_row _ _ _ _ _ (0, 0) HB4.out.r0
                have c0_1 : w4.cell? ⟨w.heap.size, 1, none⟩ = some (.int .i64 tg) := cell_of_row _ _ _ _ _ (0, 0) HB4.out.r0
                have c0_2 : w4.cell? ⟨w.heap.size, 2, none⟩ = some (.int .i64 lf) := cell_of_row _ _ _ _ _ (0, 0) HB4.out.r0
                have c0_3 : w4.cell? ⟨w.heap.size, 3, none⟩ = some (.int .i64 dd) := cell_of_row _ _ _ _ _ (0, 0) HB4.out.r0
                have c0_4 : w4.cell? ⟨w.heap.size, 4, none⟩ = some (.int .i64 am) := cell_of_row _ _ _ _ _ (0, 0) HB4.out.r0
                have c0_5 : w4.cell? ⟨w.heap.size, 5, none⟩ = some (.int .i64 tk) := cell_of_row _ _ _ _ _ (0, 0) HB4.out.r0
                go_wp2_with fail
                refine (Fe5.out _).mono ?_
                rintro e w5 ⟨rfl, hb5⟩
                have HB5 := Lib.hid (HB4.out.next hb5)
                clear c0_0 c0_1 c0_2 c0_3 c0_4 c0_5 hb5 HB4
                have c0_0 : w5.cell? ⟨w.heap.size, 0, none⟩ = some (.int .i64 tg) := cell_of_row _ _ _ _ _ (0, 0) HB5.out.r0
                have c0_1 : w5.cell? ⟨w.heap.size, 1, none⟩ = some (.int .i64 tg) := cell_of_row _ _ _ _ _ (0, 0) HB5.out.r0
                have c0_2 : w5.cell? ⟨w.heap.size, 2, none⟩ = some (.int .i64 lf) := cell_of_row _ _ _ _ _ (0, 0) HB5.out.r0
                have c0_3 : w5.cell? ⟨w.heap.size, 3, none⟩ = some (.int .i64 dd) := cell_of_row _ _ _ _ _ (0, 0) HB5.out.r0
                have c0_4 : w5.cell? ⟨w.heap.size, 4, none⟩ = some (.int .i64 am) := cell_of_row _ _ _ _ _ (0, 0) HB5.out.r0
                have c0_5 : w5.cell? ⟨w.heap.size, 5, none⟩ = some (.int .i64 tk) := cell_of_row _ _ _ _ _ (0, 0) HB5.out.r0
                go_wp2_with fail
                go_ret
                exact ⟨rfl, HB5.out.below⟩
            · have hB : (tg == fl) = false := by simpa using e6
              have hC : (tg != fl) = true := by simpa using e6
              by_cases e7 : 1 ≤ lf ∧ lf ≤ 10000
              · have Fe7 := Lib.hid (fun wx => playIn_any lf 1 10000 wx)
                rw [Nc.wi_yes e7] at Fe7
                by_cases e8 : dd = 2
                · subst e8
                  by_cases e9 : am = 0
                  · subst e9
                    by_cases e10 : tk = 0
                    · subst e10
                      have hR : Rg.isB F ⟨fl, tg, lf, 2, 0, 0⟩ = true := by
                        refine Rg.isB_iff.2 ⟨?_, ?_, ?_, ?_, ?_, ?_, ?_⟩ <;> (try dsimp only) <;> omega
                      rw [hR]
                      clear hR
                      clear e1 e2 e3 e4 e5 e6 e7
                      simp only [Rg.agg]
                      have HB0 := Lib.hid (bxs1 w (.cells #[.int .i64 fl, .int .i64 tg, .int .i64 lf, .int .i64 2, .int .i64 0, .int .i64 0] 23))
                      go_enter Try.func27, Try.ntmps27
                      go_wp2_with fail
                      refine (Fe1.out _).mono ?_
                      rintro e w1 ⟨rfl, hb1⟩
                      have HB1 := Lib.hid (HB0.out.next hb1)
                      clear hb1 HB0
                      have c0_0 : w1.cell? ⟨w.heap.size, 0, none⟩ = some (.int .i64 fl) := cell_of_row _ _ _ _ _ (0, 0) HB1.out.r0
                      have c0_1 : w1.cell? ⟨w.heap.size, 1, none⟩ = some (.int .i64 tg) := cell_of_row _ _ _ _ _ (0, 0) HB1.out.r0
                      have c0_2 : w1.cell? ⟨w.heap.size, 2, none⟩ = some (.int .i64 lf) := cell_of_row _ _ _ _ _ (0, 0) HB1.out.r0
                      have c0_3 : w1.cell? ⟨w.heap.size, 3, none⟩ = some (.int .i64 2) := cell_of_row _ _ _ _ _ (0, 0) HB1.out.r0
                      have c0_4 : w1.cell? ⟨w.heap.size, 4, none⟩ = some (.int .i64 0) := cell_of_row _ _ _ _ _ (0, 0) HB1.out.r0
                      have c0_5 : w1.cell? ⟨w.heap.size, 5, none⟩ = some (.int .i64 0) := cell_of_row _ _ _ _ _ (0, 0) HB1.out.r0
                      go_wp2_with fail
                      refine (Fe2.out _).mono ?_
                      rintro e w2 ⟨rfl, hb2⟩
                      have HB2 := Lib.hid (HB1.out.next hb2)
                      clear c0_0 c0_1 c0_2 c0_3 c0_4 c0_5 hb2 HB1
                      have c0_0 : w2.cell? ⟨w.heap.size, 0, none⟩ = some (.int .i64 fl) := cell_of_row _ _ _ _ _ (0, 0) HB2.out.r0
                      have c0_1 : w2.cell? ⟨w.heap.size, 1, none⟩ = some (.int .i64 tg) := cell_of_row _ _ _ _ _ (0, 0) HB2.out.r0
                      have c0_2 : w2.cell? ⟨w.heap.size, 2, none⟩ = some (.int .i64 lf) := cell_of_row _ _ _ _ _ (0, 0) HB2.out.r0
                      have c0_3 : w2.cell? ⟨w.heap.size, 3, none⟩ = some (.int .i64 2) := cell_of_row _ _ _ _ _ (0, 0) HB2.out.r0
                      have c0_4 : w2.cell? ⟨w.heap.size, 4, none⟩ = some (.int .i64 0) := cell_of_row _ _ _ _ _ (0, 0) HB2.out.r0
                      have c0_5 : w2.cell? ⟨w.heap.size, 5, none⟩ = some (.int .i64 0) := cell_of_row _ _ _ _ _ (0, 0) HB2.out.r0
                      go_wp2_with fail
                      refine (Fe3.out _).mono ?_
                      rintro e w3 ⟨rfl, hb3⟩
                      have HB3 := Lib.hid (HB2.out.next hb3)
                      clear c0_0 c0_1 c0_2 c0_3 c0_4 c0_5 hb3 HB2
                      have c0_0 : w3.cell? ⟨w.heap.size, 0, none⟩ = some (.int .i64 fl) := cell_of_row _ _ _ _ _ (0, 0) HB3.out.r0
                      have c0_1 : w3.cell? ⟨w.heap.size, 1, none⟩ = some (.int .i64 tg) := cell_of_row _ _ _ _ _ (0, 0) HB3.out.r0
                      have c0_2 : w3.cell? ⟨w.heap.size, 2, none⟩ = some (.int .i64 lf) := cell_of_row _ _ _ _ _ (0, 0) HB3.out.r0
                      have c0_3 : w3.cell? ⟨w.heap.size, 3, none⟩ = some (.int .i64 2) := cell_of_row _ _ _ _ _ (0, 0) HB3.out.r0
                      have c0_4 : w3.cell? ⟨w.heap.size, 4, none⟩ = some (.int .i64 0) := cell_of_row _ _ _ _ _ (0, 0) HB3.out.r0
                      have c0_5 : w3.cell? ⟨w.heap.size, 5, none⟩ = some (.int .i64 0) := cell_of_row _ _ _ _ _ (0, 0) HB3.out.r0
                      go_wp2_with fail
                      refine (Fe4.out _).mono ?_
                      rintro e w4 ⟨rfl, hb4⟩
                      have HB4 := Lib.hid (HB3.out.next hb4)
                      clear c0_0 c0_1 c0_2 c0_3 c0_4 c0_5 hb4 HB3
                      have c0_0 : w4.cell? ⟨w.heap.size, 0, none⟩ = some (.int .i64 fl) := cell_of_row _ _ _ _ _ (0, 0) HB4.out.r0
                      have c0_1 : w4.cell? ⟨w.heap.size, 1, none⟩ = some (.int .i64 tg) := cell_of_row _ _ _ _ _ (0, 0) HB4.out.r0
                      have c0_2 : w4.cell? ⟨w.heap.size, 2, none⟩ = some (.int .i64 lf) := cell_of_row _ _ _ _ _ (0, 0) HB4.out.r0
                      have c0_3 : w4.cell? ⟨w.heap.size, 3, none⟩ = some (.int .i64 2) := cell_of_row _ _ _ _ _ (0, 0) HB4.out.r0
                      have c0_4 : w4.cell? ⟨w.heap.size, 4, none⟩ = some (.int .i64 0) := cell_of_row _ _ _ _ _ (0, 0) HB4.out.r0
                      have c0_5 : w4.cell? ⟨w.heap.size, 5, none⟩ = some (.int .i64 0) := cell_of_row _ _ _ _ _ (0, 0) HB4.out.r0
                      go_wp2_with fail
                      refine (Fe5.out _).mono ?_
                      rintro e w5 ⟨rfl, hb5⟩
                      have HB5 := Lib.hid (HB4.out.next hb5)
                      clear c0_0 c0_1 c0_2 c0_3 c0_4 c0_5 hb5 HB4
                      have c0_0 : w5.cell? ⟨w.heap.size, 0, none⟩ = some (.int .i64 fl) := cell_of_row _ _ _ _ _ (0, 0) HB5.out.r0
                      have c0_1 : w5.cell? ⟨w.heap.size, 1, none⟩ = some (.int .i64 tg) := cell_of_row _ _ _ _ _ (0, 0) HB5.out.r0
                      have c0_2 : w5.cell? ⟨w.heap.size, 2, none⟩ = some (.int .i64 lf) := cell_of_row _ _ _ _ _ (0, 0) HB5.out.r0
                      have c0_3 : w5.cell? ⟨w.heap.size, 3, none⟩ = some (.int .i64 2) := cell_of_row _ _ _ _ _ (0, 0) HB5.out.r0
                      have c0_4 : w5.cell? ⟨w.heap.size, 4, none⟩ = some (.int .i64 0) := cell_of_row _ _ _ _ _ (0, 0) HB5.out.r0
                      have c0_5 : w5.cell? ⟨w.heap.size, 5, none⟩ = some (.int .i64 0) := cell_of_row _ _ _ _ _ (0, 0) HB5.out.r0
                      go_wp2_with fail
                      refine (Fe7.out _).mono ?_
                      rintro e w6 ⟨rfl, hb6⟩
                      have HB6 := Lib.hid (HB5.out.next hb6)
                      clear c0_0 c0_1 c0_2 c0_3 c0_4 c0_5 hb6 HB5
                      have c0_0 : w6.cell? ⟨w.heap.size, 0, none⟩ = some (.int .i64 fl) := cell_of_row _ _ _ _ _ (0, 0) HB6.out.r0
                      have c0_1 : w6.cell? ⟨w.heap.size, 1, none⟩ = some (.int .i64 tg) := cell_of_row _ _ _ _ _ (0, 0) HB6.out.r0
                      have c0_2 : w6.cell? ⟨w.heap.size, 2, none⟩ = some (.int .i64 lf) := cell_of_row _ _ _ _ _ (0, 0) HB6.out.r0
                      have c0_3 : w6.cell? ⟨w.heap.size, 3, none⟩ = some (.int .i64 2) := cell_of_row _ _ _ _ _ (0, 0) HB6.out.r0
                      have c0_4 : w6.cell? ⟨w.heap.size, 4, none⟩ = some (.int .i64 0) := cell_of_row _ _ _ _ _ (0, 0) HB6.out.r0
                      have c0_5 : w6.cell? ⟨w.heap.size, 5, none⟩ = some (.int .i64 0) := cell_of_row _ _ _ _ _ (0, 0) HB6.out.r0
                      go_wp2_with fail
                      go_ret
                      exact ⟨rfl, HB6.out.below⟩
                    · have hK : (tk == 0) = false := by simpa using e10
                      have hR : Rg.isB F ⟨fl, tg, lf, 2, 0, tk⟩ = false := by
                        cases hq : Rg.isB F ⟨fl, tg, lf, 2, 0, tk⟩
                        · rfl
                        · obtain ⟨z1, z2, z3, z4, z5, z6, z7⟩ := Rg.isB_iff.1 hq
                          simp only at z2 z3 z4 z5 z6 z7
                          exfalso; omega
                      rw [hR]
                      clear hR
                      clear e1 e2 e3 e4 e5 e6 e7 e10
                      simp only [Rg.agg]
                      have HB0 := Lib.hid (bxs1 w (.cells #[.int .i64 fl, .int .i64 tg, .int .i64 lf, .int .i64 2, .int .i64 0, .int .i64 tk] 23))
                      go_enter Try.func27, Try.ntmps27
                      go_wp2_with fail
                      refine (Fe1.out _).mono ?_
                      rintro e w1 ⟨rfl, hb1⟩
                      have HB1 := Lib.hid (HB0.out.next hb1)
                      clear hb1 HB0
                      have c0_0 : w1.cell? ⟨w.heap.size, 0, none⟩ = some (.int .i64 fl) := cell_of_row _ _ _ _ _ (0, 0) HB1.out.r0
                      have c0_1 : w1.cell? ⟨w.heap.size, 1, none⟩ = some (.int .i64 tg) := cell_of_row _ _ _ _ _ (0, 0) HB1.out.r0
                      have c0_2 : w1.cell? ⟨w.heap.size, 2, none⟩ = some (.int .i64 lf) := cell_of_row _ _ _ _ _ (0, 0) HB1.out.r0
                      have c0_3 : w1.cell? ⟨w.heap.size, 3, none⟩ = some (.int .i64 2) := cell_of_row _ _ _ _ _ (0, 0) HB1.out.r0
                      have c0_4 : w1.cell? ⟨w.heap.size, 4, none⟩ = some (.int .i64 0) := cell_of_row _ _ _ _ _ (0, 0) HB1.out.r0
                      have c0_5 : w1.cell? ⟨w.heap.size, 5, none⟩ = some (.int .i64 tk) := cell_of_row _ _ _ _ _ (0, 0) HB1.out.r0
                      go_wp2_with fail
                      refine (Fe2.out _).mono ?_
                      rintro e w2 ⟨rfl, hb2⟩
                      have HB2 := Lib.hid (HB1.out.next hb2)
                      clear c0_0 c0_1 c0_2 c0_3 c0_4 c0_5 hb2 HB1
                      have c0_0 : w2.cell? ⟨w.heap.size, 0, none⟩ = some (.int .i64 fl) := cell_of_row _ _ _ _ _ (0, 0) HB2.out.r0
                      have c0_1 : w2.cell? ⟨w.heap.size, 1, none⟩ = some (.int .i64 tg) := cell_of_row _ _ _ _ _ (0, 0) HB2.out.r0
                      have c0_2 : w2.cell? ⟨w.heap.size, 2, none⟩ = some (.int .i64 lf) := cell_of_row _ _ _ _ _ (0, 0) HB2.out.r0
                      have c0_3 : w2.cell? ⟨w.heap.size, 3, none⟩ = some (.int .i64 2) := cell_of_row _ _ _ _ _ (0, 0) HB2.out.r0
                      have c0_4 : w2.cell? ⟨w.heap.size, 4, none⟩ = some (.int .i64 0) := cell_of_row _ _ _ _ _ (0, 0) HB2.out.r0
                      have c0_5 : w2.cell? ⟨w.heap.size, 5, none⟩ = some (.int .i64 tk) := cell_of_row _ _ _ _ _ (0, 0) HB2.out.r0
                      go_wp2_with fail
                      refine (Fe3.out _).mono ?_
                      rintro e w3 ⟨rfl, hb3⟩
                      have HB3 := Lib.hid (HB2.out.next hb3)
                      clear c0_0 c0_1 c0_2 c0_3 c0_4 c0_5 hb3 HB2
                      have c0_0 : w3.cell? ⟨w.heap.size, 0, none⟩ = some (.int .i64 fl) := cell_of_row _ _ _ _ _ (0, 0) HB3.out.r0
                      have c0_1 : w3.cell? ⟨w.heap.size, 1, none⟩ = some (.int .i64 tg) := cell_of_row _ _ _ _ _ (0, 0) HB3.out.r0
                      have c0_2 : w3.cell? ⟨w.heap.size, 2, none⟩ = some (.int .i64 lf) := cell_of_row _ _ _ _ _ (0, 0) HB3.out.r0
                      have c0_3 : w3.cell? ⟨w.heap.size, 3, none⟩ = some (.int .i64 2) := cell_of_row _ _ _ _ _ (0, 0) HB3.out.r0
                      have c0_4 : w3.cell? ⟨w.heap.size, 4, none⟩ = some (.int .i64 0) := cell_of_row _ _ _ _ _ (0, 0) HB3.out.r0
                      have c0_5 : w3.cell? ⟨w.heap.size, 5, none⟩ = some (.int .i64 tk) := cell_of_row _ _ _ _ _ (0, 0) HB3.out.r0
                      go_wp2_with fail
                      refine (Fe4.out _).mono ?_
                      rintro e w4 ⟨rfl, hb4⟩
                      have HB4 := Lib.hid (HB3.out.next hb4)
                      clear c0_0 c0_1 c0_2 c0_3 c0_4 c0_5 hb4 HB3
                      have c0_0 : w4.cell? ⟨w.heap.size, 0, none⟩ = some (.int .i64 fl) := cell_of_row _ _ _ _ _ (0, 0) HB4.out.r0
                      have c0_1 : w4.cell? ⟨w.heap.size, 1, none⟩ = some (.int .i64 tg) := cell_of_row _ _ _ _ _ (0, 0) HB4.out.r0
                      have c0_2 : w4.cell? ⟨w.heap.size, 2, none⟩ = some (.int .i64 lf) := cell_of_row _ _ _ _ _ (0, 0) HB4.out.r0
                      have c0_3 : w4.cell? ⟨w.heap.size, 3, none⟩ = some (.int .i64 2) := cell_of_row _ _ _ _ _ (0, 0) HB4.out.r0
                      have c0_4 : w4.cell? ⟨w.heap.size, 4, none⟩ = some (.int .i64 0) := cell_of_row _ _ _ _ _ (0, 0) HB4.out.r0
                      have c0_5 : w4.cell? ⟨w.heap.size, 5, none⟩ = some (.int .i64 tk) := cell_of_row _ _ _ _ _ (0, 0) HB4.out.r0
                      go_wp2_with fail
                      refine (Fe5.out _).mono ?_
                      rintro e w5 ⟨rfl, hb5⟩
                      have HB5 := Lib.hid (HB4.out.next hb5)
                      clear c0_0 c0_1 c0_2 c0_3 c0_4 c0_5 hb5 HB4
                      have c0_0 : w5.cell? ⟨w.heap.size, 0, none⟩ = some (.int .i64 fl) := cell_of_row _ _ _ _ _ (0, 0) HB5.out.r0
                      have c0_1 : w5.cell? ⟨w.heap.size, 1, none⟩ = some (.int .i64 tg) := cell_of_row _ _ _ _ _ (0, 0) HB5.out.r0
                      have c0_2 : w5.cell? ⟨w.heap.size, 2, none⟩ = some (.int .i64 lf) := cell_of_row _ _ _ _ _ (0, 0) HB5.out.r0
                      have c0_3 : w5.cell? ⟨w.heap.size, 3, none⟩ = some (.int .i64 2) := cell_of_row _ _ _ _ _ (0, 0) HB5.out.r0
                      have c0_4 : w5.cell? ⟨w.heap.size, 4, none⟩ = some (.int .i64 0) := cell_of_row _ _ _ _ _ (0, 0) HB5.out.r0
                      have c0_5 : w5.cell? ⟨w.heap.size, 5, none⟩ = some (.int .i64 tk) := cell_of_row _ _ _ _ _ (0, 0) HB5.out.r0
                      go_wp2_with fail
                      refine (Fe7.out _).mono ?_
                      rintro e w6 ⟨rfl, hb6⟩
                      have HB6 := Lib.hid (HB5.out.next hb6)
                      clear c0_0 c0_1 c0_2 c0_3 c0_4 c0_5 hb6 HB5
                      have c0_0 : w6.cell? ⟨w.heap.size, 0, none⟩ = some (.int .i64 fl) := cell_of_row _ _ _ _ _ (0, 0) HB6.out.r0
                      have c0_1 : w6.cell? ⟨w.heap.size, 1, none⟩ = some (.int .i64 tg) := cell_of_row _ _ _ _ _ (0, 0) HB6.out.r0
                      have c0_2 : w6.cell? ⟨w.heap.size, 2, none⟩ = some (.int .i64 lf) := cell_of_row _ _ _ _ _ (0, 0) HB6.out.r0
                      have c0_3 : w6.cell? ⟨w.heap.size, 3, none⟩ = some (.int .i64 2) := cell_of_row _ _ _ _ _ (0, 0) HB6.out.r0
                      have c0_4 : w6.cell? ⟨w.heap.size, 4, none⟩ = some (.int .i64 0) := cell_of_row _ _ _ _ _ (0, 0) HB6.out.r0
                      have c0_5 : w6.cell? ⟨w.heap.size, 5, none⟩ = some (.int .i64 tk) := cell_of_row _ _ _ _ _ (0, 0) HB6.out.r0
                      go_wp2_with fail
                      go_ret
                      exact ⟨rfl, HB6.out.below⟩
                  · have hK : (am == 0) = false := by simpa using e9
                    have hR : Rg.isB F ⟨fl, tg, lf, 2, am, tk⟩ = false := by
                      cases hq : Rg.isB F ⟨fl, tg, lf, 2, am, tk⟩
                      · rfl
                      · obtain ⟨z1, z2, z3, z4, z5, z6, z7⟩ := Rg.isB_iff.1 hq
                        simp only at z2 z3 z4 z5 z6 z7
                        exfalso; omega
                    rw [hR]
                    clear hR
                    clear e1 e2 e3 e4 e5 e6 e7 e9
                    simp only [Rg.agg]
                    have HB0 := Lib.hid (bxs1 w (.cells #[.int .i64 fl, .int .i64 tg, .int .i64 lf, .int .i64 2, .int .i64 am, .int .i64 tk] 23))
                    go_enter Try.func27, Try.ntmps27
                    go_wp2_with fail
                    refine (Fe1.out _).mono ?_
                    rintro e w1 ⟨rfl, hb1⟩
                    have HB1 := Lib.hid (HB0.out.next hb1)
                    clear hb1 HB0
                    have c0_0 : w1.cell? ⟨w.heap.size, 0, none⟩ = some (.int .i64 fl) := cell_of_row _ _ _ _ _ (0, 0) HB1.out.r0
                    have c0_1 : w1.cell? ⟨w.heap.size, 1, none⟩ = some (.int .i64 tg) := cell_of_row _ _ _ _ _ (0, 0) HB1.out.r0
                    have c0_2 : w1.cell? ⟨w.heap.size, 2, none⟩ = some (.int .i64 lf) := cell_of_row _ _ _ _ _ (0, 0) HB1.out.r0
                    have c0_3 : w1.cell? ⟨w.heap.size, 3, none⟩ = some (.int .i64 2) := cell_of_row _ _ _ _ _ (0, 0) HB1.out.r0
                    have c0_4 : w1.cell? ⟨w.heap.size, 4, none⟩ = some (.int .i64 am) := cell_of_row _ _ _ _ _ (0, 0) HB1.out.r0
                    have c0_5 : w1.cell? ⟨w.heap.size, 5, none⟩ = some (.int .i64 tk) := cell_of_row _ _ _ _ _ (0, 0) HB1.out.r0
                    go_wp2_with fail
                    refine (Fe2.out _).mono ?_
                    rintro e w2 ⟨rfl, hb2⟩
                    have HB2 := Lib.hid (HB1.out.next hb2)
                    clear c0_0 c0_1 c0_2 c0_3 c0_4 c0_5 hb2 HB1
                    have c0_0 : w2.cell? ⟨w.heap.size, 0, none⟩ = some (.int .i64 fl) := cell_of_row _ _ _ _ _ (0, 0) HB2.out.r0
                    have c0_1 : w2.cell? ⟨w.heap.size, 1, none⟩ = some (.int .i64 tg) := cell_of_row _ _ _ _ _ (0, 0) HB2.out.r0
                    have c0_2 : w2.cell? ⟨w.heap.size, 2, none⟩ = some (.int .i64 lf) := cell_of_row _ _ _ _ _ (0, 0) HB2.out.r0
                    have c0_3 : w2.cell? ⟨w.heap.size, 3, none⟩ = some (.int .i64 2) := cell_of_row _ _ _ _ _ (0, 0) HB2.out.r0
                    have c0_4 : w2.cell? ⟨w.heap.size, 4, none⟩ = some (.int .i64 am) := cell_of_row _ _ _ _ _ (0, 0) HB2.out.r0
                    have c0_5 : w2.cell? ⟨w.heap.size, 5, none⟩ = some (.int .i64 tk) := cell_of_row _ _ _ _ _ (0, 0) HB2.out.r0
                    go_wp2_with fail
                    refine (Fe3.out _).mono ?_
                    rintro e w3 ⟨rfl, hb3⟩
                    have HB3 := Lib.hid (HB2.out.next hb3)
                    clear c0_0 c0_1 c0_2 c0_3 c0_4 c0_5 hb3 HB2
                    have c0_0 : w3.cell? ⟨w.heap.size, 0, none⟩ = some (.int .i64 fl) := cell_of_row _ _ _ _ _ (0, 0) HB3.out.r0
                    have c0_1 : w3.cell? ⟨w.heap.size, 1, none⟩ = some (.int .i64 tg) := cell_of_row _ _ _ _ _ (0, 0) HB3.out.r0
                    have c0_2 : w3.cell? ⟨w.heap.size, 2, none⟩ = some (.int .i64 lf) := cell_of_row _ _ _ _ _ (0, 0) HB3.out.r0
                    have c0_3 : w3.cell? ⟨w.heap.size, 3, none⟩ = some (.int .i64 2) := cell_of_row _ _ _ _ _ (0, 0) HB3.out.r0
                    have c0_4 : w3.cell? ⟨w.heap.size, 4, none⟩ = some (.int .i64 am) := cell_of_row _ _ _ _ _ (0, 0) HB3.out.r0
                    have c0_5 : w3.cell? ⟨w.heap.size, 5, none⟩ = some (.int .i64 tk) := cell_of_row _ _ _ _ _ (0, 0) HB3.out.r0
                    go_wp2_with fail
                    refine (Fe4.out _).mono ?_
                    rintro e w4 ⟨rfl, hb4⟩
                    have HB4 := Lib.hid (HB3.out.next hb4)
                    clear c0_0 c0_1 c0_2 c0_3 c0_4 c0_5 hb4 HB3
                    have c0_0 : w4.cell? ⟨w.heap.size, 0, none⟩ = some (.int .i64 fl) := cell_of_row _ _ _ _ _ (0, 0) HB4.out.r0
                    have c0_1 : w4.cell? ⟨w.heap.size, 1, none⟩ = some (.int .i64 tg) := cell_of_row _ _ _ _ _ (0, 0) HB4.out.r0
                    have c0_2 : w4.cell? ⟨w.heap.size, 2, none⟩ = some (.int .i64 lf) := cell_of_row _ _ _ _ _ (0, 0) HB4.out.r0
                    have c0_3 : w4.cell? ⟨w.heap.size, 3, none⟩ = some (.int .i64 2) := cell_of_row _ _ _ _ _ (0, 0) HB4.out.r0
                    have c0_4 : w4.cell? ⟨w.heap.size, 4, none⟩ = some (.int .i64 am) := cell_of_row _ _ _ _ _ (0, 0) HB4.out.r0
                    have c0_5 : w4.cell? ⟨w.heap.size, 5, none⟩ = some (.int .i64 tk) := cell_of_row _ _ _ _ _ (0, 0) HB4.out.r0
                    go_wp2_with fail
                    refine (Fe5.out _).mono ?_
                    rintro e w5 ⟨rfl, hb5⟩
                    have HB5 := Lib.hid (HB4.out.next hb5)
                    clear c0_0 c0_1 c0_2 c0_3 c0_4 c0_5 hb5 HB4
                    have c0_0 : w5.cell? ⟨w.heap.size, 0, none⟩ = some (.int .i64 fl) := cell_of_row _ _ _ _ _ (0, 0) HB5.out.r0
                    have c0_1 : w5.cell? ⟨w.heap.size, 1, none⟩ = some (.int .i64 tg) := cell_of_row _ _ _ _ _ (0, 0) HB5.out.r0
                    have c0_2 : w5.cell? ⟨w.heap.size, 2, none⟩ = some (.int .i64 lf) := cell_of_row _ _ _ _ _ (0, 0) HB5.out.r0
                    have c0_3 : w5.cell? ⟨w.heap.size, 3, none⟩ = some (.int .i64 2) := cell_of_row _ _ _ _ _ (0, 0) HB5.out.r0
                    have c0_4 : w5.cell? ⟨w.heap.size, 4, none⟩ = some (.int .i64 am) := cell_of_row _ _ _ _ _ (0, 0) HB5.out.r0
                    have c0_5 : w5.cell? ⟨w.heap.size, 5, none⟩ = some (.int .i64 tk) := cell_of_row _ _ _ _ _ (0, 0) HB5.out.r0
                    go_wp2_with fail
                    refine (Fe7.out _).mono ?_
                    rintro e w6 ⟨rfl, hb6⟩
                    have HB6 := Lib.hid (HB5.out.next hb6)
                    clear c0_0 c0_1 c0_2 c0_3 c0_4 c0_5 hb6 HB5
                    have c0_0 : w6.cell? ⟨w.heap.size, 0, none⟩ = some (.int .i64 fl) := cell_of_row _ _ _ _ _ (0, 0) HB6.out.r0
                    have c0_1 : w6.cell? ⟨w.heap.size, 1, none⟩ = some (.int .i64 tg) := cell_of_row _ _ _ _ _ (0, 0) HB6.out.r0
                    have c0_2 : w6.cell? ⟨w.heap.size, 2, none⟩ = some (.int .i64 lf) := cell_of_row _ _ _ _ _ (0, 0) HB6.out.r0
                    have c0_3 : w6.cell? ⟨w.heap.size, 3, none⟩ = some (.int .i64 2) := cell_of_row _ _ _ _ _ (0, 0) HB6.out.r0
                    have c0_4 : w6.cell? ⟨w.heap.size, 4, none⟩ = some (.int .i64 am) := cell_of_row _ _ _ _ _ (0, 0) HB6.out.r0
                    have c0_5 : w6.cell? ⟨w.heap.size, 5, none⟩ = some (.int .i64 tk) := cell_of_row _ _ _ _ _ (0, 0) HB6.out.r0
                    go_wp2_with fail
                    go_ret
                    exact ⟨rfl, HB6.out.below⟩
                · have hK : (dd != 2) = true := by simpa using e8
                  have hR : Rg.isB F ⟨fl, tg, lf, dd, am, tk⟩ = false := by
                    cases hq : Rg.isB F ⟨fl, tg, lf, dd, am, tk⟩
                    · rfl
                    · obtain ⟨z1, z2, z3, z4, z5, z6, z7⟩ := Rg.isB_iff.1 hq
                      simp only at z2 z3 z4 z5 z6 z7
                      exfalso; omega
                  rw [hR]
                  clear hR
                  clear e1 e2 e3 e4 e5 e6 e7 e8
                  simp only [Rg.agg]
                  have HB0 := Lib.hid (bxs1 w (.cells #[.int .i64 fl, .int .i64 tg, .int .i64 lf, .int .i64 dd, .int .i64 am, .int .i64 tk] 23))
                  go_enter Try.func27, Try.ntmps27
                  go_wp2_with fail
                  refine (Fe1.out _).mono ?_
                  rintro e w1 ⟨rfl, hb1⟩
                  have HB1 := Lib.hid (HB0.out.next hb1)
                  clear hb1 HB0
                  have c0_0 : w1.cell? ⟨w.heap.size, 0, none⟩ = some (.int .i64 fl) := cell_of_row _ _ _ _ _ (0, 0) HB1.out.r0
                  have c0_1 : w1.cell? ⟨w.heap.size, 1, none⟩ = some (.int .i64 tg) := cell_of_row _ _ _ _ _ (0, 0) HB1.out.r0
                  have c0_2 : w1.cell? ⟨w.heap.size, 2, none⟩ = some (.int .i64 lf) := cell_of_row _ _ _ _ _ (0, 0) HB1.out.r0
                  have c0_3 : w1.cell? ⟨w.heap.size, 3, none⟩ = some (.int .i64 dd) := cell_of_row _ _ _ _ _ (0, 0) HB1.out.r0
                  have c0_4 : w1.cell? ⟨w.heap.size, 4, none⟩ = some (.int .i64 am) := cell_of_row _ _ _ _ _ (0, 0) HB1.out.r0
                  have c0_5 : w1.cell? ⟨w.heap.size, 5, none⟩ = some (.int .i64 tk) := cell_of_row _ _ _ _ _ (0, 0) HB1.out.r0
                  go_wp2_with fail
                  refine (Fe2.out _).mono ?_
                  rintro e w2 ⟨rfl, hb2⟩
                  have HB2 := Lib.hid (HB1.out.next hb2)
                  clear c0_0 c0_1 c0_2 c0_3 c0_4 c0_5 hb2 HB1
                  have c0_0 : w2.cell? ⟨w.heap.size, 0, none⟩ = some (.int .i64 fl) := cell_of_row _ _ _ _ _ (0, 0) HB2.out.r0
                  have c0_1 : w2.cell? ⟨w.heap.size, 1, none⟩ = some (.int .i64 tg) := cell_of_row _ _ _ _ _ (0, 0) HB2.out.r0
                  have c0_2 : w2.cell? ⟨w.heap.size, 2, none⟩ = some (.int .i64 lf) := cell_of_row _ _ _ _ _ (0, 0) HB2.out.r0
                  have c0_3 : w2.cell? ⟨w.heap.size, 3, none⟩ = some (.int .i64 dd) := cell_of_row _ _ _ _ _ (0, 0) HB2.out.r0
                  have c0_4 : w2.cell? ⟨w.heap.size, 4, none⟩ = some (.int .i64 am) := cell_of_row _ _ _ _ _ (0, 0) HB2.out.r0
                  have c0_5 : w2.cell? ⟨w.heap.size, 5, none⟩ = some (.int .i64 tk) := cell_of_row _ _ _ _ _ (0, 0) HB2.out.r0
                  go_wp2_with fail
                  refine (Fe3.out _).mono ?_
                  rintro e w3 ⟨rfl, hb3⟩
                  have HB3 := Lib.hid (HB2.out.next hb3)
                  clear c0_0 c0_1 c0_2 c0_3 c0_4 c0_5 hb3 HB2
                  have c0_0 : w3.cell? ⟨w.heap.size, 0, none⟩ = some (.int .i64 fl) := cell_of_row _ _ _ _ _ (0, 0) HB3.out.r0
                  have c0_1 : w3.cell? ⟨w.heap.size, 1, none⟩ = some (.int .i64 tg) := cell_of_row _ _ _ _ _ (0, 0) HB3.out.r0
                  have c0_2 : w3.cell? ⟨w.heap.size, 2, none⟩ = some (.int .i64 lf) := cell_of_row _ _ _ _ _ (0, 0) HB3.out.r0
                  have c0_3 : w3.cell? ⟨w.heap.size, 3, none⟩ = some (.int .i64 dd) := cell_of_row _ _ _ _ _ (0, 0) HB3.out.r0
                  have c0_4 : w3.cell? ⟨w.heap.size, 4, none⟩ = some (.int .i64 am) := cell_of_row _ _ _ _ _ (0, 0) HB3.out.r0
                  have c0_5 : w3.cell? ⟨w.heap.size, 5, none⟩ = some (.int .i64 tk) := cell_of_row _ _ _ _ _ (0, 0) HB3.out.r0
                  go_wp2_with fail
                  refine (Fe4.out _).mono ?_
                  rintro e w4 ⟨rfl, hb4⟩
                  have HB4 := Lib.hid (HB3.out.next hb4)
                  clear c0_0 c0_1 c0_2 c0_3 c0_4 c0_5 hb4 HB3
                  have c0_0 : w4.cell? ⟨w.heap.size, 0, none⟩ = some (.int .i64 fl) := cell_of_row _ _ _ _ _ (0, 0) HB4.out.r0
                  have c0_1 : w4.cell? ⟨w.heap.size, 1, none⟩ = some (.int .i64 tg) := cell_of_row _ _ _ _ _ (0, 0) HB4.out.r0
                  have c0_2 : w4.cell? ⟨w.heap.size, 2, none⟩ = some (.int .i64 lf) := cell_of_row _ _ _ _ _ (0, 0) HB4.out.r0
                  have c0_3 : w4.cell? ⟨w.heap.size, 3, none⟩ = some (.int .i64 dd) := cell_of_row _ _ _ _ _ (0, 0) HB4.out.r0
                  have c0_4 : w4.cell? ⟨w.heap.size, 4, none⟩ = some (.int .i64 am) := cell_of_row _ _ _ _ _ (0, 0) HB4.out.r0
                  have c0_5 : w4.cell? ⟨w.heap.size, 5, none⟩ = some (.int .i64 tk) := cell_of_row _ _ _ _ _ (0, 0) HB4.out.r0
                  go_wp2_with fail
                  refine (Fe5.out _).mono ?_
                  rintro e w5 ⟨rfl, hb5⟩
                  have HB5 := Lib.hid (HB4.out.next hb5)
                  clear c0_0 c0_1 c0_2 c0_3 c0_4 c0_5 hb5 HB4
                  have c0_0 : w5.cell? ⟨w.heap.size, 0, none⟩ = some (.int .i64 fl) := cell_of_row _ _ _ _ _ (0, 0) HB5.out.r0
                  have c0_1 : w5.cell? ⟨w.heap.size, 1, none⟩ = some (.int .i64 tg) := cell_of_row _ _ _ _ _ (0, 0) HB5.out.r0
                  have c0_2 : w5.cell? ⟨w.heap.size, 2, none⟩ = some (.int .i64 lf) := cell_of_row _ _ _ _ _ (0, 0) HB5.out.r0
                  have c0_3 : w5.cell? ⟨w.heap.size, 3, none⟩ = some (.int .i64 dd) := cell_of_row _ _ _ _ _ (0, 0) HB5.out.r0
                  have c0_4 : w5.cell? ⟨w.heap.size, 4, none⟩ = some (.int .i64 am) := cell_of_row _ _ _ _ _ (0, 0) HB5.out.r0
                  have c0_5 : w5.cell? ⟨w.heap.size, 5, none⟩ = some (.int .i64 tk) := cell_of_row _ _ _ _ _ (0, 0) HB5.out.r0
                  go_wp2_with fail
                  refine (Fe7.out _).mono ?_
                  rintro e w6 ⟨rfl, hb6⟩
                  have HB6 := Lib.hid (HB5.out.next hb6)
                  clear c0_0 c0_1 c0_2 c0_3 c0_4 c0_5 hb6 HB5
                  have c0_0 : w6.cell? ⟨w.heap.size, 0, none⟩ = some (.int .i64 fl) := cell_of_row _ _ _ _ _ (0, 0) HB6.out.r0
                  have c0_1 : w6.cell? ⟨w.heap.size, 1, none⟩ = some (.int .i64 tg) := cell_of_row _ _ _ _ _ (0, 0) HB6.out.r0
                  have c0_2 : w6.cell? ⟨w.heap.size, 2, none⟩ = some (.int .i64 lf) := cell_of_row _ _ _ _ _ (0, 0) HB6.out.r0
                  have c0_3 : w6.cell? ⟨w.heap.size, 3, none⟩ = some (.int .i64 dd) := cell_of_row _ _ _ _ _ (0, 0) HB6.out.r0
                  have c0_4 : w6.cell? ⟨w.heap.size, 4, none⟩ = some (.int .i64 am) := cell_of_row _ _ _ _ _ (0, 0) HB6.out.r0
                  have c0_5 : w6.cell? ⟨w.heap.size, 5, none⟩ = some (.int .i64 tk) := cell_of_row _ _ _ _ _ (0, 0) HB6.out.r0
                  go_wp2_with fail
                  go_ret
                  exact ⟨rfl, HB6.out.below⟩
              · have Fe7 := Lib.hid (fun wx => playIn_any lf 1 10000 wx)
                rw [Nc.wi_no e7] at Fe7
                have hR : Rg.isB F ⟨fl, tg, lf, dd, am, tk⟩ = false := by
                  cases hq : Rg.isB F ⟨fl, tg, lf, dd, am, tk⟩
                  · rfl
                  · obtain ⟨z1, z2, z3, z4, z5, z6, z7⟩ := Rg.isB_iff.1 hq
                    simp only at z2 z3 z4 z5 z6 z7
                    exfalso; omega
                rw [hR]
                clear hR
                clear e1 e2 e3 e4 e5 e6 e7
                simp only [Rg.agg]
                have HB0 := Lib.hid (bxs1 w (.cells #[.int .i64 fl, .int .i64 tg, .int .i64 lf, .int .i64 dd, .int .i64 am, .int .i64 tk] 23))
                go_enter Try.func27, Try.ntmps27
                go_wp2_with fail
                refine (Fe1.out _).mono ?_
                rintro e w1 ⟨rfl, hb1⟩
                have HB1 := Lib.hid (HB0.out.next hb1)
                clear hb1 HB0
                have c0_0 : w1.cell? ⟨w.heap.size, 0, none⟩ = some (.int .i64 fl) := cell_of_row _ _ _ _ _ (0, 0) HB1.out.r0
                have c0_1 : w1.cell? ⟨w.heap.size, 1, none⟩ = some (.int .i64 tg) := cell_of_row _ _ _ _ _ (0, 0) HB1.out.r0
                have c0_2 : w1.cell? ⟨w.heap.size, 2, none⟩ = some (.int .i64 lf) := cell_of_row _ _ _ _ _ (0, 0) HB1.out.r0
                have c0_3 : w1.cell? ⟨w.heap.size, 3, none⟩ = some (.int .i64 dd) := cell_of_row _ _ _ _ _ (0, 0) HB1.out.r0
                have c0_4 : w1.cell? ⟨w.heap.size, 4, none⟩ = some (.int .i64 am) := cell_of_row _ _ _ _ _ (0, 0) HB1.out.r0
                have c0_5 : w1.cell? ⟨w.heap.size, 5, none⟩ = some (.int .i64 tk) := cell_of_row _ _ _ _ _ (0, 0) HB1.out.r0
                go_wp2_with fail
                refine (Fe2.out _).mono ?_
                rintro e w2 ⟨rfl, hb2⟩
                have HB2 := Lib.hid (HB1.out.next hb2)
                clear c0_0 c0_1 c0_2 c0_3 c0_4 c0_5 hb2 HB1
                have c0_0 : w2.cell? ⟨w.heap.size, 0, none⟩ = some (.int .i64 fl) := cell_of_row _ _ _ _ _ (0, 0) HB2.out.r0
                have c0_1 : w2.cell? ⟨w.heap.size, 1, none⟩ = some (.int .i64 tg) := cell_of_row _ _ _ _ _ (0, 0) HB2.out.r0
                have c0_2 : w2.cell? ⟨w.heap.size, 2, none⟩ = some (.int .i64 lf) := cell_of_row _ _ _ _ _ (0, 0) HB2.out.r0
                have c0_3 : w2.cell? ⟨w.heap.size, 3, none⟩ = some (.int .i64 dd) := cell_of_row _ _ _ _ _ (0, 0) HB2.out.r0
                have c0_4 : w2.cell? ⟨w.heap.size, 4, none⟩ = some (.int .i64 am) := cell_of_row _ _ _ _ _ (0, 0) HB2.out.r0
                have c0_5 : w2.cell? ⟨w.heap.size, 5, none⟩ = some (.int .i64 tk) := cell_of_row _ _ _ _ _ (0, 0) HB2.out.r0
                go_wp2_with fail
                refine (Fe3.out _).mono ?_
                rintro e w3 ⟨rfl, hb3⟩
                have HB3 := Lib.hid (HB2.out.next hb3)
                clear c0_0 c0_1 c0_2 c0_3 c0_4 c0_5 hb3 HB2
                have c0_0 : w3.cell? ⟨w.heap.size, 0, none⟩ = some (.int .i64 fl) := cell_of_row _ _ _ _ _ (0, 0) HB3.out.r0
                have c0_1 : w3.cell? ⟨w.heap.size, 1, none⟩ = some (.int .i64 tg) := cell_of_row _ _ _ _ _ (0, 0) HB3.out.r0
                have c0_2 : w3.cell? ⟨w.heap.size, 2, none⟩ = some (.int .i64 lf) := cell_of_row _ _ _ _ _ (0, 0) HB3.out.r0
                have c0_3 : w3.cell? ⟨w.heap.size, 3, none⟩ = some (.int .i64 dd) := cell_of_row _ _ _ _ _ (0, 0) HB3.out.r0
                have c0_4 : w3.cell? ⟨w.heap.size, 4, none⟩ = some (.int .i64 am) := cell_of_row _ _ _ _ _ (0, 0) HB3.out.r0
                have c0_5 : w3.cell? ⟨w.heap.size, 5, none⟩ = some (.int .i64 tk) := cell_of_row _ _ _ _ _ (0, 0) HB3.out.r0
                go_wp2_with fail
                refine (Fe4.out _).mono ?_
                rintro e w4 ⟨rfl, hb4⟩
                have HB4 := Lib.hid (HB3.out.next hb4)
                clear c0_0 c0_1 c0_2 c0_3 c0_4 c0_5 hb4 HB3
                have c0_0 : w4.cell? ⟨w.heap.size, 0, none⟩ = some (.int .i64 fl) := cell_of_row _ _ _ _ _ (0, 0) HB4.out.r0
                have c0_1 : w4.cell? ⟨w.heap.size, 1, none⟩ = some (.int .i64 tg) := cell_of_row _ _ _ _ _ (0, 0) HB4.out.r0
                have c0_2 : w4.cell? ⟨w.heap.size, 2, none⟩ = some (.int .i64 lf) := cell_of_row _ _ _ _ _ (0, 0) HB4.out.r0
                have c0_3 : w4.cell? ⟨w.heap.size, 3, none⟩ = some (.int .i64 dd) := cell_of_row _ _ _ _ _ (0, 0) HB4.out.r0
                have c0_4 : w4.cell? ⟨w.heap.size, 4, none⟩ = some (.int .i64 am) := cell_of_row _ _ _ _ _ (0, 0) HB4.out.r0
                have c0_5 : w4.cell? ⟨w.heap.size, 5, none⟩ = some (.int .i64 tk) := cell_of_row _ _ _ _ _ (0, 0) HB4.out.r0
                go_wp2_with fail
                refine (Fe5.out _).mono ?_
                rintro e w5 ⟨rfl, hb5⟩
                have HB5 := Lib.hid (HB4.out.next hb5)
                clear c0_0 c0_1 c0_2 c0_3 c0_4 c0_5 hb5 HB4
                have c0_0 : w5.cell? ⟨w.heap.size, 0, none⟩ = some (.int .i64 fl) := cell_of_row _ _ _ _ _ (0, 0) HB5.out.r0
                have c0_1 : w5.cell? ⟨w.heap.size, 1, none⟩ = some (.int .i64 tg) := cell_of_row _ _ _ _ _ (0, 0) HB5.out.r0
                have c0_2 : w5.cell? ⟨w.heap.size, 2, none⟩ = some (.int .i64 lf) := cell_of_row _ _ _ _ _ (0, 0) HB5.out.r0
                have c0_3 : w5.cell? ⟨w.heap.size, 3, none⟩ = some (.int .i64 dd) := cell_of_row _ _ _ _ _ (0, 0) HB5.out.r0
                have c0_4 : w5.cell? ⟨w.heap.size, 4, none⟩ = some (.int .i64 am) := cell_of_row _ _ _ _ _ (0, 0) HB5.out.r0
                have c0_5 : w5.cell? ⟨w.heap.size, 5, none⟩ = some (.int .i64 tk) := cell_of_row _ _ _ _ _ (0, 0) HB5.out.r0
                go_wp2_with fail
                refine (Fe7.out _).mono ?_
                rintro e w6 ⟨rfl, hb6⟩
                have HB6 := Lib.hid (HB5.out.next hb6)
                clear c0_0 c0_1 c0_2 c0_3 c0_4 c0_5 hb6 HB5
                have c0_0 : w6.cell? ⟨w.heap.size, 0, none⟩ = some (.int .i64 fl) := cell_of_row _ _ _ _ _ (0, 0) HB6.out.r0
                have c0_1 : w6.cell? ⟨w.heap.size, 1, none⟩ = some (.int .i64 tg) := cell_of_row _ _ _ _ _ (0, 0) HB6.out.r0
                have c0_2 : w6.cell? ⟨w.heap.size, 2, none⟩ = some (.int .i64 lf) := cell_of_row _ _ _ _ _ (0, 0) HB6.out.r0
                have c0_3 : w6.cell? ⟨w.heap.size, 3, none⟩ = some (.int .i64 dd) := cell_of_row _ _ _ _ _ (0, 0) HB6.out.r0
                have c0_4 : w6.cell? ⟨w.heap.size, 4, none⟩ = some (.int .i64 am) := cell_of_row _ _ _ _ _ (0, 0) HB6.out.r0
                have c0_5 : w6.cell? ⟨w.heap.size, 5, none⟩ = some (.int .i64 tk) := cell_of_row _ _ _ _ _ (0, 0) HB6.out.r0
                go_wp2_with fail
                go_ret
                exact ⟨rfl, HB6.out.below⟩
          · have Fe5 := Lib.hid (fun wx => playIn_any dd 0 2 wx)
            rw [Nc.wi_no e5] at Fe5
            have hR : Rg.isB F ⟨fl, tg, lf, dd, am, tk⟩ = false := by
              cases hq : Rg.isB F ⟨fl, tg, lf, dd, am, tk⟩
              · rfl
              · obtain ⟨z1, z2, z3, z4, z5, z6, z7⟩ := Rg.isB_iff.1 hq
                simp only at z2 z3 z4 z5 z6 z7
                exfalso; omega
            rw [hR]
            clear hR
            clear e1 e2 e3 e4 e5
            simp only [Rg.agg]
            have HB0 := Lib.hid (bxs1 w (.cells #[.int .i64 fl, .int .i64 tg, .int .i64 lf, .int .i64 dd, .int .i64 am, .int .i64 tk] 23))
            go_enter Try.func27, Try.ntmps27
            go_wp2_with fail
            refine (Fe1.out _).mono ?_
            rintro e w1 ⟨rfl, hb1⟩
            have HB1 := Lib.hid (HB0.out.next hb1)
            clear hb1 HB0
            have c0_0 : w1.cell? ⟨w.heap.size, 0, none⟩ = some (.int .i64 fl) := cell_of_row _ _ _ _ _ (0, 0) HB1.out.r0
            have c0_1 : w1.cell? ⟨w.heap.size, 1, none⟩ = some (.int .i64 tg) := cell_of_row _ _ _ _ _ (0, 0) HB1.out.r0
            have c0_2 : w1.cell? ⟨w.heap.size, 2, none⟩ = some (.int .i64 lf) := cell_of_row _ _ _ _ _ (0, 0) HB1.out.r0
            have c0_3 : w1.cell? ⟨w.heap.size, 3, none⟩ = some (.int .i64 dd) := cell_of_row _ _ _ _ _ (0, 0) HB1.out.r0
            have c0_4 : w1.cell? ⟨w.heap.size, 4, none⟩ = some (.int .i64 am) := cell_of_row _ _ _ _ _ (0, 0) HB1.out.r0
            have c0_5 : w1.cell? ⟨w.heap.size, 5, none⟩ = some (.int .i64 tk) := cell_of_row _ _ _ _ _ (0, 0) HB1.out.r0
            go_wp2_with fail
            refine (Fe2.out _).mono ?_
            rintro e w2 ⟨rfl, hb2⟩
            have HB2 := Lib.hid (HB1.out.next hb2)
            clear c0_0 c0_1 c0_2 c0_3 c0_4 c0_5 hb2 HB1
            have c0_0 : w2.cell? ⟨w.heap.size, 0, none⟩ = some (.int .i64 fl) := cell_of_row _ _ _ _ _ (0, 0) HB2.out.r0
            have c0_1 : w2.cell? ⟨w.heap.size, 1, none⟩ = some (.int .i64 tg) := cell_of_row _ _ _ _ _ (0, 0) HB2.out.r0
            have c0_2 : w2.cell? ⟨w.heap.size, 2, none⟩ = some (.int .i64 lf) := cell_of_row _ _ _ _ _ (0, 0) HB2.out.r0
            have c0_3 : w2.cell? ⟨w.heap.size, 3, none⟩ = some (.int .i64 dd) := cell_of_row _ _ _ _ _ (0, 0) HB2.out.r0
            have c0_4 : w2.cell? ⟨w.heap.size, 4, none⟩ = some (.int .i64 am) := cell_of_row _ _ _ _ _ (0, 0) HB2.out.r0
            have c0_5 : w2.cell? ⟨w.heap.size, 5, none⟩ = some (.int .i64 tk) := cell_of_row _ _ _ _ _ (0, 0) HB2.out.r0
            go_wp2_with fail
            refine (Fe3.out _).mono ?_
            rintro e w3 ⟨rfl, hb3⟩
            have HB3 := Lib.hid (HB2.out.next hb3)
            clear c0_0 c0_1 c0_2 c0_3 c0_4 c0_5 hb3 HB2
            have c0_0 : w3.cell? ⟨w.heap.size, 0, none⟩ = some (.int .i64 fl) := cell_of_row _ _ _ _ _ (0, 0) HB3.out.r0
            have c0_1 : w3.cell? ⟨w.heap.size, 1, none⟩ = some (.int .i64 tg) := cell_of_row _ _ _ _ _ (0, 0) HB3.out.r0
            have c0_2 : w3.cell? ⟨w.heap.size, 2, none⟩ = some (.int .i64 lf) := cell_of_row _ _ _ _ _ (0, 0) HB3.out.r0
            have c0_3 : w3.cell? ⟨w.heap.size, 3, none⟩ = some (.int .i64 dd) := cell_of_row _ _ _ _ _ (0, 0) HB3.out.r0
            have c0_4 : w3.cell? ⟨w.heap.size, 4, none⟩ = some (.int .i64 am) := cell_of_row _ _ _ _ _ (0, 0) HB3.out.r0
            have c0_5 : w3.cell? ⟨w.heap.size, 5, none⟩ = some (.int .i64 tk) := cell_of_row _ _ _ _ _ (0, 0) HB3.out.r0
            go_wp2_with fail
            refine (Fe4.out _).mono ?_
            rintro e w4 ⟨rfl, hb4⟩
            have HB4 := Lib.hid (HB3.out.next hb4)
            clear c0_0 c0_1 c0_2 c0_3 c0_4 c0_5 hb4 HB3
            have c0_0 : w4.cell? ⟨w.heap.size, 0, none⟩ = some (.int .i64 fl) := cell_of_row _ _ _ _ _ (0, 0) HB4.out.r0
            have c0_1 : w4.cell? ⟨w.heap.size, 1, none⟩ = some (.int .i64 tg) := cell_of_row _ _ _ _ _ (0, 0) HB4.out.r0
            have c0_2 : w4.cell? ⟨w.heap.size, 2, none⟩ = some (.int .i64 lf) := cell_of_row _ _ _ _ _ (0, 0) HB4.out.r0
            have c0_3 : w4.cell? ⟨w.heap.size, 3, none⟩ = some (.int .i64 dd) := cell_of_row _ _ _ _ _ (0, 0) HB4.out.r0
            have c0_4 : w4.cell? ⟨w.heap.size, 4, none⟩ = some (.int .i64 am) := cell_of_row _ _ _ _ _ (0, 0) HB4.out.r0
            have c0_5 : w4.cell? ⟨w.heap.size, 5, none⟩ = some (.int .i64 tk) := cell_of_row _ _ _ _ _ (0, 0) HB4.out.r0
            go_wp2_with fail
            refine (Fe5.out _).mono ?_
            rintro e w5 ⟨rfl, hb5⟩
            have HB5 := Lib.hid (HB4.out.next hb5)
            clear c0_0 c0_1 c0_2 c0_3 c0_4 c0_5 hb5 HB4
            have c0_0 : w5.cell? ⟨w.heap.size, 0, none⟩ = some (.int .i64 fl) := cell_of_row _ _ _ _ _ (0, 0) HB5.out.r0
            have c0_1 : w5.cell? ⟨w.heap.size, 1, none⟩ = some (.int .i64 tg) := cell_of_row _ _ _ _ _ (0, 0) HB5.out.r0
            have c0_2 : w5.cell? ⟨w.heap.size, 2, none⟩ = some (.int .i64 lf) := cell_of_row _ _ _ _ _ (0, 0) HB5.out.r0
            have c0_3 : w5.cell? ⟨w.heap.size, 3, none⟩ = some (.int .i64 dd) := cell_of_row _ _ _ _ _ (0, 0) HB5.out.r0
            have c0_4 : w5.cell? ⟨w.heap.size, 4, none⟩ = some (.int .i64 am) := cell_of_row _ _ _ _ _ (0, 0) HB5.out.r0
            have c0_5 : w5.cell? ⟨w.heap.size, 5, none⟩ = some (.int .i64 tk) := cell_of_row _ _ _ _ _ (0, 0) HB5.out.r0
            go_wp2_with fail
            go_ret
            exact ⟨rfl, HB5.out.below⟩
        · have Fe4 := Lib.hid (fun wx => playIn_any (tg - fl) (-1) 1 wx)
          rw [Nc.wi_no e4] at Fe4
          have hR : Rg.isB F ⟨fl, tg, lf, dd, am, tk⟩ = false := by
            cases hq : Rg.isB F ⟨fl, tg, lf, dd, am, tk⟩
            · rfl
            · obtain ⟨z1, z2, z3, z4, z5, z6, z7⟩ := Rg.isB_iff.1 hq
              simp only at z2 z3 z4 z5 z6 z7
              exfalso; omega
          rw [hR]
          clear hR
          clear e1 e2 e3 e4
          simp only [Rg.agg]
          have HB0 := Lib.hid (bxs1 w (.cells #[.int .i64 fl, .int .i64 tg, .int .i64 lf, .int .i64 dd, .int .i64 am, .int .i64 tk] 23))
          go_enter Try.func27, Try.ntmps27
          go_wp2_with fail
          refine (Fe1.out _).mono ?_
          rintro e w1 ⟨rfl, hb1⟩
          have HB1 := Lib.hid (HB0.out.next hb1)
          clear hb1 HB0
          have c0_0 : w1.cell? ⟨w.heap.size, 0, none⟩ = some (.int .i64 fl) := cell_of_row _ _ _ _ _ (0, 0) HB1.out.r0
          have c0_1 : w1.cell? ⟨w.heap.size, 1, none⟩ = some (.int .i64 tg) := cell_of_row _ _ _ _ _ (0, 0) HB1.out.r0
          have c0_2 : w1.cell? ⟨w.heap.size, 2, none⟩ = some (.int .i64 lf) := cell_of_row _ _ _ _ _ (0, 0) HB1.out.r0
          have c0_3 : w1.cell? ⟨w.heap.size, 3, none⟩ = some (.int .i64 dd) := cell_of_row _ _ _ _ _ (0, 0) HB1.out.r0
          have c0_4 : w1.cell? ⟨w.heap.size, 4, none⟩ = some (.int .i64 am) := cell_of_row _ _ _ _ _ (0, 0) HB1.out.r0
          have c0_5 : w1.cell? ⟨w.heap.size, 5, none⟩ = some (.int .i64 tk) := cell_of_row _ _ _ _ _ (0, 0) HB1.out.r0
          go_wp2_with fail
          refine (Fe2.out _).mono ?_
          rintro e w2 ⟨rfl, hb2⟩
          have HB2 := Lib.hid (HB1.out.next hb2)
          clear c0_0 c0_1 c0_2 c0_3 c0_4 c0_5 hb2 HB1
          have c0_0 : w2.cell? ⟨w.heap.size, 0, none⟩ = some (.int .i64 fl) := cell_of_row _ _ _ _ _ (0, 0) HB2.out.r0
          have c0_1 : w2.cell? ⟨w.heap.size, 1, none⟩ = some (.int .i64 tg) := cell_of_row _ _ _ _ _ (0, 0) HB2.out.r0
          have c0_2 : w2.cell? ⟨w.heap.size, 2, none⟩ = some (.int .i64 lf) := cell_of_row _ _ _ _ _ (0, 0) HB2.out.r0
          have c0_3 : w2.cell? ⟨w.heap.size, 3, none⟩ = some (.int .i64 dd) := cell_of_row _ _ _ _ _ (0, 0) HB2.out.r0
          have c0_4 : w2.cell? ⟨w.heap.size, 4, none⟩ = some (.int .i64 am) := cell_of_row _ _ _ _ _ (0, 0) HB2.out.r0
          have c0_5 : w2.cell? ⟨w.heap.size, 5, none⟩ = some (.int .i64 tk) := cell_of_row _ _ _ _ _ (0, 0) HB2.out.r0
          go_wp2_with fail
          refine (Fe3.out _).mono ?_
          rintro e w3 ⟨rfl, hb3⟩
          have HB3 := Lib.hid (HB2.out.next hb3)
          clear c0_0 c0_1 c0_2 c0_3 c0_4 c0_5 hb3 HB2
          have c0_0 : w3.cell? ⟨w.heap.size, 0, none⟩ = some (.int .i64 fl) := cell_of_row _ _ _ _ _ (0, 0) HB3.out.r0
          have c0_1 : w3.cell? ⟨w.heap.size, 1, none⟩ = some (.int .i64 tg) := cell_of_row _ _ _ _ _ (0, 0) HB3.out.r0
          have c0_2 : w3.cell? ⟨w.heap.size, 2, none⟩ = some (.int .i64 lf) := cell_of_row _ _ _ _ _ (0, 0) HB3.out.r0
          have c0_3 : w3.cell? ⟨w.heap.size, 3, none⟩ = some (.int .i64 dd) := cell_of_row _ _ _ _ _ (0, 0) HB3.out.r0
          have c0_4 : w3.cell? ⟨w.heap.size, 4, none⟩ = some (.int .i64 am) := cell_of_row _ _ _ _ _ (0, 0) HB3.out.r0
          have c0_5 : w3.cell? ⟨w.heap.size, 5, none⟩ = some (.int .i64 tk) := cell_of_row _ _ _ _ _ (0, 0) HB3.out.r0
          go_wp2_with fail
          refine (Fe4.out _).mono ?_
          rintro e w4 ⟨rfl, hb4⟩
          have HB4 := Lib.hid (HB3.out.next hb4)
          clear c0_0 c0_1 c0_2 c0_3 c0_4 c0_5 hb4 HB3
          have c0_0 : w4.cell? ⟨w.heap.size, 0, none⟩ = some (.int .i64 fl) := cell_of_row _ _ _ _ _ (0, 0) HB4.out.r0
          have c0_1 : w4.cell? ⟨w.heap.size, 1, none⟩ = some (.int .i64 tg) := cell_of_row _ _ _ _ _ (0, 0) HB4.out.r0
          have c0_2 : w4.cell? ⟨w.heap.size, 2, none⟩ = some (.int .i64 lf) := cell_of_row _ _ _ _ _ (0, 0) HB4.out.r0
          have c0_3 : w4.cell? ⟨w.heap.size, 3, none⟩ = some (.int .i64 dd) := cell_of_row _ _ _ _ _ (0, 0) HB4.out.r0
          have c0_4 : w4.cell? ⟨w.heap.size, 4, none⟩ = some (.int .i64 am) := cell_of_row _ _ _ _ _ (0, 0) HB4.out.r0
          have c0_5 : w4.cell? ⟨w.heap.size, 5, none⟩ = some (.int .i64 tk) := cell_of_row _ _ _ _ _ (0, 0) HB4.out.r0
          go_wp2_with fail
          go_ret
          exact ⟨rfl, HB4.out.below⟩
      · have Fe3 := Lib.hid (fun wx => playIn_any tg 0 (F - 1) wx)
        rw [Nc.wi_no e3] at Fe3
        have hR : Rg.isB F ⟨fl, tg, lf, dd, am, tk⟩ = false := by
          cases hq : Rg.isB F ⟨fl, tg, lf, dd, am, tk⟩
          · rfl
          · obtain ⟨z1, z2, z3, z4, z5, z6, z7⟩ := Rg.isB_iff.1 hq
            simp only at z2 z3 z4 z5 z6 z7
            exfalso; omega
        rw [hR]
        clear hR
        clear e1 e2 e3
        simp only [Rg.agg]
        have HB0 := Lib.hid (bxs1 w (.cells #[.int .i64 fl, .int .i64 tg, .int .i64 lf, .int .i64 dd, .int .i64 am, .int .i64 tk] 23))
        go_enter Try.func27, Try.ntmps27
        go_wp2_with fail
        refine (Fe1.out _).mono ?_
        rintro e w1 ⟨rfl, hb1⟩
        have HB1 := Lib.hid (HB0.out.next hb1)
        clear hb1 HB0
        have c0_0 : w1.cell? ⟨w.heap.size, 0, none⟩ = some (.int .i64 fl) := cell_of_row _ _ _ _ _ (0, 0) HB1.out.r0
        have c0_1 : w1.cell? ⟨w.heap.size, 1, none⟩ = some (.int .i64 tg) := cell_of_row _ _ _ _ _ (0, 0) HB1.out.r0
        have c0_2 : w1.cell? ⟨w.heap.size, 2, none⟩ = some (.int .i64 lf) := cell_of_row _ _ _ _ _ (0, 0) HB1.out.r0
        have c0_3 : w1.cell? ⟨w.heap.size, 3, none⟩ = some (.int .i64 dd) := cell_of_row _ _ _ _ _ (0, 0) HB1.out.r0
        have c0_4 : w1.cell? ⟨w.heap.size, 4, none⟩ = some (.int .i64 am) := cell_of_row _ _ _ _ _ (0, 0) HB1.out.r0
        have c0_5 : w1.cell? ⟨w.heap.size, 5, none⟩ = some (.int .i64 tk) := cell_of_row _ _ _ _ _ (0, 0) HB1.out.r0
        go_wp2_with fail
        refine (Fe2.out _).mono ?_
        rintro e w2 ⟨rfl, hb2⟩
        have HB2 := Lib.hid (HB1.out.next hb2)
        clear c0_0 c0_1 c0_2 c0_3 c0_4 c0_5 hb2 HB1
        have c0_0 : w2.cell? ⟨w.heap.size, 0, none⟩ = some (.int .i64 fl) := cell_of_row _ _ _ _ _ (0, 0) HB2.out.r0
        have c0_1 : w2.cell? ⟨w.heap.size, 1, none⟩ = some (.int .i64 tg) := cell_of_row _ _ _ _ _ (0, 0) HB2.out.r0
        have c0_2 : w2.cell? ⟨w.heap.size, 2, none⟩ = some (.int .i64 lf) := cell_of_row _ _ _ _ _ (0, 0) HB2.out.r0
        have c0_3 : w2.cell? ⟨w.heap.size, 3, none⟩ = some (.int .i64 dd) := cell_of_row _ _ _ _ _ (0, 0) HB2.out.r0
        have c0_4 : w2.cell? ⟨w.heap.size, 4, none⟩ = some (.int .i64 am) := cell_of_row _ _ _ _ _ (0, 0) HB2.out.r0
        have c0_5 : w2.cell? ⟨w.heap.size, 5, none⟩ = some (.int .i64 tk) := cell_of_row _ _ _ _ _ (0, 0) HB2.out.r0
        go_wp2_with fail
        refine (Fe3.out _).mono ?_
        rintro e w3 ⟨rfl, hb3⟩
        have HB3 := Lib.hid (HB2.out.next hb3)
        clear c0_0 c0_1 c0_2 c0_3 c0_4 c0_5 hb3 HB2
        have c0_0 : w3.cell? ⟨w.heap.size, 0, none⟩ = some (.int .i64 fl) := cell_of_row _ _ _ _ _ (0, 0) HB3.out.r0
        have c0_1 : w3.cell? ⟨w.heap.size, 1, none⟩ = some (.int .i64 tg) := cell_of_row _ _ _ _ _ (0, 0) HB3.out.r0
        have c0_2 : w3.cell? ⟨w.heap.size, 2, none⟩ = some (.int .i64 lf) := cell_of_row _ _ _ _ _ (0, 0) HB3.out.r0
        have c0_3 : w3.cell? ⟨w.heap.size, 3, none⟩ = some (.int .i64 dd) := cell_of_row _ _ _ _ _ (0, 0) HB3.out.r0
        have c0_4 : w3.cell? ⟨w.heap.size, 4, none⟩ = some (.int .i64 am) := cell_of_row _ _ _ _ _ (0, 0) HB3.out.r0
        have c0_5 : w3.cell? ⟨w.heap.size, 5, none⟩ = some (.int .i64 tk) := cell_of_row _ _ _ _ _ (0, 0) HB3.out.r0
        go_wp2_with fail
        go_ret
        exact ⟨rfl, HB3.out.below⟩
    · have Fe2 := Lib.hid (fun wx => playIn_any fl 0 (F - 1) wx)
      rw [Nc.wi_no e2] at Fe2
      have hR : Rg.isB F ⟨fl, tg, lf, dd, am, tk⟩ = false := by
        cases hq : Rg.isB F ⟨fl, tg, lf, dd, am, tk⟩
        · rfl
        · obtain ⟨z1, z2, z3, z4, z5, z6, z7⟩ := Rg.isB_iff.1 hq
          simp only at z2 z3 z4 z5 z6 z7
          exfalso; omega
      rw [hR]
      clear hR
      clear e1 e2
      simp only [Rg.agg]
      have HB0 := Lib.hid (bxs1 w (.cells #[.int .i64 fl, .int .i64 tg, .int .i64 lf, .int .i64 dd, .int .i64 am, .int .i64 tk] 23))
      go_enter Try.func27, Try.ntmps27
      go_wp2_with fail
      refine (Fe1.out _).mono ?_
      rintro e w1 ⟨rfl, hb1⟩
      have HB1 := Lib.hid (HB0.out.next hb1)
      clear hb1 HB0
      have c0_0 : w1.cell? ⟨w.heap.size, 0, none⟩ = some (.int .i64 fl) := cell_of_row _ _ _ _ _ (0, 0) HB1.out.r0
      have c0_1 : w1.cell? ⟨w.heap.size, 1, none⟩ = some (.int .i64 tg) := cell_of_row _ _ _ _ _ (0, 0) HB1.out.r0
      have c0_2 : w1.cell? ⟨w.heap.size, 2, none⟩ = some (.int .i64 lf) := cell_of_row _ _ _ _ _ (0, 0) HB1.out.r0
      have c0_3 : w1.cell? ⟨w.heap.size, 3, none⟩ = some (.int .i64 dd) := cell_of_row _ _ _ _ _ (0, 0) HB1.out.r0
      have c0_4 : w1.cell? ⟨w.heap.size, 4, none⟩ = some (.int .i64 am) := cell_of_row _ _ _ _ _ (0, 0) HB1.out.r0
      have c0_5 : w1.cell? ⟨w.heap.size, 5, none⟩ = some (.int .i64 tk) := cell_of_row _ _ _ _ _ (0, 0) HB1.out.r0
      go_wp2_with fail
      refine (Fe2.out _).mono ?_
      rintro e w2 ⟨rfl, hb2⟩
      have HB2 := Lib.hid (HB1.out.next hb2)
      clear c0_0 c0_1 c0_2 c0_3 c0_4 c0_5 hb2 HB1
      have c0_0 : w2.cell? ⟨w.heap.size, 0, none⟩ = some (.int .i64 fl) := cell_of_row _ _ _ _ _ (0, 0) HB2.out.r0
      have c0_1 : w2.cell? ⟨w.heap.size, 1, none⟩ = some (.int .i64 tg) := cell_of_row _ _ _ _ _ (0, 0) HB2.out.r0
      have c0_2 : w2.cell? ⟨w.heap.size, 2, none⟩ = some (.int .i64 lf) := cell_of_row _ _ _ _ _ (0, 0) HB2.out.r0
      have c0_3 : w2.cell? ⟨w.heap.size, 3, none⟩ = some (.int .i64 dd) := cell_of_row _ _ _ _ _ (0, 0) HB2.out.r0
      have c0_4 : w2.cell? ⟨w.heap.size, 4, none⟩ = some (.int .i64 am) := cell_of_row _ _ _ _ _ (0, 0) HB2.out.r0
      have c0_5 : w2.cell? ⟨w.heap.size, 5, none⟩ = some (.int .i64 tk) := cell_of_row _ _ _ _ _ (0, 0) HB2.out.r0
      go_wp2_with fail
      go_ret
      exact ⟨rfl, HB2.out.below⟩
  · have Fe1 := Lib.hid (fun wx => playIn_any F 2 32 wx)
    rw [Nc.wi_no e1] at Fe1
    have hR : Rg.isB F ⟨fl, tg, lf, dd, am, tk⟩ = false := by
      cases hq : Rg.isB F ⟨fl, tg, lf, dd, am, tk⟩
      · rfl
      · obtain ⟨z1, z2, z3, z4, z5, z6, z7⟩ := Rg.isB_iff.1 hq
        simp only at z2 z3 z4 z5 z6 z7
        exfalso; omega
    rw [hR]
    clear hR
    clear e1
    simp only [Rg.agg]
    have HB0 := Lib.hid (bxs1 w (.cells #[.int .i64 fl, .int .i64 tg, .int .i64 lf, .int .i64 dd, .int .i64 am, .int .i64 tk] 23))
    go_enter Try.func27, Try.ntmps27
    go_wp2_with fail
    refine (Fe1.out _).mono ?_
    rintro e w1 ⟨rfl, hb1⟩
    have HB1 := Lib.hid (HB0.out.next hb1)
    clear hb1 HB0
    have c0_0 : w1.cell? ⟨w.heap.size, 0, none⟩ = some (.int .i64 fl) := cell_of_row _ _ _ _ _ (0, 0) HB1.out.r0
    have c0_1 : w1.cell? ⟨w.heap.size, 1, none⟩ = some (.int .i64 tg) := cell_of_row _ _ _ _ _ (0, 0) HB1.out.r0
    have c0_2 : w1.cell? ⟨w.heap.size, 2, none⟩ = some (.int .i64 lf) := cell_of_row _ _ _ _ _ (0, 0) HB1.out.r0
    have c0_3 : w1.cell? ⟨w.heap.size, 3, none⟩ = some (.int .i64 dd) := cell_of_row _ _ _ _ _ (0, 0) HB1.out.r0
    have c0_4 : w1.cell? ⟨w.heap.size, 4, none⟩ = some (.int .i64 am) := cell_of_row _ _ _ _ _ (0, 0) HB1.out.r0
    have c0_5 : w1.cell? ⟨w.heap.size, 5, none⟩ = some (.int .i64 tk) := cell_of_row _ _ _ _ _ (0, 0) HB1.out.r0
    go_wp2_with fail
    go_ret
    exact ⟨rfl, HB1.out.below⟩
end Go.Proofs.Ytmfinebkikhceaa
