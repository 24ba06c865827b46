/- The reference of layer 16, for anything. No statement of the seat is proved here. -/
import Derived.Test.YtmfinebkikhceaaRgPlayD
namespace Go.Proofs.Ytmfinebkikhceaa
open Go.RowKit
set_option maxRecDepth 4000
set_option linter.unusedSimpArgs false
set_option linter.unusedVariables false

set_option maxHeartbeats 4000000 in
theorem refNew_any (n : Int) (w : World) :
    Calls Try.prog 9 #[.int .i64 n] w fun ee w' => ee = .returned ((Rg.new n).agg) ∧ Below w.heap.size w w' := by
  have F := Lib.hid (fun wx => playNew_any n wx)
  generalize Rg.new n = v at *
  obtain ⟨a1, a2, a3, a4, a5, a6⟩ := v
  simp only [Rg.agg] at *
  have HB0 := Lib.hid (bxs1 w (.cells #[.int .i64 0, .int .i64 0, .int .i64 0, .int .i64 0, .int .i64 0, .int .i64 0] 23))
  go_enter Try.func9, Try.ntmps9
  go_wp2_with fail
  refine (F.out _).mono ?_
  rintro e w1 ⟨rfl, hb1⟩
  have HB1 := Lib.hid (HB0.out.next hb1)
  clear hb1 HB0
  have c0_0 : w1.cell? ⟨w.heap.size, 0, none⟩ = some (.int .i64 0) := cell_of_row _ _ _ _ _ (0, 0) HB1.out.r0
  have c0_1 : w1.cell? ⟨w.heap.size, 1, none⟩ = some (.int .i64 0) := cell_of_row _ _ _ _ _ (0, 0) HB1.out.r0
  have c0_2 : w1.cell? ⟨w.heap.size, 2, none⟩ = some (.int .i64 0) := cell_of_row _ _ _ _ _ (0, 0) HB1.out.r0
  have c0_3 : w1.cell? ⟨w.heap.size, 3, none⟩ = some (.int .i64 0) := cell_of_row _ _ _ _ _ (0, 0) HB1.out.r0
  have c0_4 : w1.cell? ⟨w.heap.size, 4, none⟩ = some (.int .i64 0) := cell_of_row _ _ _ _ _ (0, 0) HB1.out.r0
  have c0_5 : w1.cell? ⟨w.heap.size, 5, none⟩ = some (.int .i64 0) := cell_of_row _ _ _ _ _ (0, 0) HB1.out.r0
  go_wp2_with (with_reducible show wpList _ _ _ (Oper.mk _ (.store 23 _ _) _ _ _ _ :: _) _ _; refine Hid.out ?_)
  refine Lib.hid ?_
  refine wpList_put rfl 23 _ _ rfl (w.heap.size) #[.int .i64 a1, .int .i64 a2, .int .i64 a3, .int .i64 a4, .int .i64 a5, .int .i64 a6] _ 23 rfl rfl HB1.out.r0 (by kernel_rfl) rfl (by kernel_rfl) ?_
  intro w2 hr2 hg2
  have HB2 : Hid (Bx w [(w.heap.size, .cells #[.int .i64 a1, .int .i64 a2, .int .i64 a3, .int .i64 a4, .int .i64 a5, .int .i64 a6] 23 (0, 0))] w2) := Lib.hid (HB1.out.put (by omega) hg2.out hr2.out (by simp only [List.mem_cons, List.not_mem_nil, or_false]; rintro p rfl <;> simp <;> omega))
  clear c0_0 c0_1 c0_2 c0_3 c0_4 c0_5 hr2 hg2 HB1
  go_wp2_with fail
  exact bodyPost_ret (results_cell_row Try.results9 _ _ _ _ _ (0, 0) _ rfl (HB2.out.r0) Try.underlying23 rfl (by kernel_rfl)) rfl (⟨rfl, HB2.out.below⟩)
set_option maxHeartbeats 4000000 in
theorem refIs_any (F : Int) (r : Rg) (w : World) :
    Calls Try.prog 15 #[.int .i64 F, r.agg] w fun ee w' => ee = .returned (.bool (Rg.isB F r)) ∧ Below w.heap.size w w' := by
  have FI := Lib.hid (fun wx => playIs_any F r wx)
  generalize Rg.isB F r = q at *
  obtain ⟨fl, tg, lf, dd, am, tk⟩ := r
  simp only [Rg.agg] at *
  have HB0 := Lib.hid (bxs1 w (.cells #[.int .i64 fl, .int .i64 tg, .int .i64 lf, .int .i64 dd, .int .i64 am, .int .i64 tk] 23))
  go_enter Try.func15, Try.ntmps15
  go_wp2_with fail
  refine (FI.out _).mono ?_
  rintro e w1 ⟨rfl, hb1⟩
  have HB1 := Lib.hid (HB0.out.next hb1)
  clear hb1 HB0
  have c0_0 : w1.cell? ⟨w.heap.size, 0, none⟩ = some (.int .i64 fl) := cell_of_row _ _ _ _ _ (0, 0) HB1.out.r0
  have c0_1 : w1.cell? ⟨w.heap.size, 1, none⟩ = some (.int .i64 tg) := cell_of_row _ _ _ _ _ (0, 0) HB1.out.r0
  have c0_2 : w1.cell? ⟨w.heap.size, 2, none⟩ = some (.int .i64 lf) := cell_of_row _ _ _ _ _ (0, 0) HB1.out.r0
  have c0_3 : w1.cell? ⟨w.heap.size, 3, none⟩ = some (.int .i64 dd) := cell_of_row _ _ _ _ _ (0, 0) HB1.out.r0
  have c0_4 : w1.cell? ⟨w.heap.size, 4, none⟩ = some (.int .i64 am) := cell_of_row _ _ _ _ _ (0, 0) HB1.out.r0
  have c0_5 : w1.cell? ⟨w.heap.size, 5, none⟩ = some (.int .i64 tk) := cell_of_row _ _ _ _ _ (0, 0) HB1.out.r0
  go_wp2_with fail
  go_ret
  exact ⟨rfl, HB1.out.below⟩
set_option maxHeartbeats 4000000 in
theorem refStep_any (F : Int) (r : Rg) (m t : Int) (w : World) :
    Calls Try.prog 11 #[.int .i64 F, r.agg, .int .i64 m, .int .i64 t] w fun ee w' => ee = .returned ((Rg.anyF F r m t).agg) ∧ Below w.heap.size w w' := by
  have FI := Lib.hid (fun wx => playStepAll_any F r m t wx)
  generalize Rg.anyF F r m t = v at *
  obtain ⟨fl, tg, lf, dd, am, tk⟩ := r
  obtain ⟨a1, a2, a3, a4, a5, a6⟩ := v
  simp only [Rg.agg] at *
  have HB0 := Lib.hid (bxs2 w (.cells #[.int .i64 fl, .int .i64 tg, .int .i64 lf, .int .i64 dd, .int .i64 am, .int .i64 tk] 23) (.cells #[.int .i64 0, .int .i64 0, .int .i64 0, .int .i64 0, .int .i64 0, .int .i64 0] 23))
  go_enter Try.func11, Try.ntmps11
  go_wp2_with fail
  refine (FI.out _).mono ?_
  rintro e w1 ⟨rfl, hb1⟩
  have HB1 := Lib.hid (HB0.out.next hb1)
  clear hb1 HB0
  have c0_0 : w1.cell? ⟨w.heap.size, 0, none⟩ = some (.int .i64 fl) := cell_of_row _ _ _ _ _ (0, 0) HB1.out.r0
  have c0_1 : w1.cell? ⟨w.heap.size, 1, none⟩ = some (.int .i64 tg) := cell_of_row _ _ _ _ _ (0, 0) HB1.out.r0
  have c0_2 : w1.cell? ⟨w.heap.size, 2, none⟩ = some (.int .i64 lf) := cell_of_row _ _ _ _ _ (0, 0) HB1.out.r0
  have c0_3 : w1.cell? ⟨w.heap.size, 3, none⟩ = some (.int .i64 dd) := cell_of_row _ _ _ _ _ (0, 0) HB1.out.r0
  have c0_4 : w1.cell? ⟨w.heap.size, 4, none⟩ = some (.int .i64 am) := cell_of_row _ _ _ _ _ (0, 0) HB1.out.r0
  have c0_5 : w1.cell? ⟨w.heap.size, 5, none⟩ = some (.int .i64 tk) := cell_of_row _ _ _ _ _ (0, 0) HB1.out.r0
  have c1_0 : w1.cell? ⟨w.heap.size + 1, 0, none⟩ = some (.int .i64 0) := cell_of_row _ _ _ _ _ (0, 0) HB1.out.r1
  have c1_1 : w1.cell? ⟨w.heap.size + 1, 1, none⟩ = some (.int .i64 0) := cell_of_row _ _ _ _ _ (0, 0) HB1.out.r1
  have c1_2 : w1.cell? ⟨w.heap.size + 1, 2, none⟩ = some (.int .i64 0) := cell_of_row _ _ _ _ _ (0, 0) HB1.out.r1
  have c1_3 : w1.cell? ⟨w.heap.size + 1, 3, none⟩ = some (.int .i64 0) := cell_of_row _ _ _ _ _ (0, 0) HB1.out.r1
  have c1_4 : w1.cell? ⟨w.heap.size + 1, 4, none⟩ = some (.int .i64 0) := cell_of_row _ _ _ _ _ (0, 0) HB1.out.r1
  have c1_5 : w1.cell? ⟨w.heap.size + 1, 5, none⟩ = some (.int .i64 0) := cell_of_row _ _ _ _ _ (0, 0) HB1.out.r1
  go_wp2_with (with_reducible show wpList _ _ _ (Oper.mk _ (.store 23 _ _) _ _ _ _ :: _) _ _; refine Hid.out ?_)
  refine Lib.hid ?_
  refine wpList_put rfl 23 _ _ rfl (w.heap.size + 1) #[.int .i64 a1, .int .i64 a2, .int .i64 a3, .int .i64 a4, .int .i64 a5, .int .i64 a6] _ 23 rfl rfl HB1.out.r1 (by kernel_rfl) rfl (by kernel_rfl) ?_
  intro w2 hr2 hg2
  have HB2 : Hid (Bx w [(w.heap.size, .cells #[.int .i64 fl, .int .i64 tg, .int .i64 lf, .int .i64 dd, .int .i64 am, .int .i64 tk] 23 (0, 0)), (w.heap.size + 1, .cells #[.int .i64 a1, .int .i64 a2, .int .i64 a3, .int .i64 a4, .int .i64 a5, .int .i64 a6] 23 (0, 0))] w2) := Lib.hid (HB1.out.put (by omega) hg2.out hr2.out (by simp only [List.mem_cons, List.not_mem_nil, or_false]; rintro p (rfl | rfl) <;> simp <;> omega))
  clear c0_0 c0_1 c0_2 c0_3 c0_4 c0_5 c1_0 c1_1 c1_2 c1_3 c1_4 c1_5 hr2 hg2 HB1
  go_wp2_with fail
  exact bodyPost_ret (results_cell_row Try.results11 _ _ _ _ _ (0, 0) _ rfl (HB2.out.r1) Try.underlying23 rfl (by kernel_rfl)) rfl (⟨rfl, HB2.out.below⟩)
set_option maxHeartbeats 4000000 in
theorem refReport_any (r : Rg) (bl : Bool) (w : World) :
    Calls Try.prog 13 #[r.agg, .bool bl] w fun ee w' => ee = .returned ((Rg.report r bl).agg) ∧ Below w.heap.size w w' := by
  have FI := Lib.hid (fun wx => playReport_any r bl wx)
  generalize Rg.report r bl = v at *
  obtain ⟨fl, tg, lf, dd, am, tk⟩ := r
  obtain ⟨a1, a2, a3, a4⟩ := v
  simp only [Rg.agg, Fb.agg] at *
  have HB0 := Lib.hid (bxs2 w (.cells #[.int .i64 fl, .int .i64 tg, .int .i64 lf, .int .i64 dd, .int .i64 am, .int .i64 tk] 23) (.cells #[.int .i64 0, .bool false, .int .i64 0, .bool false] 32))
  go_enter Try.func13, Try.ntmps13
  go_wp2_with fail
  refine (FI.out _).mono ?_
  rintro e w1 ⟨rfl, hb1⟩
  have HB1 := Lib.hid (HB0.out.next hb1)
  clear hb1 HB0
  have c0_0 : w1.cell? ⟨w.heap.size, 0, none⟩ = some (.int .i64 fl) := cell_of_row _ _ _ _ _ (0, 0) HB1.out.r0
  have c0_1 : w1.cell? ⟨w.heap.size, 1, none⟩ = some (.int .i64 tg) := cell_of_row _ _ _ _ _ (0, 0) HB1.out.r0
  have c0_2 : w1.cell? ⟨w.heap.size, 2, none⟩ = some (.int .i64 lf) := cell_of_row _ _ _ _ _ (0, 0) HB1.out.r0
  have c0_3 : w1.cell? ⟨w.heap.size, 3, none⟩ = some (.int .i64 dd) := cell_of_row _ _ _ _ _ (0, 0) HB1.out.r0
  have c0_4 : w1.cell? ⟨w.heap.size, 4, none⟩ = some (.int .i64 am) := cell_of_row _ _ _ _ _ (0, 0) HB1.out.r0
  have c0_5 : w1.cell? ⟨w.heap.size, 5, none⟩ = some (.int .i64 tk) := cell_of_row _ _ _ _ _ (0, 0) HB1.out.r0
  have c1_0 : w1.cell? ⟨w.heap.size + 1, 0, none⟩ = some (.int .i64 0) := cell_of_row _ _ _ _ _ (0, 0) HB1.out.r1
  have c1_1 : w1.cell? ⟨w.heap.size + 1, 1, none⟩ = some (.bool false) := cell_of_row _ _ _ _ _ (0, 0) HB1.out.r1
  have c1_2 : w1.cell? ⟨w.heap.size + 1, 2, none⟩ = some (.int .i64 0) := cell_of_row _ _ _ _ _ (0, 0) HB1.out.r1
  have c1_3 : w1.cell? ⟨w.heap.size + 1, 3, none⟩ = some (.bool false) := cell_of_row _ _ _ _ _ (0, 0) HB1.out.r1
  go_wp2_with (with_reducible show wpList _ _ _ (Oper.mk _ (.store 32 _ _) _ _ _ _ :: _) _ _; refine Hid.out ?_)
  refine Lib.hid ?_
  refine wpList_put rfl 32 _ _ rfl (w.heap.size + 1) #[.int .i64 a1, .bool a2, .int .i64 a3, .bool a4] _ 32 rfl rfl HB1.out.r1 (by kernel_rfl) rfl (by kernel_rfl) ?_
  intro w2 hr2 hg2
  have HB2 : Hid (Bx w [(w.heap.size, .cells #[.int .i64 fl, .int .i64 tg, .int .i64 lf, .int .i64 dd, .int .i64 am, .int .i64 tk] 23 (0, 0)), (w.heap.size + 1, .cells #[.int .i64 a1, .bool a2, .int .i64 a3, .bool a4] 32 (0, 0))] w2) := Lib.hid (HB1.out.put (by omega) hg2.out hr2.out (by simp only [List.mem_cons, List.not_mem_nil, or_false]; rintro p (rfl | rfl) <;> simp <;> omega))
  clear c0_0 c0_1 c0_2 c0_3 c0_4 c0_5 c1_0 c1_1 c1_2 c1_3 hr2 hg2 HB1
  go_wp2_with fail
  exact bodyPost_ret (results_cell_row Try.results13 _ _ _ _ _ (0, 0) _ rfl (HB2.out.r1) Try.underlying32 rfl (by kernel_rfl)) rfl (⟨rfl, HB2.out.below⟩)
end Go.Proofs.Ytmfinebkikhceaa
