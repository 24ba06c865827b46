/- The program's Step of doors. No statement of the seat is proved here. -/
import Derived.Test.YtnjcegkefjdgdaaDoorDrState
namespace Go.Proofs.YtnjcegkefjdgdaaDoor
open Go.RowKit

set_option maxHeartbeats 2000000 in
theorem step_no (t0 t1 t2 t3 t4 t5 t6 t7 t8 : Int) (a b c : Int) (d : Bool) (e : Int) (k : Int) (bl wt : Bool) (w : World) (hB : Dr.isB ⟨a, b, c, d, e⟩ = false) :
    Calls Tryd.prog 66 #[.agg #[.int .i64 t0, .int .i64 t1, .int .i64 t2, .int .i64 t3, .int .i64 t4, .int .i64 t5, .int .i64 t6, .int .i64 t7, .int .i64 t8], .agg #[.int .i64 a, .int .i64 b, .int .i64 c, .bool d, .int .i64 e], .int .i64 k, .bool bl, .bool wt] w fun ee w' => ee = .returned (.tuple #[(if wt = true then (⟨1, 0, 0, false, 0⟩ : Dr) else Dr.zero).agg, .int .i64 (if wt = true then 3 else 0)]) ∧ Below w.heap.size w w' := by
  have F := Lib.hid (fun wx => isState_any a b c d e wx)
  rw [hB] at F
  clear hB
  have FN := Lib.hid (fun wx => nextSince_any 0 wx (by decide))
  rw [show Dr.next 0 = 0 from rfl] at FN
  have FI := Lib.hid (fun wx => idle_any wt wx)
  generalize hz : (if wt = true then (⟨1, 0, 0, false, 0⟩ : Dr) else Dr.zero) = z at *
  generalize (if wt = true then (3 : Int) else 0) = cmd at *
  clear hz
  obtain ⟨z1, z2, z3, z4, z5⟩ := z
  simp only [Dr.agg] at FI ⊢
  have HB0 := Lib.hid (bxs3 w (.cells #[.int .i64 t0, .int .i64 t1, .int .i64 t2, .int .i64 t3, .int .i64 t4, .int .i64 t5, .int .i64 t6, .int .i64 t7, .int .i64 t8] 51) (.cells #[.int .i64 a, .int .i64 b, .int .i64 c, .bool d, .int .i64 e] 33) (.cells #[.int .i64 0, .int .i64 0, .int .i64 0, .bool false, .int .i64 0] 33))
  go_enter Tryd.func66, Tryd.ntmps66
  go_wp2_with fail
  refine (F.out _).mono ?_
  rintro e w1 ⟨rfl, hb1⟩
  have HB1 := Lib.hid (HB0.out.next hb1)
  clear hb1 HB0
  obtain ⟨-, -, -, -, -, -, c0_6, c0_7, -⟩ := row9 (b := w.heap.size) HB1.out.r0
  obtain ⟨c1_0, c1_1, c1_2, c1_3, c1_4⟩ := row5 (b := w.heap.size + 1) HB1.out.r1
  go_wp2_with (with_reducible show wpList _ _ _ (Oper.mk _ (.store 33 _ _) _ _ _ _ :: _) _ _; refine Hid.out ?_)
  refine Lib.hid ?_
  refine wpList_put rfl 33 _ _ rfl (w.heap.size + 1) #[.int .i64 0, .int .i64 0, .int .i64 0, .bool false, .int .i64 0] _ 33 rfl rfl HB1.out.r1 (by kernel_rfl) rfl (by kernel_rfl) ?_
  intro w2 hr2 hg2
  have HB2 : Hid (Bx w [(w.heap.size, .cells #[.int .i64 t0, .int .i64 t1, .int .i64 t2, .int .i64 t3, .int .i64 t4, .int .i64 t5, .int .i64 t6, .int .i64 t7, .int .i64 t8] 51 (0, 0)), (w.heap.size + 1, .cells #[.int .i64 0, .int .i64 0, .int .i64 0, .bool false, .int .i64 0] 33 (0, 0)), (w.heap.size + 2, .cells #[.int .i64 0, .int .i64 0, .int .i64 0, .bool false, .int .i64 0] 33 (0, 0))] w2) := Lib.hid (HB1.out.put (by omega) hg2.out hr2.out (by simp only [List.mem_cons, List.not_mem_nil, or_false]; rintro p (rfl | rfl | rfl) <;> simp <;> omega))
  clear c0_6 c0_7 c1_0 c1_1 c1_2 c1_3 c1_4 hr2 hg2 HB1
  obtain ⟨-, -, -, -, -, -, c0_6, c0_7, -⟩ := row9 (b := w.heap.size) HB2.out.r0
  obtain ⟨c1_0, c1_1, c1_2, c1_3, c1_4⟩ := row5 (b := w.heap.size + 1) HB2.out.r1
  go_wp2_with fail
  refine (FN.out _).mono ?_
  rintro e w3 ⟨rfl, hb3⟩
  have HB3 := Lib.hid (HB2.out.next hb3)
  clear c0_6 c0_7 c1_0 c1_1 c1_2 c1_3 c1_4 hb3 HB2
  obtain ⟨-, -, -, -, -, -, c0_6, c0_7, -⟩ := row9 (b := w.heap.size) HB3.out.r0
  obtain ⟨c1_0, c1_1, c1_2, c1_3, c1_4⟩ := row5 (b := w.heap.size + 1) HB3.out.r1
  go_wp2_with (with_reducible show wpList _ _ _ (Oper.mk _ (.store 3 _ _) _ _ _ _ :: _) _ _; refine Hid.out ?_)
  refine Lib.hid ?_
  refine wpList_putCell rfl 3 _ _ rfl (w.heap.size + 1) 2 (.int .i64 0) _ _ 33 rfl rfl HB3.out.r1 (by kernel_rfl) (by simp) rfl rfl rfl ?_
  intro w4 hr4 hg4
  have HB4 : Hid (Bx w [(w.heap.size, .cells #[.int .i64 t0, .int .i64 t1, .int .i64 t2, .int .i64 t3, .int .i64 t4, .int .i64 t5, .int .i64 t6, .int .i64 t7, .int .i64 t8] 51 (0, 0)), (w.heap.size + 1, .cells #[.int .i64 0, .int .i64 0, .int .i64 0, .bool false, .int .i64 0] 33 (0, 0)), (w.heap.size + 2, .cells #[.int .i64 0, .int .i64 0, .int .i64 0, .bool false, .int .i64 0] 33 (0, 0))] w4) := Lib.hid (HB3.out.put (by omega) hg4.out hr4.out (by simp only [List.mem_cons, List.not_mem_nil, or_false]; rintro p (rfl | rfl | rfl) <;> simp <;> omega))
  clear c0_6 c0_7 c1_0 c1_1 c1_2 c1_3 c1_4 hr4 hg4 HB3
  obtain ⟨-, -, -, -, -, -, c0_6, c0_7, -⟩ := row9 (b := w.heap.size) HB4.out.r0
  obtain ⟨c1_0, c1_1, c1_2, c1_3, c1_4⟩ := row5 (b := w.heap.size + 1) HB4.out.r1
  go_wp2_with fail
  refine (FI.out _).mono ?_
  rintro e w5 ⟨rfl, hb5⟩
  have HB5 := Lib.hid (HB4.out.next hb5)
  clear c0_6 c0_7 c1_0 c1_1 c1_2 c1_3 c1_4 hb5 HB4
  obtain ⟨-, -, -, -, -, -, c0_6, c0_7, -⟩ := row9 (b := w.heap.size) HB5.out.r0
  obtain ⟨c1_0, c1_1, c1_2, c1_3, c1_4⟩ := row5 (b := w.heap.size + 1) HB5.out.r1
  go_wp2_with (with_reducible show wpList _ _ _ (Oper.mk _ (.store 33 _ _) _ _ _ _ :: _) _ _; refine Hid.out ?_)
  refine Lib.hid ?_
  refine wpList_put rfl 33 _ _ rfl (w.heap.size + 2) #[.int .i64 z1, .int .i64 z2, .int .i64 z3, .bool z4, .int .i64 z5] _ 33 rfl rfl HB5.out.r2 (by kernel_rfl) rfl (by kernel_rfl) ?_
  intro w6 hr6 hg6
  have HB6 : Hid (Bx w [(w.heap.size, .cells #[.int .i64 t0, .int .i64 t1, .int .i64 t2, .int .i64 t3, .int .i64 t4, .int .i64 t5, .int .i64 t6, .int .i64 t7, .int .i64 t8] 51 (0, 0)), (w.heap.size + 1, .cells #[.int .i64 0, .int .i64 0, .int .i64 0, .bool false, .int .i64 0] 33 (0, 0)), (w.heap.size + 2, .cells #[.int .i64 z1, .int .i64 z2, .int .i64 z3, .bool z4, .int .i64 z5] 33 (0, 0))] w6) := Lib.hid (HB5.out.put (by omega) hg6.out hr6.out (by simp only [List.mem_cons, List.not_mem_nil, or_false]; rintro p (rfl | rfl | rfl) <;> simp <;> omega))
  clear c0_6 c0_7 c1_0 c1_1 c1_2 c1_3 c1_4 hr6 hg6 HB5
  obtain ⟨-, -, -, -, -, -, c0_6, c0_7, -⟩ := row9 (b := w.heap.size) HB6.out.r0
  obtain ⟨c1_0, c1_1, c1_2, c1_3, c1_4⟩ := row5 (b := w.heap.size + 1) HB6.out.r1
  go_wp2_with fail
  exact bodyPost_ret (results_row_tmp Tryd.results66 _ _ _ _ _ (0, 0) _ rfl HB6.out.r2 Tryd.underlying33 rfl (by kernel_rfl)) rfl (⟨rfl, HB6.out.below⟩)
set_option maxHeartbeats 2000000 in
theorem step_idle (t0 t1 t2 t3 t4 t5 t6 t7 t8 : Int) (k : Int) (bl wt : Bool) (w : World) :
    Calls Tryd.prog 66 #[.agg #[.int .i64 t0, .int .i64 t1, .int .i64 t2, .int .i64 t3, .int .i64 t4, .int .i64 t5, .int .i64 t6, .int .i64 t7, .int .i64 t8], .agg #[.int .i64 0, .int .i64 0, .int .i64 0, .bool false, .int .i64 0], .int .i64 k, .bool bl, .bool wt] w fun ee w' => ee = .returned (.tuple #[(if wt = true then (⟨1, 0, 0, false, 0⟩ : Dr) else Dr.zero).agg, .int .i64 (if wt = true then 3 else 0)]) ∧ Below w.heap.size w w' := by
  have F := Lib.hid (fun wx => isState_any 0 0 0 false 0 wx)
  rw [show Dr.isB ⟨0, 0, 0, false, 0⟩ = true by decide] at F
  have FN := Lib.hid (fun wx => nextSince_any 0 wx (by decide))
  rw [show Dr.next 0 = 0 from rfl] at FN
  have FI := Lib.hid (fun wx => idle_any wt wx)
  generalize hz : (if wt = true then (⟨1, 0, 0, false, 0⟩ : Dr) else Dr.zero) = z at *
  generalize (if wt = true then (3 : Int) else 0) = cmd at *
  clear hz
  obtain ⟨z1, z2, z3, z4, z5⟩ := z
  simp only [Dr.agg] at FI ⊢
  have HB0 := Lib.hid (bxs3 w (.cells #[.int .i64 t0, .int .i64 t1, .int .i64 t2, .int .i64 t3, .int .i64 t4, .int .i64 t5, .int .i64 t6, .int .i64 t7, .int .i64 t8] 51) (.cells #[.int .i64 0, .int .i64 0, .int .i64 0, .bool false, .int .i64 0] 33) (.cells #[.int .i64 0, .int .i64 0, .int .i64 0, .bool false, .int .i64 0] 33))
  go_enter Tryd.func66, Tryd.ntmps66
  go_wp2_with fail
  refine (F.out _).mono ?_
  rintro e w1 ⟨rfl, hb1⟩
  have HB1 := Lib.hid (HB0.out.next hb1)
  clear hb1 HB0
  obtain ⟨-, -, -, -, -, -, c0_6, c0_7, -⟩ := row9 (b := w.heap.size) HB1.out.r0
  obtain ⟨c1_0, c1_1, c1_2, c1_3, c1_4⟩ := row5 (b := w.heap.size + 1) HB1.out.r1
  go_wp2_with fail
  refine (FN.out _).mono ?_
  rintro e w2 ⟨rfl, hb2⟩
  have HB2 := Lib.hid (HB1.out.next hb2)
  clear c0_6 c0_7 c1_0 c1_1 c1_2 c1_3 c1_4 hb2 HB1
  obtain ⟨-, -, -, -, -, -, c0_6, c0_7, -⟩ := row9 (b := w.heap.size) HB2.out.r0
  obtain ⟨c1_0, c1_1, c1_2, c1_3, c1_4⟩ := row5 (b := w.heap.size + 1) HB2.out.r1
  go_wp2_with (with_reducible show wpList _ _ _ (Oper.mk _ (.store 3 _ _) _ _ _ _ :: _) _ _; refine Hid.out ?_)
  refine Lib.hid ?_
  refine wpList_putCell rfl 3 _ _ rfl (w.heap.size + 1) 2 (.int .i64 0) _ _ 33 rfl rfl HB2.out.r1 (by kernel_rfl) (by simp) rfl rfl rfl ?_
  intro w3 hr3 hg3
  have HB3 : Hid (Bx w [(w.heap.size, .cells #[.int .i64 t0, .int .i64 t1, .int .i64 t2, .int .i64 t3, .int .i64 t4, .int .i64 t5, .int .i64 t6, .int .i64 t7, .int .i64 t8] 51 (0, 0)), (w.heap.size + 1, .cells #[.int .i64 0, .int .i64 0, .int .i64 0, .bool false, .int .i64 0] 33 (0, 0)), (w.heap.size + 2, .cells #[.int .i64 0, .int .i64 0, .int .i64 0, .bool false, .int .i64 0] 33 (0, 0))] w3) := Lib.hid (HB2.out.put (by omega) hg3.out hr3.out (by simp only [List.mem_cons, List.not_mem_nil, or_false]; rintro p (rfl | rfl | rfl) <;> simp <;> omega))
  clear c0_6 c0_7 c1_0 c1_1 c1_2 c1_3 c1_4 hr3 hg3 HB2
  obtain ⟨-, -, -, -, -, -, c0_6, c0_7, -⟩ := row9 (b := w.heap.size) HB3.out.r0
  obtain ⟨c1_0, c1_1, c1_2, c1_3, c1_4⟩ := row5 (b := w.heap.size + 1) HB3.out.r1
  go_wp2_with fail
  refine (FI.out _).mono ?_
  rintro e w4 ⟨rfl, hb4⟩
  have HB4 := Lib.hid (HB3.out.next hb4)
  clear c0_6 c0_7 c1_0 c1_1 c1_2 c1_3 c1_4 hb4 HB3
  obtain ⟨-, -, -, -, -, -, c0_6, c0_7, -⟩ := row9 (b := w.heap.size) HB4.out.r0
  obtain ⟨c1_0, c1_1, c1_2, c1_3, c1_4⟩ := row5 (b := w.heap.size + 1) HB4.out.r1
  go_wp2_with (with_reducible show wpList _ _ _ (Oper.mk _ (.store 33 _ _) _ _ _ _ :: _) _ _; refine Hid.out ?_)
  refine Lib.hid ?_
  refine wpList_put rfl 33 _ _ rfl (w.heap.size + 2) #[.int .i64 z1, .int .i64 z2, .int .i64 z3, .bool z4, .int .i64 z5] _ 33 rfl rfl HB4.out.r2 (by kernel_rfl) rfl (by kernel_rfl) ?_
  intro w5 hr5 hg5
  have HB5 : Hid (Bx w [(w.heap.size, .cells #[.int .i64 t0, .int .i64 t1, .int .i64 t2, .int .i64 t3, .int .i64 t4, .int .i64 t5, .int .i64 t6, .int .i64 t7, .int .i64 t8] 51 (0, 0)), (w.heap.size + 1, .cells #[.int .i64 0, .int .i64 0, .int .i64 0, .bool false, .int .i64 0] 33 (0, 0)), (w.heap.size + 2, .cells #[.int .i64 z1, .int .i64 z2, .int .i64 z3, .bool z4, .int .i64 z5] 33 (0, 0))] w5) := Lib.hid (HB4.out.put (by omega) hg5.out hr5.out (by simp only [List.mem_cons, List.not_mem_nil, or_false]; rintro p (rfl | rfl | rfl) <;> simp <;> omega))
  clear c0_6 c0_7 c1_0 c1_1 c1_2 c1_3 c1_4 hr5 hg5 HB4
  obtain ⟨-, -, -, -, -, -, c0_6, c0_7, -⟩ := row9 (b := w.heap.size) HB5.out.r0
  obtain ⟨c1_0, c1_1, c1_2, c1_3, c1_4⟩ := row5 (b := w.heap.size + 1) HB5.out.r1
  go_wp2_with fail
  exact bodyPost_ret (results_row_tmp Tryd.results66 _ _ _ _ _ (0, 0) _ rfl HB5.out.r2 Tryd.underlying33 rfl (by kernel_rfl)) rfl (⟨rfl, HB5.out.below⟩)
set_option maxHeartbeats 2000000 in
theorem step_c1 (t0 t1 t2 t3 t4 t5 t6 t7 t8 : Int) (b c n : Int) (d : Bool) (e : Int) (bl : Bool) (wt : Bool) (w : World) (hB : Dr.isB ⟨1, b, c, d, e⟩ = true) (hn : Dr.next c = n) :
    Calls Tryd.prog 66 #[.agg #[.int .i64 t0, .int .i64 t1, .int .i64 t2, .int .i64 t3, .int .i64 t4, .int .i64 t5, .int .i64 t6, .int .i64 t7, .int .i64 t8], .agg #[.int .i64 1, .int .i64 b, .int .i64 c, .bool d, .int .i64 e], .int .i64 1, .bool bl, .bool wt] w fun ee w' => ee = .returned (.tuple #[.agg #[.int .i64 2, .int .i64 0, .int .i64 (if n ≤ 1 then 1 else n), .bool d, .int .i64 e], .int .i64 0]) ∧ Below w.heap.size w w' := by
  have hst := hB
  obtain ⟨-, hb, hc, he⟩ := (Dr.isB_iff (by simp)).1 hst
  simp only at hb hc he
  have F := Lib.hid (fun wx => isState_any 1 b c d e wx)
  rw [hB] at F
  have FN := Lib.hid (fun wx => nextSince_any c wx hc)
  rw [hn] at FN
  by_cases hl : t7 < n
  · have FC := Lib.hid (fun wx => opening_open 1 b n d e true wx)
    generalize (if n ≤ 1 then 1 else n) = v at *
    clear hst hB hn hb hc he
    have HB0 := Lib.hid (bxs3 w (.cells #[.int .i64 t0, .int .i64 t1, .int .i64 t2, .int .i64 t3, .int .i64 t4, .int .i64 t5, .int .i64 t6, .int .i64 t7, .int .i64 t8] 51) (.cells #[.int .i64 1, .int .i64 b, .int .i64 c, .bool d, .int .i64 e] 33) (.cells #[.int .i64 0, .int .i64 0, .int .i64 0, .bool false, .int .i64 0] 33))
    go_enter Tryd.func66, Tryd.ntmps66
    go_wp2_with fail
    refine (F.out _).mono ?_
    rintro e w1 ⟨rfl, hb1⟩
    have HB1 := Lib.hid (HB0.out.next hb1)
    clear hb1 HB0
    obtain ⟨-, -, -, -, -, -, c0_6, c0_7, -⟩ := row9 (b := w.heap.size) HB1.out.r0
    obtain ⟨c1_0, c1_1, c1_2, c1_3, c1_4⟩ := row5 (b := w.heap.size + 1) HB1.out.r1
    go_wp2_with fail
    refine (FN.out _).mono ?_
    rintro e w2 ⟨rfl, hb2⟩
    have HB2 := Lib.hid (HB1.out.next hb2)
    clear c0_6 c0_7 c1_0 c1_1 c1_2 c1_3 c1_4 hb2 HB1
    obtain ⟨-, -, -, -, -, -, c0_6, c0_7, -⟩ := row9 (b := w.heap.size) HB2.out.r0
    obtain ⟨c1_0, c1_1, c1_2, c1_3, c1_4⟩ := row5 (b := w.heap.size + 1) HB2.out.r1
    go_wp2_with (with_reducible show wpList _ _ _ (Oper.mk _ (.store 3 _ _) _ _ _ _ :: _) _ _; refine Hid.out ?_)
    refine Lib.hid ?_
    refine wpList_putCell rfl 3 _ _ rfl (w.heap.size + 1) 2 (.int .i64 n) _ _ 33 rfl rfl HB2.out.r1 (by kernel_rfl) (by simp) rfl rfl rfl ?_
    intro w3 hr3 hg3
    have HB3 : Hid (Bx w [(w.heap.size, .cells #[.int .i64 t0, .int .i64 t1, .int .i64 t2, .int .i64 t3, .int .i64 t4, .int .i64 t5, .int .i64 t6, .int .i64 t7, .int .i64 t8] 51 (0, 0)), (w.heap.size + 1, .cells #[.int .i64 1, .int .i64 b, .int .i64 n, .bool d, .int .i64 e] 33 (0, 0)), (w.heap.size + 2, .cells #[.int .i64 0, .int .i64 0, .int .i64 0, .bool false, .int .i64 0] 33 (0, 0))] w3) := Lib.hid (HB2.out.put (by omega) hg3.out hr3.out (by simp only [List.mem_cons, List.not_mem_nil, or_false]; rintro p (rfl | rfl | rfl) <;> simp <;> omega))
    clear c0_6 c0_7 c1_0 c1_1 c1_2 c1_3 c1_4 hr3 hg3 HB2
    obtain ⟨-, -, -, -, -, -, c0_6, c0_7, -⟩ := row9 (b := w.heap.size) HB3.out.r0
    obtain ⟨c1_0, c1_1, c1_2, c1_3, c1_4⟩ := row5 (b := w.heap.size + 1) HB3.out.r1
    go_wp2_with fail
    refine (FC.out _).mono ?_
    rintro e w4 ⟨rfl, hb4⟩
    have HB4 := Lib.hid (HB3.out.next hb4)
    clear c0_6 c0_7 c1_0 c1_1 c1_2 c1_3 c1_4 hb4 HB3
    obtain ⟨-, -, -, -, -, -, c0_6, c0_7, -⟩ := row9 (b := w.heap.size) HB4.out.r0
    obtain ⟨c1_0, c1_1, c1_2, c1_3, c1_4⟩ := row5 (b := w.heap.size + 1) HB4.out.r1
    go_wp2_with (with_reducible show wpList _ _ _ (Oper.mk _ (.store 33 _ _) _ _ _ _ :: _) _ _; refine Hid.out ?_)
    refine Lib.hid ?_
    refine wpList_put rfl 33 _ _ rfl (w.heap.size + 2) #[.int .i64 2, .int .i64 0, .int .i64 v, .bool d, .int .i64 e] _ 33 rfl rfl HB4.out.r2 (by kernel_rfl) rfl (by kernel_rfl) ?_
    intro w5 hr5 hg5
    have HB5 : Hid (Bx w [(w.heap.size, .cells #[.int .i64 t0, .int .i64 t1, .int .i64 t2, .int .i64 t3, .int .i64 t4, .int .i64 t5, .int .i64 t6, .int .i64 t7, .int .i64 t8] 51 (0, 0)), (w.heap.size + 1, .cells #[.int .i64 1, .int .i64 b, .int .i64 n, .bool d, .int .i64 e] 33 (0, 0)), (w.heap.size + 2, .cells #[.int .i64 2, .int .i64 0, .int .i64 v, .bool d, .int .i64 e] 33 (0, 0))] w5) := Lib.hid (HB4.out.put (by omega) hg5.out hr5.out (by simp only [List.mem_cons, List.not_mem_nil, or_false]; rintro p (rfl | rfl | rfl) <;> simp <;> omega))
    clear c0_6 c0_7 c1_0 c1_1 c1_2 c1_3 c1_4 hr5 hg5 HB4
    obtain ⟨-, -, -, -, -, -, c0_6, c0_7, -⟩ := row9 (b := w.heap.size) HB5.out.r0
    obtain ⟨c1_0, c1_1, c1_2, c1_3, c1_4⟩ := row5 (b := w.heap.size + 1) HB5.out.r1
    go_wp2_with fail
    exact bodyPost_ret (results_row_tmp Tryd.results66 _ _ _ _ _ (0, 0) _ rfl HB5.out.r2 Tryd.underlying33 rfl (by kernel_rfl)) rfl (⟨rfl, HB5.out.below⟩)
  · have hld : decide (t7 < n) = false := decide_eq_false hl
    have FC := Lib.hid (fun wx => opening_open 1 b n d e false wx)
    generalize (if n ≤ 1 then 1 else n) = v at *
    clear hst hB hn hb hc he
    have HB0 := Lib.hid (bxs3 w (.cells #[.int .i64 t0, .int .i64 t1, .int .i64 t2, .int .i64 t3, .int .i64 t4, .int .i64 t5, .int .i64 t6, .int .i64 t7, .int .i64 t8] 51) (.cells #[.int .i64 1, .int .i64 b, .int .i64 c, .bool d, .int .i64 e] 33) (.cells #[.int .i64 0, .int .i64 0, .int .i64 0, .bool false, .int .i64 0] 33))
    go_enter Tryd.func66, Tryd.ntmps66
    go_wp2_with fail
    refine (F.out _).mono ?_
    rintro e w1 ⟨rfl, hb1⟩
    have HB1 := Lib.hid (HB0.out.next hb1)
    clear hb1 HB0
    obtain ⟨-, -, -, -, -, -, c0_6, c0_7, -⟩ := row9 (b := w.heap.size) HB1.out.r0
    obtain ⟨c1_0, c1_1, c1_2, c1_3, c1_4⟩ := row5 (b := w.heap.size + 1) HB1.out.r1
    go_wp2_with fail
    refine (FN.out _).mono ?_
    rintro e w2 ⟨rfl, hb2⟩
    have HB2 := Lib.hid (HB1.out.next hb2)
    clear c0_6 c0_7 c1_0 c1_1 c1_2 c1_3 c1_4 hb2 HB1
    obtain ⟨-, -, -, -, -, -, c0_6, c0_7, -⟩ := row9 (b := w.heap.size) HB2.out.r0
    obtain ⟨c1_0, c1_1, c1_2, c1_3, c1_4⟩ := row5 (b := w.heap.size + 1) HB2.out.r1
    go_wp2_with (with_reducible show wpList _ _ _ (Oper.mk _ (.store 3 _ _) _ _ _ _ :: _) _ _; refine Hid.out ?_)
    refine Lib.hid ?_
    refine wpList_putCell rfl 3 _ _ rfl (w.heap.size + 1) 2 (.int .i64 n) _ _ 33 rfl rfl HB2.out.r1 (by kernel_rfl) (by simp) rfl rfl rfl ?_
    intro w3 hr3 hg3
    have HB3 : Hid (Bx w [(w.heap.size, .cells #[.int .i64 t0, .int .i64 t1, .int .i64 t2, .int .i64 t3, .int .i64 t4, .int .i64 t5, .int .i64 t6, .int .i64 t7, .int .i64 t8] 51 (0, 0)), (w.heap.size + 1, .cells #[.int .i64 1, .int .i64 b, .int .i64 n, .bool d, .int .i64 e] 33 (0, 0)), (w.heap.size + 2, .cells #[.int .i64 0, .int .i64 0, .int .i64 0, .bool false, .int .i64 0] 33 (0, 0))] w3) := Lib.hid (HB2.out.put (by omega) hg3.out hr3.out (by simp only [List.mem_cons, List.not_mem_nil, or_false]; rintro p (rfl | rfl | rfl) <;> simp <;> omega))
    clear c0_6 c0_7 c1_0 c1_1 c1_2 c1_3 c1_4 hr3 hg3 HB2
    obtain ⟨-, -, -, -, -, -, c0_6, c0_7, -⟩ := row9 (b := w.heap.size) HB3.out.r0
    obtain ⟨c1_0, c1_1, c1_2, c1_3, c1_4⟩ := row5 (b := w.heap.size + 1) HB3.out.r1
    go_wp2_with fail
    refine (FC.out _).mono ?_
    rintro e w4 ⟨rfl, hb4⟩
    have HB4 := Lib.hid (HB3.out.next hb4)
    clear c0_6 c0_7 c1_0 c1_1 c1_2 c1_3 c1_4 hb4 HB3
    obtain ⟨-, -, -, -, -, -, c0_6, c0_7, -⟩ := row9 (b := w.heap.size) HB4.out.r0
    obtain ⟨c1_0, c1_1, c1_2, c1_3, c1_4⟩ := row5 (b := w.heap.size + 1) HB4.out.r1
    go_wp2_with (with_reducible show wpList _ _ _ (Oper.mk _ (.store 33 _ _) _ _ _ _ :: _) _ _; refine Hid.out ?_)
    refine Lib.hid ?_
    refine wpList_put rfl 33 _ _ rfl (w.heap.size + 2) #[.int .i64 2, .int .i64 0, .int .i64 v, .bool d, .int .i64 e] _ 33 rfl rfl HB4.out.r2 (by kernel_rfl) rfl (by kernel_rfl) ?_
    intro w5 hr5 hg5
    have HB5 : Hid (Bx w [(w.heap.size, .cells #[.int .i64 t0, .int .i64 t1, .int .i64 t2, .int .i64 t3, .int .i64 t4, .int .i64 t5, .int .i64 t6, .int .i64 t7, .int .i64 t8] 51 (0, 0)), (w.heap.size + 1, .cells #[.int .i64 1, .int .i64 b, .int .i64 n, .bool d, .int .i64 e] 33 (0, 0)), (w.heap.size + 2, .cells #[.int .i64 2, .int .i64 0, .int .i64 v, .bool d, .int .i64 e] 33 (0, 0))] w5) := Lib.hid (HB4.out.put (by omega) hg5.out hr5.out (by simp only [List.mem_cons, List.not_mem_nil, or_false]; rintro p (rfl | rfl | rfl) <;> simp <;> omega))
    clear c0_6 c0_7 c1_0 c1_1 c1_2 c1_3 c1_4 hr5 hg5 HB4
    obtain ⟨-, -, -, -, -, -, c0_6, c0_7, -⟩ := row9 (b := w.heap.size) HB5.out.r0
    obtain ⟨c1_0, c1_1, c1_2, c1_3, c1_4⟩ := row5 (b := w.heap.size + 1) HB5.out.r1
    go_wp2_with fail
    exact bodyPost_ret (results_row_tmp Tryd.results66 _ _ _ _ _ (0, 0) _ rfl HB5.out.r2 Tryd.underlying33 rfl (by kernel_rfl)) rfl (⟨rfl, HB5.out.below⟩)
set_option maxHeartbeats 2000000 in
theorem step_c2 (t0 t1 t2 t3 t4 t5 t6 t7 t8 : Int) (b c n : Int) (d : Bool) (e : Int) (k : Int) (bl : Bool) (wt : Bool) (w : World) (hB : Dr.isB ⟨1, b, c, d, e⟩ = true) (hn : Dr.next c = n) (hd : ¬ k = 1) (hl : t7 < n) :
    Calls Tryd.prog 66 #[.agg #[.int .i64 t0, .int .i64 t1, .int .i64 t2, .int .i64 t3, .int .i64 t4, .int .i64 t5, .int .i64 t6, .int .i64 t7, .int .i64 t8], .agg #[.int .i64 1, .int .i64 b, .int .i64 c, .bool d, .int .i64 e], .int .i64 k, .bool bl, .bool wt] w fun ee w' => ee = .returned (.tuple #[.agg #[.int .i64 3, .int .i64 0, .int .i64 n, .bool true, .int .i64 e], .int .i64 5]) ∧ Below w.heap.size w w' := by
  have hst := hB
  obtain ⟨-, hb, hc, he⟩ := (Dr.isB_iff (by simp)).1 hst
  simp only at hb hc he
  have F := Lib.hid (fun wx => isState_any 1 b c d e wx)
  rw [hB] at F
  have FN := Lib.hid (fun wx => nextSince_any c wx hc)
  rw [hn] at FN
  have FC := Lib.hid (fun wx => opening_late 1 b n d e k wx hd)
  clear hst hB hn hb hc he
  have HB0 := Lib.hid (bxs3 w (.cells #[.int .i64 t0, .int .i64 t1, .int .i64 t2, .int .i64 t3, .int .i64 t4, .int .i64 t5, .int .i64 t6, .int .i64 t7, .int .i64 t8] 51) (.cells #[.int .i64 1, .int .i64 b, .int .i64 c, .bool d, .int .i64 e] 33) (.cells #[.int .i64 0, .int .i64 0, .int .i64 0, .bool false, .int .i64 0] 33))
  go_enter Tryd.func66, Tryd.ntmps66
  go_wp2_with fail
  refine (F.out _).mono ?_
  rintro e w1 ⟨rfl, hb1⟩
  have HB1 := Lib.hid (HB0.out.next hb1)
  clear hb1 HB0
  obtain ⟨-, -, -, -, -, -, c0_6, c0_7, -⟩ := row9 (b := w.heap.size) HB1.out.r0
  obtain ⟨c1_0, c1_1, c1_2, c1_3, c1_4⟩ := row5 (b := w.heap.size + 1) HB1.out.r1
  go_wp2_with fail
  refine (FN.out _).mono ?_
  rintro e w2 ⟨rfl, hb2⟩
  have HB2 := Lib.hid (HB1.out.next hb2)
  clear c0_6 c0_7 c1_0 c1_1 c1_2 c1_3 c1_4 hb2 HB1
  obtain ⟨-, -, -, -, -, -, c0_6, c0_7, -⟩ := row9 (b := w.heap.size) HB2.out.r0
  obtain ⟨c1_0, c1_1, c1_2, c1_3, c1_4⟩ := row5 (b := w.heap.size + 1) HB2.out.r1
  go_wp2_with (with_reducible show wpList _ _ _ (Oper.mk _ (.store 3 _ _) _ _ _ _ :: _) _ _; refine Hid.out ?_)
  refine Lib.hid ?_
  refine wpList_putCell rfl 3 _ _ rfl (w.heap.size + 1) 2 (.int .i64 n) _ _ 33 rfl rfl HB2.out.r1 (by kernel_rfl) (by simp) rfl rfl rfl ?_
  intro w3 hr3 hg3
  have HB3 : Hid (Bx w [(w.heap.size, .cells #[.int .i64 t0, .int .i64 t1, .int .i64 t2, .int .i64 t3, .int .i64 t4, .int .i64 t5, .int .i64 t6, .int .i64 t7, .int .i64 t8] 51 (0, 0)), (w.heap.size + 1, .cells #[.int .i64 1, .int .i64 b, .int .i64 n, .bool d, .int .i64 e] 33 (0, 0)), (w.heap.size + 2, .cells #[.int .i64 0, .int .i64 0, .int .i64 0, .bool false, .int .i64 0] 33 (0, 0))] w3) := Lib.hid (HB2.out.put (by omega) hg3.out hr3.out (by simp only [List.mem_cons, List.not_mem_nil, or_false]; rintro p (rfl | rfl | rfl) <;> simp <;> omega))
  clear c0_6 c0_7 c1_0 c1_1 c1_2 c1_3 c1_4 hr3 hg3 HB2
  obtain ⟨-, -, -, -, -, -, c0_6, c0_7, -⟩ := row9 (b := w.heap.size) HB3.out.r0
  obtain ⟨c1_0, c1_1, c1_2, c1_3, c1_4⟩ := row5 (b := w.heap.size + 1) HB3.out.r1
  go_wp2_with fail
  refine (FC.out _).mono ?_
  rintro e w4 ⟨rfl, hb4⟩
  have HB4 := Lib.hid (HB3.out.next hb4)
  clear c0_6 c0_7 c1_0 c1_1 c1_2 c1_3 c1_4 hb4 HB3
  obtain ⟨-, -, -, -, -, -, c0_6, c0_7, -⟩ := row9 (b := w.heap.size) HB4.out.r0
  obtain ⟨c1_0, c1_1, c1_2, c1_3, c1_4⟩ := row5 (b := w.heap.size + 1) HB4.out.r1
  go_wp2_with (with_reducible show wpList _ _ _ (Oper.mk _ (.store 33 _ _) _ _ _ _ :: _) _ _; refine Hid.out ?_)
  refine Lib.hid ?_
  refine wpList_put rfl 33 _ _ rfl (w.heap.size + 2) #[.int .i64 3, .int .i64 0, .int .i64 n, .bool true, .int .i64 e] _ 33 rfl rfl HB4.out.r2 (by kernel_rfl) rfl (by kernel_rfl) ?_
  intro w5 hr5 hg5
  have HB5 : Hid (Bx w [(w.heap.size, .cells #[.int .i64 t0, .int .i64 t1, .int .i64 t2, .int .i64 t3, .int .i64 t4, .int .i64 t5, .int .i64 t6, .int .i64 t7, .int .i64 t8] 51 (0, 0)), (w.heap.size + 1, .cells #[.int .i64 1, .int .i64 b, .int .i64 n, .bool d, .int .i64 e] 33 (0, 0)), (w.heap.size + 2, .cells #[.int .i64 3, .int .i64 0, .int .i64 n, .bool true, .int .i64 e] 33 (0, 0))] w5) := Lib.hid (HB4.out.put (by omega) hg5.out hr5.out (by simp only [List.mem_cons, List.not_mem_nil, or_false]; rintro p (rfl | rfl | rfl) <;> simp <;> omega))
  clear c0_6 c0_7 c1_0 c1_1 c1_2 c1_3 c1_4 hr5 hg5 HB4
  obtain ⟨-, -, -, -, -, -, c0_6, c0_7, -⟩ := row9 (b := w.heap.size) HB5.out.r0
  obtain ⟨c1_0, c1_1, c1_2, c1_3, c1_4⟩ := row5 (b := w.heap.size + 1) HB5.out.r1
  go_wp2_with fail
  exact bodyPost_ret (results_row_tmp Tryd.results66 _ _ _ _ _ (0, 0) _ rfl HB5.out.r2 Tryd.underlying33 rfl (by kernel_rfl)) rfl (⟨rfl, HB5.out.below⟩)
set_option maxHeartbeats 2000000 in
theorem step_c3 (t0 t1 t2 t3 t4 t5 t6 t7 t8 : Int) (b c n : Int) (d : Bool) (e : Int) (k : Int) (bl : Bool) (wt : Bool) (w : World) (hB : Dr.isB ⟨1, b, c, d, e⟩ = true) (hn : Dr.next c = n) (hd : ¬ k = 1) (hl : ¬ t7 < n) :
    Calls Tryd.prog 66 #[.agg #[.int .i64 t0, .int .i64 t1, .int .i64 t2, .int .i64 t3, .int .i64 t4, .int .i64 t5, .int .i64 t6, .int .i64 t7, .int .i64 t8], .agg #[.int .i64 1, .int .i64 b, .int .i64 c, .bool d, .int .i64 e], .int .i64 k, .bool bl, .bool wt] w fun ee w' => ee = .returned (.tuple #[.agg #[.int .i64 1, .int .i64 (Dr.more b), .int .i64 n, .bool d, .int .i64 e], .int .i64 3]) ∧ Below w.heap.size w w' := by
  have hst := hB
  obtain ⟨-, hb, hc, he⟩ := (Dr.isB_iff (by simp)).1 hst
  simp only at hb hc he
  have F := Lib.hid (fun wx => isState_any 1 b c d e wx)
  rw [hB] at F
  have FN := Lib.hid (fun wx => nextSince_any c wx hc)
  rw [hn] at FN
  have hld : decide (t7 < n) = false := decide_eq_false hl
  have FC := Lib.hid (fun wx => opening_on 1 b n d e k wx hb hd)
  generalize Dr.more b = m at *
  clear hst hB hn hb hc he
  have HB0 := Lib.hid (bxs3 w (.cells #[.int .i64 t0, .int .i64 t1, .int .i64 t2, .int .i64 t3, .int .i64 t4, .int .i64 t5, .int .i64 t6, .int .i64 t7, .int .i64 t8] 51) (.cells #[.int .i64 1, .int .i64 b, .int .i64 c, .bool d, .int .i64 e] 33) (.cells #[.int .i64 0, .int .i64 0, .int .i64 0, .bool false, .int .i64 0] 33))
  go_enter Tryd.func66, Tryd.ntmps66
  go_wp2_with fail
  refine (F.out _).mono ?_
  rintro e w1 ⟨rfl, hb1⟩
  have HB1 := Lib.hid (HB0.out.next hb1)
  clear hb1 HB0
  obtain ⟨-, -, -, -, -, -, c0_6, c0_7, -⟩ := row9 (b := w.heap.size) HB1.out.r0
  obtain ⟨c1_0, c1_1, c1_2, c1_3, c1_4⟩ := row5 (b := w.heap.size + 1) HB1.out.r1
  go_wp2_with fail
  refine (FN.out _).mono ?_
  rintro e w2 ⟨rfl, hb2⟩
  have HB2 := Lib.hid (HB1.out.next hb2)
  clear c0_6 c0_7 c1_0 c1_1 c1_2 c1_3 c1_4 hb2 HB1
  obtain ⟨-, -, -, -, -, -, c0_6, c0_7, -⟩ := row9 (b := w.heap.size) HB2.out.r0
  obtain ⟨c1_0, c1_1, c1_2, c1_3, c1_4⟩ := row5 (b := w.heap.size + 1) HB2.out.r1
  go_wp2_with (with_reducible show wpList _ _ _ (Oper.mk _ (.store 3 _ _) _ _ _ _ :: _) _ _; refine Hid.out ?_)
  refine Lib.hid ?_
  refine wpList_putCell rfl 3 _ _ rfl (w.heap.size + 1) 2 (.int .i64 n) _ _ 33 rfl rfl HB2.out.r1 (by kernel_rfl) (by simp) rfl rfl rfl ?_
  intro w3 hr3 hg3
  have HB3 : Hid (Bx w [(w.heap.size, .cells #[.int .i64 t0, .int .i64 t1, .int .i64 t2, .int .i64 t3, .int .i64 t4, .int .i64 t5, .int .i64 t6, .int .i64 t7, .int .i64 t8] 51 (0, 0)), (w.heap.size + 1, .cells #[.int .i64 1, .int .i64 b, .int .i64 n, .bool d, .int .i64 e] 33 (0, 0)), (w.heap.size + 2, .cells #[.int .i64 0, .int .i64 0, .int .i64 0, .bool false, .int .i64 0] 33 (0, 0))] w3) := Lib.hid (HB2.out.put (by omega) hg3.out hr3.out (by simp only [List.mem_cons, List.not_mem_nil, or_false]; rintro p (rfl | rfl | rfl) <;> simp <;> omega))
  clear c0_6 c0_7 c1_0 c1_1 c1_2 c1_3 c1_4 hr3 hg3 HB2
  obtain ⟨-, -, -, -, -, -, c0_6, c0_7, -⟩ := row9 (b := w.heap.size) HB3.out.r0
  obtain ⟨c1_0, c1_1, c1_2, c1_3, c1_4⟩ := row5 (b := w.heap.size + 1) HB3.out.r1
  go_wp2_with fail
  refine (FC.out _).mono ?_
  rintro e w4 ⟨rfl, hb4⟩
  have HB4 := Lib.hid (HB3.out.next hb4)
  clear c0_6 c0_7 c1_0 c1_1 c1_2 c1_3 c1_4 hb4 HB3
  obtain ⟨-, -, -, -, -, -, c0_6, c0_7, -⟩ := row9 (b := w.heap.size) HB4.out.r0
  obtain ⟨c1_0, c1_1, c1_2, c1_3, c1_4⟩ := row5 (b := w.heap.size + 1) HB4.out.r1
  go_wp2_with (with_reducible show wpList _ _ _ (Oper.mk _ (.store 33 _ _) _ _ _ _ :: _) _ _; refine Hid.out ?_)
  refine Lib.hid ?_
  refine wpList_put rfl 33 _ _ rfl (w.heap.size + 2) #[.int .i64 1, .int .i64 m, .int .i64 n, .bool d, .int .i64 e] _ 33 rfl rfl HB4.out.r2 (by kernel_rfl) rfl (by kernel_rfl) ?_
  intro w5 hr5 hg5
  have HB5 : Hid (Bx w [(w.heap.size, .cells #[.int .i64 t0, .int .i64 t1, .int .i64 t2, .int .i64 t3, .int .i64 t4, .int .i64 t5, .int .i64 t6, .int .i64 t7, .int .i64 t8] 51 (0, 0)), (w.heap.size + 1, .cells #[.int .i64 1, .int .i64 b, .int .i64 n, .bool d, .int .i64 e] 33 (0, 0)), (w.heap.size + 2, .cells #[.int .i64 1, .int .i64 m, .int .i64 n, .bool d, .int .i64 e] 33 (0, 0))] w5) := Lib.hid (HB4.out.put (by omega) hg5.out hr5.out (by simp only [List.mem_cons, List.not_mem_nil, or_false]; rintro p (rfl | rfl | rfl) <;> simp <;> omega))
  clear c0_6 c0_7 c1_0 c1_1 c1_2 c1_3 c1_4 hr5 hg5 HB4
  obtain ⟨-, -, -, -, -, -, c0_6, c0_7, -⟩ := row9 (b := w.heap.size) HB5.out.r0
  obtain ⟨c1_0, c1_1, c1_2, c1_3, c1_4⟩ := row5 (b := w.heap.size + 1) HB5.out.r1
  go_wp2_with fail
  exact bodyPost_ret (results_row_tmp Tryd.results66 _ _ _ _ _ (0, 0) _ rfl HB5.out.r2 Tryd.underlying33 rfl (by kernel_rfl)) rfl (⟨rfl, HB5.out.below⟩)
set_option maxHeartbeats 2000000 in
theorem step_c4 (t0 t1 t2 t3 t4 t5 t6 t7 t8 : Int) (b c n : Int) (d : Bool) (e : Int) (k : Int) (bl : Bool) (wt : Bool) (w : World) (hB : Dr.isB ⟨2, b, c, d, e⟩ = true) (hn : Dr.next c = n) (hl : t7 < n) :
    Calls Tryd.prog 66 #[.agg #[.int .i64 t0, .int .i64 t1, .int .i64 t2, .int .i64 t3, .int .i64 t4, .int .i64 t5, .int .i64 t6, .int .i64 t7, .int .i64 t8], .agg #[.int .i64 2, .int .i64 b, .int .i64 c, .bool d, .int .i64 e], .int .i64 k, .bool bl, .bool wt] w fun ee w' => ee = .returned (.tuple #[.agg #[.int .i64 3, .int .i64 0, .int .i64 n, .bool true, .int .i64 e], .int .i64 5]) ∧ Below w.heap.size w w' := by
  have hst := hB
  obtain ⟨-, hb, hc, he⟩ := (Dr.isB_iff (by simp)).1 hst
  simp only at hb hc he
  have F := Lib.hid (fun wx => isState_any 2 b c d e wx)
  rw [hB] at F
  have FN := Lib.hid (fun wx => nextSince_any c wx hc)
  rw [hn] at FN
  have FC := Lib.hid (fun wx => waiting_late 2 b n d e t6 bl wx)
  clear hst hB hn hb hc he
  have HB0 := Lib.hid (bxs3 w (.cells #[.int .i64 t0, .int .i64 t1, .int .i64 t2, .int .i64 t3, .int .i64 t4, .int .i64 t5, .int .i64 t6, .int .i64 t7, .int .i64 t8] 51) (.cells #[.int .i64 2, .int .i64 b, .int .i64 c, .bool d, .int .i64 e] 33) (.cells #[.int .i64 0, .int .i64 0, .int .i64 0, .bool false, .int .i64 0] 33))
  go_enter Tryd.func66, Tryd.ntmps66
  go_wp2_with fail
  refine (F.out _).mono ?_
  rintro e w1 ⟨rfl, hb1⟩
  have HB1 := Lib.hid (HB0.out.next hb1)
  clear hb1 HB0
  obtain ⟨-, -, -, -, -, -, c0_6, c0_7, -⟩ := row9 (b := w.heap.size) HB1.out.r0
  obtain ⟨c1_0, c1_1, c1_2, c1_3, c1_4⟩ := row5 (b := w.heap.size + 1) HB1.out.r1
  go_wp2_with fail
  refine (FN.out _).mono ?_
  rintro e w2 ⟨rfl, hb2⟩
  have HB2 := Lib.hid (HB1.out.next hb2)
  clear c0_6 c0_7 c1_0 c1_1 c1_2 c1_3 c1_4 hb2 HB1
  obtain ⟨-, -, -, -, -, -, c0_6, c0_7, -⟩ := row9 (b := w.heap.size) HB2.out.r0
  obtain ⟨c1_0, c1_1, c1_2, c1_3, c1_4⟩ := row5 (b := w.heap.size + 1) HB2.out.r1
  go_wp2_with (with_reducible show wpList _ _ _ (Oper.mk _ (.store 3 _ _) _ _ _ _ :: _) _ _; refine Hid.out ?_)
  refine Lib.hid ?_
  refine wpList_putCell rfl 3 _ _ rfl (w.heap.size + 1) 2 (.int .i64 n) _ _ 33 rfl rfl HB2.out.r1 (by kernel_rfl) (by simp) rfl rfl rfl ?_
  intro w3 hr3 hg3
  have HB3 : Hid (Bx w [(w.heap.size, .cells #[.int .i64 t0, .int .i64 t1, .int .i64 t2, .int .i64 t3, .int .i64 t4, .int .i64 t5, .int .i64 t6, .int .i64 t7, .int .i64 t8] 51 (0, 0)), (w.heap.size + 1, .cells #[.int .i64 2, .int .i64 b, .int .i64 n, .bool d, .int .i64 e] 33 (0, 0)), (w.heap.size + 2, .cells #[.int .i64 0, .int .i64 0, .int .i64 0, .bool false, .int .i64 0] 33 (0, 0))] w3) := Lib.hid (HB2.out.put (by omega) hg3.out hr3.out (by simp only [List.mem_cons, List.not_mem_nil, or_false]; rintro p (rfl | rfl | rfl) <;> simp <;> omega))
  clear c0_6 c0_7 c1_0 c1_1 c1_2 c1_3 c1_4 hr3 hg3 HB2
  obtain ⟨-, -, -, -, -, -, c0_6, c0_7, -⟩ := row9 (b := w.heap.size) HB3.out.r0
  obtain ⟨c1_0, c1_1, c1_2, c1_3, c1_4⟩ := row5 (b := w.heap.size + 1) HB3.out.r1
  go_wp2_with fail
  refine (FC.out _).mono ?_
  rintro e w4 ⟨rfl, hb4⟩
  have HB4 := Lib.hid (HB3.out.next hb4)
  clear c0_6 c0_7 c1_0 c1_1 c1_2 c1_3 c1_4 hb4 HB3
  obtain ⟨-, -, -, -, -, -, c0_6, c0_7, -⟩ := row9 (b := w.heap.size) HB4.out.r0
  obtain ⟨c1_0, c1_1, c1_2, c1_3, c1_4⟩ := row5 (b := w.heap.size + 1) HB4.out.r1
  go_wp2_with (with_reducible show wpList _ _ _ (Oper.mk _ (.store 33 _ _) _ _ _ _ :: _) _ _; refine Hid.out ?_)
  refine Lib.hid ?_
  refine wpList_put rfl 33 _ _ rfl (w.heap.size + 2) #[.int .i64 3, .int .i64 0, .int .i64 n, .bool true, .int .i64 e] _ 33 rfl rfl HB4.out.r2 (by kernel_rfl) rfl (by kernel_rfl) ?_
  intro w5 hr5 hg5
  have HB5 : Hid (Bx w [(w.heap.size, .cells #[.int .i64 t0, .int .i64 t1, .int .i64 t2, .int .i64 t3, .int .i64 t4, .int .i64 t5, .int .i64 t6, .int .i64 t7, .int .i64 t8] 51 (0, 0)), (w.heap.size + 1, .cells #[.int .i64 2, .int .i64 b, .int .i64 n, .bool d, .int .i64 e] 33 (0, 0)), (w.heap.size + 2, .cells #[.int .i64 3, .int .i64 0, .int .i64 n, .bool true, .int .i64 e] 33 (0, 0))] w5) := Lib.hid (HB4.out.put (by omega) hg5.out hr5.out (by simp only [List.mem_cons, List.not_mem_nil, or_false]; rintro p (rfl | rfl | rfl) <;> simp <;> omega))
  clear c0_6 c0_7 c1_0 c1_1 c1_2 c1_3 c1_4 hr5 hg5 HB4
  obtain ⟨-, -, -, -, -, -, c0_6, c0_7, -⟩ := row9 (b := w.heap.size) HB5.out.r0
  obtain ⟨c1_0, c1_1, c1_2, c1_3, c1_4⟩ := row5 (b := w.heap.size + 1) HB5.out.r1
  go_wp2_with fail
  exact bodyPost_ret (results_row_tmp Tryd.results66 _ _ _ _ _ (0, 0) _ rfl HB5.out.r2 Tryd.underlying33 rfl (by kernel_rfl)) rfl (⟨rfl, HB5.out.below⟩)
set_option maxHeartbeats 2000000 in
theorem step_c5 (t0 t1 t2 t3 t4 t5 t6 t7 t8 : Int) (b c n : Int) (d : Bool) (e : Int) (k : Int) (wt : Bool) (w : World) (hB : Dr.isB ⟨2, b, c, d, e⟩ = true) (hn : Dr.next c = n) (hl : ¬ t7 < n) (hk : t6 ≤ b + 1) :
    Calls Tryd.prog 66 #[.agg #[.int .i64 t0, .int .i64 t1, .int .i64 t2, .int .i64 t3, .int .i64 t4, .int .i64 t5, .int .i64 t6, .int .i64 t7, .int .i64 t8], .agg #[.int .i64 2, .int .i64 b, .int .i64 c, .bool d, .int .i64 e], .int .i64 k, .bool false, .bool wt] w fun ee w' => ee = .returned (.tuple #[.agg #[.int .i64 3, .int .i64 0, .int .i64 n, .bool d, .int .i64 e], .int .i64 4]) ∧ Below w.heap.size w w' := by
  have hst := hB
  obtain ⟨-, hb, hc, he⟩ := (Dr.isB_iff (by simp)).1 hst
  simp only at hb hc he
  have F := Lib.hid (fun wx => isState_any 2 b c d e wx)
  rw [hB] at F
  have FN := Lib.hid (fun wx => nextSince_any c wx hc)
  rw [hn] at FN
  have hld : decide (t7 < n) = false := decide_eq_false hl
  have FC := Lib.hid (fun wx => waiting_shut 2 b n d e t6 wx hb hk)
  clear hst hB hn hb hc he
  have HB0 := Lib.hid (bxs3 w (.cells #[.int .i64 t0, .int .i64 t1, .int .i64 t2, .int .i64 t3, .int .i64 t4, .int .i64 t5, .int .i64 t6, .int .i64 t7, .int .i64 t8] 51) (.cells #[.int .i64 2, .int .i64 b, .int .i64 c, .bool d, .int .i64 e] 33) (.cells #[.int .i64 0, .int .i64 0, .int .i64 0, .bool false, .int .i64 0] 33))
  go_enter Tryd.func66, Tryd.ntmps66
  go_wp2_with fail
  refine (F.out _).mono ?_
  rintro e w1 ⟨rfl, hb1⟩
  have HB1 := Lib.hid (HB0.out.next hb1)
  clear hb1 HB0
  obtain ⟨-, -, -, -, -, -, c0_6, c0_7, -⟩ := row9 (b := w.heap.size) HB1.out.r0
  obtain ⟨c1_0, c1_1, c1_2, c1_3, c1_4⟩ := row5 (b := w.heap.size + 1) HB1.out.r1
  go_wp2_with fail
  refine (FN.out _).mono ?_
  rintro e w2 ⟨rfl, hb2⟩
  have HB2 := Lib.hid (HB1.out.next hb2)
  clear c0_6 c0_7 c1_0 c1_1 c1_2 c1_3 c1_4 hb2 HB1
  obtain ⟨-, -, -, -, -, -, c0_6, c0_7, -⟩ := row9 (b := w.heap.size) HB2.out.r0
  obtain ⟨c1_0, c1_1, c1_2, c1_3, c1_4⟩ := row5 (b := w.heap.size + 1) HB2.out.r1
  go_wp2_with (with_reducible show wpList _ _ _ (Oper.mk _ (.store 3 _ _) _ _ _ _ :: _) _ _; refine Hid.out ?_)
  refine Lib.hid ?_
  refine wpList_putCell rfl 3 _ _ rfl (w.heap.size + 1) 2 (.int .i64 n) _ _ 33 rfl rfl HB2.out.r1 (by kernel_rfl) (by simp) rfl rfl rfl ?_
  intro w3 hr3 hg3
  have HB3 : Hid (Bx w [(w.heap.size, .cells #[.int .i64 t0, .int .i64 t1, .int .i64 t2, .int .i64 t3, .int .i64 t4, .int .i64 t5, .int .i64 t6, .int .i64 t7, .int .i64 t8] 51 (0, 0)), (w.heap.size + 1, .cells #[.int .i64 2, .int .i64 b, .int .i64 n, .bool d, .int .i64 e] 33 (0, 0)), (w.heap.size + 2, .cells #[.int .i64 0, .int .i64 0, .int .i64 0, .bool false, .int .i64 0] 33 (0, 0))] w3) := Lib.hid (HB2.out.put (by omega) hg3.out hr3.out (by simp only [List.mem_cons, List.not_mem_nil, or_false]; rintro p (rfl | rfl | rfl) <;> simp <;> omega))
  clear c0_6 c0_7 c1_0 c1_1 c1_2 c1_3 c1_4 hr3 hg3 HB2
  obtain ⟨-, -, -, -, -, -, c0_6, c0_7, -⟩ := row9 (b := w.heap.size) HB3.out.r0
  obtain ⟨c1_0, c1_1, c1_2, c1_3, c1_4⟩ := row5 (b := w.heap.size + 1) HB3.out.r1
  go_wp2_with fail
  refine (FC.out _).mono ?_
  rintro e w4 ⟨rfl, hb4⟩
  have HB4 := Lib.hid (HB3.out.next hb4)
  clear c0_6 c0_7 c1_0 c1_1 c1_2 c1_3 c1_4 hb4 HB3
  obtain ⟨-, -, -, -, -, -, c0_6, c0_7, -⟩ := row9 (b := w.heap.size) HB4.out.r0
  obtain ⟨c1_0, c1_1, c1_2, c1_3, c1_4⟩ := row5 (b := w.heap.size + 1) HB4.out.r1
  go_wp2_with (with_reducible show wpList _ _ _ (Oper.mk _ (.store 33 _ _) _ _ _ _ :: _) _ _; refine Hid.out ?_)
  refine Lib.hid ?_
  refine wpList_put rfl 33 _ _ rfl (w.heap.size + 2) #[.int .i64 3, .int .i64 0, .int .i64 n, .bool d, .int .i64 e] _ 33 rfl rfl HB4.out.r2 (by kernel_rfl) rfl (by kernel_rfl) ?_
  intro w5 hr5 hg5
  have HB5 : Hid (Bx w [(w.heap.size, .cells #[.int .i64 t0, .int .i64 t1, .int .i64 t2, .int .i64 t3, .int .i64 t4, .int .i64 t5, .int .i64 t6, .int .i64 t7, .int .i64 t8] 51 (0, 0)), (w.heap.size + 1, .cells #[.int .i64 2, .int .i64 b, .int .i64 n, .bool d, .int .i64 e] 33 (0, 0)), (w.heap.size + 2, .cells #[.int .i64 3, .int .i64 0, .int .i64 n, .bool d, .int .i64 e] 33 (0, 0))] w5) := Lib.hid (HB4.out.put (by omega) hg5.out hr5.out (by simp only [List.mem_cons, List.not_mem_nil, or_false]; rintro p (rfl | rfl | rfl) <;> simp <;> omega))
  clear c0_6 c0_7 c1_0 c1_1 c1_2 c1_3 c1_4 hr5 hg5 HB4
  obtain ⟨-, -, -, -, -, -, c0_6, c0_7, -⟩ := row9 (b := w.heap.size) HB5.out.r0
  obtain ⟨c1_0, c1_1, c1_2, c1_3, c1_4⟩ := row5 (b := w.heap.size + 1) HB5.out.r1
  go_wp2_with fail
  exact bodyPost_ret (results_row_tmp Tryd.results66 _ _ _ _ _ (0, 0) _ rfl HB5.out.r2 Tryd.underlying33 rfl (by kernel_rfl)) rfl (⟨rfl, HB5.out.below⟩)
set_option maxHeartbeats 2000000 in
theorem step_c6 (t0 t1 t2 t3 t4 t5 t6 t7 t8 : Int) (b c n : Int) (d : Bool) (e : Int) (k : Int) (bl : Bool) (wt : Bool) (w : World) (hB : Dr.isB ⟨2, b, c, d, e⟩ = true) (hn : Dr.next c = n) (hl : ¬ t7 < n) (hk : ¬ (t6 ≤ b + 1 ∧ bl = false)) :
    Calls Tryd.prog 66 #[.agg #[.int .i64 t0, .int .i64 t1, .int .i64 t2, .int .i64 t3, .int .i64 t4, .int .i64 t5, .int .i64 t6, .int .i64 t7, .int .i64 t8], .agg #[.int .i64 2, .int .i64 b, .int .i64 c, .bool d, .int .i64 e], .int .i64 k, .bool bl, .bool wt] w fun ee w' => ee = .returned (.tuple #[.agg #[.int .i64 2, .int .i64 (Dr.more b), .int .i64 n, .bool d, .int .i64 e], .int .i64 0]) ∧ Below w.heap.size w w' := by
  have hst := hB
  obtain ⟨-, hb, hc, he⟩ := (Dr.isB_iff (by simp)).1 hst
  simp only at hb hc he
  have F := Lib.hid (fun wx => isState_any 2 b c d e wx)
  rw [hB] at F
  have FN := Lib.hid (fun wx => nextSince_any c wx hc)
  rw [hn] at FN
  have hld : decide (t7 < n) = false := decide_eq_false hl
  have FC := Lib.hid (fun wx => waiting_on 2 b n d e t6 bl wx hb hk)
  generalize Dr.more b = m at *
  clear hst hB hn hb hc he hk
  have HB0 := Lib.hid (bxs3 w (.cells #[.int .i64 t0, .int .i64 t1, .int .i64 t2, .int .i64 t3, .int .i64 t4, .int .i64 t5, .int .i64 t6, .int .i64 t7, .int .i64 t8] 51) (.cells #[.int .i64 2, .int .i64 b, .int .i64 c, .bool d, .int .i64 e] 33) (.cells #[.int .i64 0, .int .i64 0, .int .i64 0, .bool false, .int .i64 0] 33))
  go_enter Tryd.func66, Tryd.ntmps66
  go_wp2_with fail
  refine (F.out _).mono ?_
  rintro e w1 ⟨rfl, hb1⟩
  have HB1 := Lib.hid (HB0.out.next hb1)
  clear hb1 HB0
  obtain ⟨-, -, -, -, -, -, c0_6, c0_7, -⟩ := row9 (b := w.heap.size) HB1.out.r0
  obtain ⟨c1_0, c1_1, c1_2, c1_3, c1_4⟩ := row5 (b := w.heap.size + 1) HB1.out.r1
  go_wp2_with fail
  refine (FN.out _).mono ?_
  rintro e w2 ⟨rfl, hb2⟩
  have HB2 := Lib.hid (HB1.out.next hb2)
  clear c0_6 c0_7 c1_0 c1_1 c1_2 c1_3 c1_4 hb2 HB1
  obtain ⟨-, -, -, -, -, -, c0_6, c0_7, -⟩ := row9 (b := w.heap.size) HB2.out.r0
  obtain ⟨c1_0, c1_1, c1_2, c1_3, c1_4⟩ := row5 (b := w.heap.size + 1) HB2.out.r1
  go_wp2_with (with_reducible show wpList _ _ _ (Oper.mk _ (.store 3 _ _) _ _ _ _ :: _) _ _; refine Hid.out ?_)
  refine Lib.hid ?_
  refine wpList_putCell rfl 3 _ _ rfl (w.heap.size + 1) 2 (.int .i64 n) _ _ 33 rfl rfl HB2.out.r1 (by kernel_rfl) (by simp) rfl rfl rfl ?_
  intro w3 hr3 hg3
  have HB3 : Hid (Bx w [(w.heap.size, .cells #[.int .i64 t0, .int .i64 t1, .int .i64 t2, .int .i64 t3, .int .i64 t4, .int .i64 t5, .int .i64 t6, .int .i64 t7, .int .i64 t8] 51 (0, 0)), (w.heap.size + 1, .cells #[.int .i64 2, .int .i64 b, .int .i64 n, .bool d, .int .i64 e] 33 (0, 0)), (w.heap.size + 2, .cells #[.int .i64 0, .int .i64 0, .int .i64 0, .bool false, .int .i64 0] 33 (0, 0))] w3) := Lib.hid (HB2.out.put (by omega) hg3.out hr3.out (by simp only [List.mem_cons, List.not_mem_nil, or_false]; rintro p (rfl | rfl | rfl) <;> simp <;> omega))
  clear c0_6 c0_7 c1_0 c1_1 c1_2 c1_3 c1_4 hr3 hg3 HB2
  obtain ⟨-, -, -, -, -, -, c0_6, c0_7, -⟩ := row9 (b := w.heap.size) HB3.out.r0
  obtain ⟨c1_0, c1_1, c1_2, c1_3, c1_4⟩ := row5 (b := w.heap.size + 1) HB3.out.r1
  go_wp2_with fail
  refine (FC.out _).mono ?_
  rintro e w4 ⟨rfl, hb4⟩
  have HB4 := Lib.hid (HB3.out.next hb4)
  clear c0_6 c0_7 c1_0 c1_1 c1_2 c1_3 c1_4 hb4 HB3
  obtain ⟨-, -, -, -, -, -, c0_6, c0_7, -⟩ := row9 (b := w.heap.size) HB4.out.r0
  obtain ⟨c1_0, c1_1, c1_2, c1_3, c1_4⟩ := row5 (b := w.heap.size + 1) HB4.out.r1
  go_wp2_with (with_reducible show wpList _ _ _ (Oper.mk _ (.store 33 _ _) _ _ _ _ :: _) _ _; refine Hid.out ?_)
  refine Lib.hid ?_
  refine wpList_put rfl 33 _ _ rfl (w.heap.size + 2) #[.int .i64 2, .int .i64 m, .int .i64 n, .bool d, .int .i64 e] _ 33 rfl rfl HB4.out.r2 (by kernel_rfl) rfl (by kernel_rfl) ?_
  intro w5 hr5 hg5
  have HB5 : Hid (Bx w [(w.heap.size, .cells #[.int .i64 t0, .int .i64 t1, .int .i64 t2, .int .i64 t3, .int .i64 t4, .int .i64 t5, .int .i64 t6, .int .i64 t7, .int .i64 t8] 51 (0, 0)), (w.heap.size + 1, .cells #[.int .i64 2, .int .i64 b, .int .i64 n, .bool d, .int .i64 e] 33 (0, 0)), (w.heap.size + 2, .cells #[.int .i64 2, .int .i64 m, .int .i64 n, .bool d, .int .i64 e] 33 (0, 0))] w5) := Lib.hid (HB4.out.put (by omega) hg5.out hr5.out (by simp only [List.mem_cons, List.not_mem_nil, or_false]; rintro p (rfl | rfl | rfl) <;> simp <;> omega))
  clear c0_6 c0_7 c1_0 c1_1 c1_2 c1_3 c1_4 hr5 hg5 HB4
  obtain ⟨-, -, -, -, -, -, c0_6, c0_7, -⟩ := row9 (b := w.heap.size) HB5.out.r0
  obtain ⟨c1_0, c1_1, c1_2, c1_3, c1_4⟩ := row5 (b := w.heap.size + 1) HB5.out.r1
  go_wp2_with fail
  exact bodyPost_ret (results_row_tmp Tryd.results66 _ _ _ _ _ (0, 0) _ rfl HB5.out.r2 Tryd.underlying33 rfl (by kernel_rfl)) rfl (⟨rfl, HB5.out.below⟩)
set_option maxHeartbeats 2000000 in
theorem step_c7 (t0 t1 t2 t3 t4 t5 t6 t7 t8 : Int) (b c n : Int) (d : Bool) (e : Int) (bl : Bool) (wt : Bool) (w : World) (hB : Dr.isB ⟨3, b, c, d, e⟩ = true) (hn : Dr.next c = n) :
    Calls Tryd.prog 66 #[.agg #[.int .i64 t0, .int .i64 t1, .int .i64 t2, .int .i64 t3, .int .i64 t4, .int .i64 t5, .int .i64 t6, .int .i64 t7, .int .i64 t8], .agg #[.int .i64 3, .int .i64 b, .int .i64 c, .bool d, .int .i64 e], .int .i64 2, .bool bl, .bool wt] w fun ee w' => ee = .returned (.tuple #[.agg #[.int .i64 0, .int .i64 0, .int .i64 0, .bool false, .int .i64 0], .int .i64 0]) ∧ Below w.heap.size w w' := by
  have hst := hB
  obtain ⟨-, hb, hc, he⟩ := (Dr.isB_iff (by simp)).1 hst
  simp only at hb hc he
  have F := Lib.hid (fun wx => isState_any 3 b c d e wx)
  rw [hB] at F
  have FN := Lib.hid (fun wx => nextSince_any c wx hc)
  rw [hn] at FN
  by_cases hl : t7 < n
  · have FC := Lib.hid (fun wx => shutting_shut 3 b n d e bl true wx)
    clear hst hB hn hb hc he
    have HB0 := Lib.hid (bxs3 w (.cells #[.int .i64 t0, .int .i64 t1, .int .i64 t2, .int .i64 t3, .int .i64 t4, .int .i64 t5, .int .i64 t6, .int .i64 t7, .int .i64 t8] 51) (.cells #[.int .i64 3, .int .i64 b, .int .i64 c, .bool d, .int .i64 e] 33) (.cells #[.int .i64 0, .int .i64 0, .int .i64 0, .bool false, .int .i64 0] 33))
    go_enter Tryd.func66, Tryd.ntmps66
    go_wp2_with fail
    refine (F.out _).mono ?_
    rintro e w1 ⟨rfl, hb1⟩
    have HB1 := Lib.hid (HB0.out.next hb1)
    clear hb1 HB0
    obtain ⟨-, -, -, -, -, -, c0_6, c0_7, -⟩ := row9 (b := w.heap.size) HB1.out.r0
    obtain ⟨c1_0, c1_1, c1_2, c1_3, c1_4⟩ := row5 (b := w.heap.size + 1) HB1.out.r1
    go_wp2_with fail
    refine (FN.out _).mono ?_
    rintro e w2 ⟨rfl, hb2⟩
    have HB2 := Lib.hid (HB1.out.next hb2)
    clear c0_6 c0_7 c1_0 c1_1 c1_2 c1_3 c1_4 hb2 HB1
    obtain ⟨-, -, -, -, -, -, c0_6, c0_7, -⟩ := row9 (b := w.heap.size) HB2.out.r0
    obtain ⟨c1_0, c1_1, c1_2, c1_3, c1_4⟩ := row5 (b := w.heap.size + 1) HB2.out.r1
    go_wp2_with (with_reducible show wpList _ _ _ (Oper.mk _ (.store 3 _ _) _ _ _ _ :: _) _ _; refine Hid.out ?_)
    refine Lib.hid ?_
    refine wpList_putCell rfl 3 _ _ rfl (w.heap.size + 1) 2 (.int .i64 n) _ _ 33 rfl rfl HB2.out.r1 (by kernel_rfl) (by simp) rfl rfl rfl ?_
    intro w3 hr3 hg3
    have HB3 : Hid (Bx w [(w.heap.size, .cells #[.int .i64 t0, .int .i64 t1, .int .i64 t2, .int .i64 t3, .int .i64 t4, .int .i64 t5, .int .i64 t6, .int .i64 t7, .int .i64 t8] 51 (0, 0)), (w.heap.size + 1, .cells #[.int .i64 3, .int .i64 b, .int .i64 n, .bool d, .int .i64 e] 33 (0, 0)), (w.heap.size + 2, .cells #[.int .i64 0, .int .i64 0, .int .i64 0, .bool false, .int .i64 0] 33 (0, 0))] w3) := Lib.hid (HB2.out.put (by omega) hg3.out hr3.out (by simp only [List.mem_cons, List.not_mem_nil, or_false]; rintro p (rfl | rfl | rfl) <;> simp <;> omega))
    clear c0_6 c0_7 c1_0 c1_1 c1_2 c1_3 c1_4 hr3 hg3 HB2
    obtain ⟨-, -, -, -, -, -, c0_6, c0_7, -⟩ := row9 (b := w.heap.size) HB3.out.r0
    obtain ⟨c1_0, c1_1, c1_2, c1_3, c1_4⟩ := row5 (b := w.heap.size + 1) HB3.out.r1
    go_wp2_with fail
    refine (FC.out _).mono ?_
    rintro e w4 ⟨rfl, hb4⟩
    have HB4 := Lib.hid (HB3.out.next hb4)
    clear c0_6 c0_7 c1_0 c1_1 c1_2 c1_3 c1_4 hb4 HB3
    obtain ⟨-, -, -, -, -, -, c0_6, c0_7, -⟩ := row9 (b := w.heap.size) HB4.out.r0
    obtain ⟨c1_0, c1_1, c1_2, c1_3, c1_4⟩ := row5 (b := w.heap.size + 1) HB4.out.r1
    go_wp2_with (with_reducible show wpList _ _ _ (Oper.mk _ (.store 33 _ _) _ _ _ _ :: _) _ _; refine Hid.out ?_)
    refine Lib.hid ?_
    refine wpList_put rfl 33 _ _ rfl (w.heap.size + 2) #[.int .i64 0, .int .i64 0, .int .i64 0, .bool false, .int .i64 0] _ 33 rfl rfl HB4.out.r2 (by kernel_rfl) rfl (by kernel_rfl) ?_
    intro w5 hr5 hg5
    have HB5 : Hid (Bx w [(w.heap.size, .cells #[.int .i64 t0, .int .i64 t1, .int .i64 t2, .int .i64 t3, .int .i64 t4, .int .i64 t5, .int .i64 t6, .int .i64 t7, .int .i64 t8] 51 (0, 0)), (w.heap.size + 1, .cells #[.int .i64 3, .int .i64 b, .int .i64 n, .bool d, .int .i64 e] 33 (0, 0)), (w.heap.size + 2, .cells #[.int .i64 0, .int .i64 0, .int .i64 0, .bool false, .int .i64 0] 33 (0, 0))] w5) := Lib.hid (HB4.out.put (by omega) hg5.out hr5.out (by simp only [List.mem_cons, List.not_mem_nil, or_false]; rintro p (rfl | rfl | rfl) <;> simp <;> omega))
    clear c0_6 c0_7 c1_0 c1_1 c1_2 c1_3 c1_4 hr5 hg5 HB4
    obtain ⟨-, -, -, -, -, -, c0_6, c0_7, -⟩ := row9 (b := w.heap.size) HB5.out.r0
    obtain ⟨c1_0, c1_1, c1_2, c1_3, c1_4⟩ := row5 (b := w.heap.size + 1) HB5.out.r1
    go_wp2_with fail
    exact bodyPost_ret (results_row_tmp Tryd.results66 _ _ _ _ _ (0, 0) _ rfl HB5.out.r2 Tryd.underlying33 rfl (by kernel_rfl)) rfl (⟨rfl, HB5.out.below⟩)
  · have hld : decide (t7 < n) = false := decide_eq_false hl
    have FC := Lib.hid (fun wx => shutting_shut 3 b n d e bl false wx)
    clear hst hB hn hb hc he
    have HB0 := Lib.hid (bxs3 w (.cells #[.int .i64 t0, .int .i64 t1, .int .i64 t2, .int .i64 t3, .int .i64 t4, .int .i64 t5, .int .i64 t6, .int .i64 t7, .int .i64 t8] 51) (.cells #[.int .i64 3, .int .i64 b, .int .i64 c, .bool d, .int .i64 e] 33) (.cells #[.int .i64 0, .int .i64 0, .int .i64 0, .bool false, .int .i64 0] 33))
    go_enter Tryd.func66, Tryd.ntmps66
    go_wp2_with fail
    refine (F.out _).mono ?_
    rintro e w1 ⟨rfl, hb1⟩
    have HB1 := Lib.hid (HB0.out.next hb1)
    clear hb1 HB0
    obtain ⟨-, -, -, -, -, -, c0_6, c0_7, -⟩ := row9 (b := w.heap.size) HB1.out.r0
    obtain ⟨c1_0, c1_1, c1_2, c1_3, c1_4⟩ := row5 (b := w.heap.size + 1) HB1.out.r1
    go_wp2_with fail
    refine (FN.out _).mono ?_
    rintro e w2 ⟨rfl, hb2⟩
    have HB2 := Lib.hid (HB1.out.next hb2)
    clear c0_6 c0_7 c1_0 c1_1 c1_2 c1_3 c1_4 hb2 HB1
    obtain ⟨-, -, -, -, -, -, c0_6, c0_7, -⟩ := row9 (b := w.heap.size) HB2.out.r0
    obtain ⟨c1_0, c1_1, c1_2, c1_3, c1_4⟩ := row5 (b := w.heap.size + 1) HB2.out.r1
    go_wp2_with (with_reducible show wpList _ _ _ (Oper.mk _ (.store 3 _ _) _ _ _ _ :: _) _ _; refine Hid.out ?_)
    refine Lib.hid ?_
    refine wpList_putCell rfl 3 _ _ rfl (w.heap.size + 1) 2 (.int .i64 n) _ _ 33 rfl rfl HB2.out.r1 (by kernel_rfl) (by simp) rfl rfl rfl ?_
    intro w3 hr3 hg3
    have HB3 : Hid (Bx w [(w.heap.size, .cells #[.int .i64 t0, .int .i64 t1, .int .i64 t2, .int .i64 t3, .int .i64 t4, .int .i64 t5, .int .i64 t6, .int .i64 t7, .int .i64 t8] 51 (0, 0)), (w.heap.size + 1, .cells #[.int .i64 3, .int .i64 b, .int .i64 n, .bool d, .int .i64 e] 33 (0, 0)), (w.heap.size + 2, .cells #[.int .i64 0, .int .i64 0, .int .i64 0, .bool false, .int .i64 0] 33 (0, 0))] w3) := Lib.hid (HB2.out.put (by omega) hg3.out hr3.out (by simp only [List.mem_cons, List.not_mem_nil, or_false]; rintro p (rfl | rfl | rfl) <;> simp <;> omega))
    clear c0_6 c0_7 c1_0 c1_1 c1_2 c1_3 c1_4 hr3 hg3 HB2
    obtain ⟨-, -, -, -, -, -, c0_6, c0_7, -⟩ := row9 (b := w.heap.size) HB3.out.r0
    obtain ⟨c1_0, c1_1, c1_2, c1_3, c1_4⟩ := row5 (b := w.heap.size + 1) HB3.out.r1
    go_wp2_with fail
    refine (FC.out _).mono ?_
    rintro e w4 ⟨rfl, hb4⟩
    have HB4 := Lib.hid (HB3.out.next hb4)
    clear c0_6 c0_7 c1_0 c1_1 c1_2 c1_3 c1_4 hb4 HB3
    obtain ⟨-, -, -, -, -, -, c0_6, c0_7, -⟩ := row9 (b := w.heap.size) HB4.out.r0
    obtain ⟨c1_0, c1_1, c1_2, c1_3, c1_4⟩ := row5 (b := w.heap.size + 1) HB4.out.r1
    go_wp2_with (with_reducible show wpList _ _ _ (Oper.mk _ (.store 33 _ _) _ _ _ _ :: _) _ _; refine Hid.out ?_)
    refine Lib.hid ?_
    refine wpList_put rfl 33 _ _ rfl (w.heap.size + 2) #[.int .i64 0, .int .i64 0, .int .i64 0, .bool false, .int .i64 0] _ 33 rfl rfl HB4.out.r2 (by kernel_rfl) rfl (by kernel_rfl) ?_
    intro w5 hr5 hg5
    have HB5 : Hid (Bx w [(w.heap.size, .cells #[.int .i64 t0, .int .i64 t1, .int .i64 t2, .int .i64 t3, .int .i64 t4, .int .i64 t5, .int .i64 t6, .int .i64 t7, .int .i64 t8] 51 (0, 0)), (w.heap.size + 1, .cells #[.int .i64 3, .int .i64 b, .int .i64 n, .bool d, .int .i64 e] 33 (0, 0)), (w.heap.size + 2, .cells #[.int .i64 0, .int .i64 0, .int .i64 0, .bool false, .int .i64 0] 33 (0, 0))] w5) := Lib.hid (HB4.out.put (by omega) hg5.out hr5.out (by simp only [List.mem_cons, List.not_mem_nil, or_false]; rintro p (rfl | rfl | rfl) <;> simp <;> omega))
    clear c0_6 c0_7 c1_0 c1_1 c1_2 c1_3 c1_4 hr5 hg5 HB4
    obtain ⟨-, -, -, -, -, -, c0_6, c0_7, -⟩ := row9 (b := w.heap.size) HB5.out.r0
    obtain ⟨c1_0, c1_1, c1_2, c1_3, c1_4⟩ := row5 (b := w.heap.size + 1) HB5.out.r1
    go_wp2_with fail
    exact bodyPost_ret (results_row_tmp Tryd.results66 _ _ _ _ _ (0, 0) _ rfl HB5.out.r2 Tryd.underlying33 rfl (by kernel_rfl)) rfl (⟨rfl, HB5.out.below⟩)
set_option maxHeartbeats 2000000 in
theorem step_c8 (t0 t1 t2 t3 t4 t5 t6 t7 t8 : Int) (b c n : Int) (e : Int) (k : Int) (bl : Bool) (wt : Bool) (w : World) (hB : Dr.isB ⟨3, b, c, true, e⟩ = true) (hn : Dr.next c = n) (hd : ¬ k = 2) (hl : t7 < n) :
    Calls Tryd.prog 66 #[.agg #[.int .i64 t0, .int .i64 t1, .int .i64 t2, .int .i64 t3, .int .i64 t4, .int .i64 t5, .int .i64 t6, .int .i64 t7, .int .i64 t8], .agg #[.int .i64 3, .int .i64 b, .int .i64 c, .bool true, .int .i64 e], .int .i64 k, .bool bl, .bool wt] w fun ee w' => ee = .returned (.tuple #[.agg #[.int .i64 3, .int .i64 (Dr.more b), .int .i64 n, .bool true, .int .i64 e], .int .i64 5]) ∧ Below w.heap.size w w' := by
  have hst := hB
  obtain ⟨-, hb, hc, he⟩ := (Dr.isB_iff (by simp)).1 hst
  simp only at hb hc he
  have F := Lib.hid (fun wx => isState_any 3 b c true e wx)
  rw [hB] at F
  have FN := Lib.hid (fun wx => nextSince_any c wx hc)
  rw [hn] at FN
  have FC := Lib.hid (fun wx => shutting_nudged 3 b n e k bl wx hb hd)
  generalize Dr.more b = m at *
  clear hst hB hn hb hc he
  have HB0 := Lib.hid (bxs3 w (.cells #[.int .i64 t0, .int .i64 t1, .int .i64 t2, .int .i64 t3, .int .i64 t4, .int .i64 t5, .int .i64 t6, .int .i64 t7, .int .i64 t8] 51) (.cells #[.int .i64 3, .int .i64 b, .int .i64 c, .bool true, .int .i64 e] 33) (.cells #[.int .i64 0, .int .i64 0, .int .i64 0, .bool false, .int .i64 0] 33))
  go_enter Tryd.func66, Tryd.ntmps66
  go_wp2_with fail
  refine (F.out _).mono ?_
  rintro e w1 ⟨rfl, hb1⟩
  have HB1 := Lib.hid (HB0.out.next hb1)
  clear hb1 HB0
  obtain ⟨-, -, -, -, -, -, c0_6, c0_7, -⟩ := row9 (b := w.heap.size) HB1.out.r0
  obtain ⟨c1_0, c1_1, c1_2, c1_3, c1_4⟩ := row5 (b := w.heap.size + 1) HB1.out.r1
  go_wp2_with fail
  refine (FN.out _).mono ?_
  rintro e w2 ⟨rfl, hb2⟩
  have HB2 := Lib.hid (HB1.out.next hb2)
  clear c0_6 c0_7 c1_0 c1_1 c1_2 c1_3 c1_4 hb2 HB1
  obtain ⟨-, -, -, -, -, -, c0_6, c0_7, -⟩ := row9 (b := w.heap.size) HB2.out.r0
  obtain ⟨c1_0, c1_1, c1_2, c1_3, c1_4⟩ := row5 (b := w.heap.size + 1) HB2.out.r1
  go_wp2_with (with_reducible show wpList _ _ _ (Oper.mk _ (.store 3 _ _) _ _ _ _ :: _) _ _; refine Hid.out ?_)
  refine Lib.hid ?_
  refine wpList_putCell rfl 3 _ _ rfl (w.heap.size + 1) 2 (.int .i64 n) _ _ 33 rfl rfl HB2.out.r1 (by kernel_rfl) (by simp) rfl rfl rfl ?_
  intro w3 hr3 hg3
  have HB3 : Hid (Bx w [(w.heap.size, .cells #[.int .i64 t0, .int .i64 t1, .int .i64 t2, .int .i64 t3, .int .i64 t4, .int .i64 t5, .int .i64 t6, .int .i64 t7, .int .i64 t8] 51 (0, 0)), (w.heap.size + 1, .cells #[.int .i64 3, .int .i64 b, .int .i64 n, .bool true, .int .i64 e] 33 (0, 0)), (w.heap.size + 2, .cells #[.int .i64 0, .int .i64 0, .int .i64 0, .bool false, .int .i64 0] 33 (0, 0))] w3) := Lib.hid (HB2.out.put (by omega) hg3.out hr3.out (by simp only [List.mem_cons, List.not_mem_nil, or_false]; rintro p (rfl | rfl | rfl) <;> simp <;> omega))
  clear c0_6 c0_7 c1_0 c1_1 c1_2 c1_3 c1_4 hr3 hg3 HB2
  obtain ⟨-, -, -, -, -, -, c0_6, c0_7, -⟩ := row9 (b := w.heap.size) HB3.out.r0
  obtain ⟨c1_0, c1_1, c1_2, c1_3, c1_4⟩ := row5 (b := w.heap.size + 1) HB3.out.r1
  go_wp2_with fail
  refine (FC.out _).mono ?_
  rintro e w4 ⟨rfl, hb4⟩
  have HB4 := Lib.hid (HB3.out.next hb4)
  clear c0_6 c0_7 c1_0 c1_1 c1_2 c1_3 c1_4 hb4 HB3
  obtain ⟨-, -, -, -, -, -, c0_6, c0_7, -⟩ := row9 (b := w.heap.size) HB4.out.r0
  obtain ⟨c1_0, c1_1, c1_2, c1_3, c1_4⟩ := row5 (b := w.heap.size + 1) HB4.out.r1
  go_wp2_with (with_reducible show wpList _ _ _ (Oper.mk _ (.store 33 _ _) _ _ _ _ :: _) _ _; refine Hid.out ?_)
  refine Lib.hid ?_
  refine wpList_put rfl 33 _ _ rfl (w.heap.size + 2) #[.int .i64 3, .int .i64 m, .int .i64 n, .bool true, .int .i64 e] _ 33 rfl rfl HB4.out.r2 (by kernel_rfl) rfl (by kernel_rfl) ?_
  intro w5 hr5 hg5
  have HB5 : Hid (Bx w [(w.heap.size, .cells #[.int .i64 t0, .int .i64 t1, .int .i64 t2, .int .i64 t3, .int .i64 t4, .int .i64 t5, .int .i64 t6, .int .i64 t7, .int .i64 t8] 51 (0, 0)), (w.heap.size + 1, .cells #[.int .i64 3, .int .i64 b, .int .i64 n, .bool true, .int .i64 e] 33 (0, 0)), (w.heap.size + 2, .cells #[.int .i64 3, .int .i64 m, .int .i64 n, .bool true, .int .i64 e] 33 (0, 0))] w5) := Lib.hid (HB4.out.put (by omega) hg5.out hr5.out (by simp only [List.mem_cons, List.not_mem_nil, or_false]; rintro p (rfl | rfl | rfl) <;> simp <;> omega))
  clear c0_6 c0_7 c1_0 c1_1 c1_2 c1_3 c1_4 hr5 hg5 HB4
  obtain ⟨-, -, -, -, -, -, c0_6, c0_7, -⟩ := row9 (b := w.heap.size) HB5.out.r0
  obtain ⟨c1_0, c1_1, c1_2, c1_3, c1_4⟩ := row5 (b := w.heap.size + 1) HB5.out.r1
  go_wp2_with fail
  exact bodyPost_ret (results_row_tmp Tryd.results66 _ _ _ _ _ (0, 0) _ rfl HB5.out.r2 Tryd.underlying33 rfl (by kernel_rfl)) rfl (⟨rfl, HB5.out.below⟩)
set_option maxHeartbeats 2000000 in
theorem step_c9 (t0 t1 t2 t3 t4 t5 t6 t7 t8 : Int) (b c n : Int) (e : Int) (k : Int) (bl : Bool) (wt : Bool) (w : World) (hB : Dr.isB ⟨3, b, c, false, e⟩ = true) (hn : Dr.next c = n) (hd : ¬ k = 2) (hl : t7 < n) :
    Calls Tryd.prog 66 #[.agg #[.int .i64 t0, .int .i64 t1, .int .i64 t2, .int .i64 t3, .int .i64 t4, .int .i64 t5, .int .i64 t6, .int .i64 t7, .int .i64 t8], .agg #[.int .i64 3, .int .i64 b, .int .i64 c, .bool false, .int .i64 e], .int .i64 k, .bool bl, .bool wt] w fun ee w' => ee = .returned (.tuple #[.agg #[.int .i64 3, .int .i64 0, .int .i64 n, .bool true, .int .i64 e], .int .i64 5]) ∧ Below w.heap.size w w' := by
  have hst := hB
  obtain ⟨-, hb, hc, he⟩ := (Dr.isB_iff (by simp)).1 hst
  simp only at hb hc he
  have F := Lib.hid (fun wx => isState_any 3 b c false e wx)
  rw [hB] at F
  have FN := Lib.hid (fun wx => nextSince_any c wx hc)
  rw [hn] at FN
  have FC := Lib.hid (fun wx => shutting_late 3 b n e k bl wx hd)
  clear hst hB hn hb hc he
  have HB0 := Lib.hid (bxs3 w (.cells #[.int .i64 t0, .int .i64 t1, .int .i64 t2, .int .i64 t3, .int .i64 t4, .int .i64 t5, .int .i64 t6, .int .i64 t7, .int .i64 t8] 51) (.cells #[.int .i64 3, .int .i64 b, .int .i64 c, .bool false, .int .i64 e] 33) (.cells #[.int .i64 0, .int .i64 0, .int .i64 0, .bool false, .int .i64 0] 33))
  go_enter Tryd.func66, Tryd.ntmps66
  go_wp2_with fail
  refine (F.out _).mono ?_
  rintro e w1 ⟨rfl, hb1⟩
  have HB1 := Lib.hid (HB0.out.next hb1)
  clear hb1 HB0
  obtain ⟨-, -, -, -, -, -, c0_6, c0_7, -⟩ := row9 (b := w.heap.size) HB1.out.r0
  obtain ⟨c1_0, c1_1, c1_2, c1_3, c1_4⟩ := row5 (b := w.heap.size + 1) HB1.out.r1
  go_wp2_with fail
  refine (FN.out _).mono ?_
  rintro e w2 ⟨rfl, hb2⟩
  have HB2 := Lib.hid (HB1.out.next hb2)
  clear c0_6 c0_7 c1_0 c1_1 c1_2 c1_3 c1_4 hb2 HB1
  obtain ⟨-, -, -, -, -, -, c0_6, c0_7, -⟩ := row9 (b := w.heap.size) HB2.out.r0
  obtain ⟨c1_0, c1_1, c1_2, c1_3, c1_4⟩ := row5 (b := w.heap.size + 1) HB2.out.r1
  go_wp2_with (with_reducible show wpList _ _ _ (Oper.mk _ (.store 3 _ _) _ _ _ _ :: _) _ _; refine Hid.out ?_)
  refine Lib.hid ?_
  refine wpList_putCell rfl 3 _ _ rfl (w.heap.size + 1) 2 (.int .i64 n) _ _ 33 rfl rfl HB2.out.r1 (by kernel_rfl) (by simp) rfl rfl rfl ?_
  intro w3 hr3 hg3
  have HB3 : Hid (Bx w [(w.heap.size, .cells #[.int .i64 t0, .int .i64 t1, .int .i64 t2, .int .i64 t3, .int .i64 t4, .int .i64 t5, .int .i64 t6, .int .i64 t7, .int .i64 t8] 51 (0, 0)), (w.heap.size + 1, .cells #[.int .i64 3, .int .i64 b, .int .i64 n, .bool false, .int .i64 e] 33 (0, 0)), (w.heap.size + 2, .cells #[.int .i64 0, .int .i64 0, .int .i64 0, .bool false, .int .i64 0] 33 (0, 0))] w3) := Lib.hid (HB2.out.put (by omega) hg3.out hr3.out (by simp only [List.mem_cons, List.not_mem_nil, or_false]; rintro p (rfl | rfl | rfl) <;> simp <;> omega))
  clear c0_6 c0_7 c1_0 c1_1 c1_2 c1_3 c1_4 hr3 hg3 HB2
  obtain ⟨-, -, -, -, -, -, c0_6, c0_7, -⟩ := row9 (b := w.heap.size) HB3.out.r0
  obtain ⟨c1_0, c1_1, c1_2, c1_3, c1_4⟩ := row5 (b := w.heap.size + 1) HB3.out.r1
  go_wp2_with fail
  refine (FC.out _).mono ?_
  rintro e w4 ⟨rfl, hb4⟩
  have HB4 := Lib.hid (HB3.out.next hb4)
  clear c0_6 c0_7 c1_0 c1_1 c1_2 c1_3 c1_4 hb4 HB3
  obtain ⟨-, -, -, -, -, -, c0_6, c0_7, -⟩ := row9 (b := w.heap.size) HB4.out.r0
  obtain ⟨c1_0, c1_1, c1_2, c1_3, c1_4⟩ := row5 (b := w.heap.size + 1) HB4.out.r1
  go_wp2_with (with_reducible show wpList _ _ _ (Oper.mk _ (.store 33 _ _) _ _ _ _ :: _) _ _; refine Hid.out ?_)
  refine Lib.hid ?_
  refine wpList_put rfl 33 _ _ rfl (w.heap.size + 2) #[.int .i64 3, .int .i64 0, .int .i64 n, .bool true, .int .i64 e] _ 33 rfl rfl HB4.out.r2 (by kernel_rfl) rfl (by kernel_rfl) ?_
  intro w5 hr5 hg5
  have HB5 : Hid (Bx w [(w.heap.size, .cells #[.int .i64 t0, .int .i64 t1, .int .i64 t2, .int .i64 t3, .int .i64 t4, .int .i64 t5, .int .i64 t6, .int .i64 t7, .int .i64 t8] 51 (0, 0)), (w.heap.size + 1, .cells #[.int .i64 3, .int .i64 b, .int .i64 n, .bool false, .int .i64 e] 33 (0, 0)), (w.heap.size + 2, .cells #[.int .i64 3, .int .i64 0, .int .i64 n, .bool true, .int .i64 e] 33 (0, 0))] w5) := Lib.hid (HB4.out.put (by omega) hg5.out hr5.out (by simp only [List.mem_cons, List.not_mem_nil, or_false]; rintro p (rfl | rfl | rfl) <;> simp <;> omega))
  clear c0_6 c0_7 c1_0 c1_1 c1_2 c1_3 c1_4 hr5 hg5 HB4
  obtain ⟨-, -, -, -, -, -, c0_6, c0_7, -⟩ := row9 (b := w.heap.size) HB5.out.r0
  obtain ⟨c1_0, c1_1, c1_2, c1_3, c1_4⟩ := row5 (b := w.heap.size + 1) HB5.out.r1
  go_wp2_with fail
  exact bodyPost_ret (results_row_tmp Tryd.results66 _ _ _ _ _ (0, 0) _ rfl HB5.out.r2 Tryd.underlying33 rfl (by kernel_rfl)) rfl (⟨rfl, HB5.out.below⟩)
set_option maxHeartbeats 2000000 in
theorem step_c10 (t0 t1 t2 t3 t4 t5 t6 t7 t8 : Int) (b c n : Int) (d : Bool) (e : Int) (k : Int) (wt : Bool) (w : World) (hB : Dr.isB ⟨3, b, c, d, e⟩ = true) (hn : Dr.next c = n) (hd : ¬ k = 2) (hl : ¬ t7 < n) :
    Calls Tryd.prog 66 #[.agg #[.int .i64 t0, .int .i64 t1, .int .i64 t2, .int .i64 t3, .int .i64 t4, .int .i64 t5, .int .i64 t6, .int .i64 t7, .int .i64 t8], .agg #[.int .i64 3, .int .i64 b, .int .i64 c, .bool d, .int .i64 e], .int .i64 k, .bool true, .bool wt] w fun ee w' => ee = .returned (.tuple #[.agg #[.int .i64 1, .int .i64 0, .int .i64 n, .bool d, .int .i64 (Dr.more e)], .int .i64 3]) ∧ Below w.heap.size w w' := by
  have hst := hB
  obtain ⟨-, hb, hc, he⟩ := (Dr.isB_iff (by simp)).1 hst
  simp only at hb hc he
  have F := Lib.hid (fun wx => isState_any 3 b c d e wx)
  rw [hB] at F
  have FN := Lib.hid (fun wx => nextSince_any c wx hc)
  rw [hn] at FN
  have hld : decide (t7 < n) = false := decide_eq_false hl
  have FC := Lib.hid (fun wx => shutting_block 3 b n d e k wx he hd)
  generalize Dr.more e = m at *
  clear hst hB hn hb hc he
  have HB0 := Lib.hid (bxs3 w (.cells #[.int .i64 t0, .int .i64 t1, .int .i64 t2, .int .i64 t3, .int .i64 t4, .int .i64 t5, .int .i64 t6, .int .i64 t7, .int .i64 t8] 51) (.cells #[.int .i64 3, .int .i64 b, .int .i64 c, .bool d, .int .i64 e] 33) (.cells #[.int .i64 0, .int .i64 0, .int .i64 0, .bool false, .int .i64 0] 33))
  go_enter Tryd.func66, Tryd.ntmps66
  go_wp2_with fail
  refine (F.out _).mono ?_
  rintro e w1 ⟨rfl, hb1⟩
  have HB1 := Lib.hid (HB0.out.next hb1)
  clear hb1 HB0
  obtain ⟨-, -, -, -, -, -, c0_6, c0_7, -⟩ := row9 (b := w.heap.size) HB1.out.r0
  obtain ⟨c1_0, c1_1, c1_2, c1_3, c1_4⟩ := row5 (b := w.heap.size + 1) HB1.out.r1
  go_wp2_with fail
  refine (FN.out _).mono ?_
  rintro e w2 ⟨rfl, hb2⟩
  have HB2 := Lib.hid (HB1.out.next hb2)
  clear c0_6 c0_7 c1_0 c1_1 c1_2 c1_3 c1_4 hb2 HB1
  obtain ⟨-, -, -, -, -, -, c0_6, c0_7, -⟩ := row9 (b := w.heap.size) HB2.out.r0
  obtain ⟨c1_0, c1_1, c1_2, c1_3, c1_4⟩ := row5 (b := w.heap.size + 1) HB2.out.r1
  go_wp2_with (with_reducible show wpList _ _ _ (Oper.mk _ (.store 3 _ _) _ _ _ _ :: _) _ _; refine Hid.out ?_)
  refine Lib.hid ?_
  refine wpList_putCell rfl 3 _ _ rfl (w.heap.size + 1) 2 (.int .i64 n) _ _ 33 rfl rfl HB2.out.r1 (by kernel_rfl) (by simp) rfl rfl rfl ?_
  intro w3 hr3 hg3
  have HB3 : Hid (Bx w [(w.heap.size, .cells #[.int .i64 t0, .int .i64 t1, .int .i64 t2, .int .i64 t3, .int .i64 t4, .int .i64 t5, .int .i64 t6, .int .i64 t7, .int .i64 t8] 51 (0, 0)), (w.heap.size + 1, .cells #[.int .i64 3, .int .i64 b, .int .i64 n, .bool d, .int .i64 e] 33 (0, 0)), (w.heap.size + 2, .cells #[.int .i64 0, .int .i64 0, .int .i64 0, .bool false, .int .i64 0] 33 (0, 0))] w3) := Lib.hid (HB2.out.put (by omega) hg3.out hr3.out (by simp only [List.mem_cons, List.not_mem_nil, or_false]; rintro p (rfl | rfl | rfl) <;> simp <;> omega))
  clear c0_6 c0_7 c1_0 c1_1 c1_2 c1_3 c1_4 hr3 hg3 HB2
  obtain ⟨-, -, -, -, -, -, c0_6, c0_7, -⟩ := row9 (b := w.heap.size) HB3.out.r0
  obtain ⟨c1_0, c1_1, c1_2, c1_3, c1_4⟩ := row5 (b := w.heap.size + 1) HB3.out.r1
  go_wp2_with fail
  refine (FC.out _).mono ?_
  rintro e w4 ⟨rfl, hb4⟩
  have HB4 := Lib.hid (HB3.out.next hb4)
  clear c0_6 c0_7 c1_0 c1_1 c1_2 c1_3 c1_4 hb4 HB3
  obtain ⟨-, -, -, -, -, -, c0_6, c0_7, -⟩ := row9 (b := w.heap.size) HB4.out.r0
  obtain ⟨c1_0, c1_1, c1_2, c1_3, c1_4⟩ := row5 (b := w.heap.size + 1) HB4.out.r1
  go_wp2_with (with_reducible show wpList _ _ _ (Oper.mk _ (.store 33 _ _) _ _ _ _ :: _) _ _; refine Hid.out ?_)
  refine Lib.hid ?_
  refine wpList_put rfl 33 _ _ rfl (w.heap.size + 2) #[.int .i64 1, .int .i64 0, .int .i64 n, .bool d, .int .i64 m] _ 33 rfl rfl HB4.out.r2 (by kernel_rfl) rfl (by kernel_rfl) ?_
  intro w5 hr5 hg5
  have HB5 : Hid (Bx w [(w.heap.size, .cells #[.int .i64 t0, .int .i64 t1, .int .i64 t2, .int .i64 t3, .int .i64 t4, .int .i64 t5, .int .i64 t6, .int .i64 t7, .int .i64 t8] 51 (0, 0)), (w.heap.size + 1, .cells #[.int .i64 3, .int .i64 b, .int .i64 n, .bool d, .int .i64 e] 33 (0, 0)), (w.heap.size + 2, .cells #[.int .i64 1, .int .i64 0, .int .i64 n, .bool d, .int .i64 m] 33 (0, 0))] w5) := Lib.hid (HB4.out.put (by omega) hg5.out hr5.out (by simp only [List.mem_cons, List.not_mem_nil, or_false]; rintro p (rfl | rfl | rfl) <;> simp <;> omega))
  clear c0_6 c0_7 c1_0 c1_1 c1_2 c1_3 c1_4 hr5 hg5 HB4
  obtain ⟨-, -, -, -, -, -, c0_6, c0_7, -⟩ := row9 (b := w.heap.size) HB5.out.r0
  obtain ⟨c1_0, c1_1, c1_2, c1_3, c1_4⟩ := row5 (b := w.heap.size + 1) HB5.out.r1
  go_wp2_with fail
  exact bodyPost_ret (results_row_tmp Tryd.results66 _ _ _ _ _ (0, 0) _ rfl HB5.out.r2 Tryd.underlying33 rfl (by kernel_rfl)) rfl (⟨rfl, HB5.out.below⟩)
set_option maxHeartbeats 2000000 in
theorem step_c11 (t0 t1 t2 t3 t4 t5 t6 t7 t8 : Int) (b c n : Int) (d : Bool) (e : Int) (k : Int) (wt : Bool) (w : World) (hB : Dr.isB ⟨3, b, c, d, e⟩ = true) (hn : Dr.next c = n) (hd : ¬ k = 2) (hl : ¬ t7 < n) :
    Calls Tryd.prog 66 #[.agg #[.int .i64 t0, .int .i64 t1, .int .i64 t2, .int .i64 t3, .int .i64 t4, .int .i64 t5, .int .i64 t6, .int .i64 t7, .int .i64 t8], .agg #[.int .i64 3, .int .i64 b, .int .i64 c, .bool d, .int .i64 e], .int .i64 k, .bool false, .bool wt] w fun ee w' => ee = .returned (.tuple #[.agg #[.int .i64 3, .int .i64 (Dr.more b), .int .i64 n, .bool d, .int .i64 e], .int .i64 4]) ∧ Below w.heap.size w w' := by
  have hst := hB
  obtain ⟨-, hb, hc, he⟩ := (Dr.isB_iff (by simp)).1 hst
  simp only at hb hc he
  have F := Lib.hid (fun wx => isState_any 3 b c d e wx)
  rw [hB] at F
  have FN := Lib.hid (fun wx => nextSince_any c wx hc)
  rw [hn] at FN
  have hld : decide (t7 < n) = false := decide_eq_false hl
  have FC := Lib.hid (fun wx => shutting_on 3 b n d e k wx hb hd)
  generalize Dr.more b = m at *
  clear hst hB hn hb hc he
  have HB0 := Lib.hid (bxs3 w (.cells #[.int .i64 t0, .int .i64 t1, .int .i64 t2, .int .i64 t3, .int .i64 t4, .int .i64 t5, .int .i64 t6, .int .i64 t7, .int .i64 t8] 51) (.cells #[.int .i64 3, .int .i64 b, .int .i64 c, .bool d, .int .i64 e] 33) (.cells #[.int .i64 0, .int .i64 0, .int .i64 0, .bool false, .int .i64 0] 33))
  go_enter Tryd.func66, Tryd.ntmps66
  go_wp2_with fail
  refine (F.out _).mono ?_
  rintro e w1 ⟨rfl, hb1⟩
  have HB1 := Lib.hid (HB0.out.next hb1)
  clear hb1 HB0
  obtain ⟨-, -, -, -, -, -, c0_6, c0_7, -⟩ := row9 (b := w.heap.size) HB1.out.r0
  obtain ⟨c1_0, c1_1, c1_2, c1_3, c1_4⟩ := row5 (b := w.heap.size + 1) HB1.out.r1
  go_wp2_with fail
  refine (FN.out _).mono ?_
  rintro e w2 ⟨rfl, hb2⟩
  have HB2 := Lib.hid (HB1.out.next hb2)
  clear c0_6 c0_7 c1_0 c1_1 c1_2 c1_3 c1_4 hb2 HB1
  obtain ⟨-, -, -, -, -, -, c0_6, c0_7, -⟩ := row9 (b := w.heap.size) HB2.out.r0
  obtain ⟨c1_0, c1_1, c1_2, c1_3, c1_4⟩ := row5 (b := w.heap.size + 1) HB2.out.r1
  go_wp2_with (with_reducible show wpList _ _ _ (Oper.mk _ (.store 3 _ _) _ _ _ _ :: _) _ _; refine Hid.out ?_)
  refine Lib.hid ?_
  refine wpList_putCell rfl 3 _ _ rfl (w.heap.size + 1) 2 (.int .i64 n) _ _ 33 rfl rfl HB2.out.r1 (by kernel_rfl) (by simp) rfl rfl rfl ?_
  intro w3 hr3 hg3
  have HB3 : Hid (Bx w [(w.heap.size, .cells #[.int .i64 t0, .int .i64 t1, .int .i64 t2, .int .i64 t3, .int .i64 t4, .int .i64 t5, .int .i64 t6, .int .i64 t7, .int .i64 t8] 51 (0, 0)), (w.heap.size + 1, .cells #[.int .i64 3, .int .i64 b, .int .i64 n, .bool d, .int .i64 e] 33 (0, 0)), (w.heap.size + 2, .cells #[.int .i64 0, .int .i64 0, .int .i64 0, .bool false, .int .i64 0] 33 (0, 0))] w3) := Lib.hid (HB2.out.put (by omega) hg3.out hr3.out (by simp only [List.mem_cons, List.not_mem_nil, or_false]; rintro p (rfl | rfl | rfl) <;> simp <;> omega))
  clear c0_6 c0_7 c1_0 c1_1 c1_2 c1_3 c1_4 hr3 hg3 HB2
  obtain ⟨-, -, -, -, -, -, c0_6, c0_7, -⟩ := row9 (b := w.heap.size) HB3.out.r0
  obtain ⟨c1_0, c1_1, c1_2, c1_3, c1_4⟩ := row5 (b := w.heap.size + 1) HB3.out.r1
  go_wp2_with fail
  refine (FC.out _).mono ?_
  rintro e w4 ⟨rfl, hb4⟩
  have HB4 := Lib.hid (HB3.out.next hb4)
  clear c0_6 c0_7 c1_0 c1_1 c1_2 c1_3 c1_4 hb4 HB3
  obtain ⟨-, -, -, -, -, -, c0_6, c0_7, -⟩ := row9 (b := w.heap.size) HB4.out.r0
  obtain ⟨c1_0, c1_1, c1_2, c1_3, c1_4⟩ := row5 (b := w.heap.size + 1) HB4.out.r1
  go_wp2_with (with_reducible show wpList _ _ _ (Oper.mk _ (.store 33 _ _) _ _ _ _ :: _) _ _; refine Hid.out ?_)
  refine Lib.hid ?_
  refine wpList_put rfl 33 _ _ rfl (w.heap.size + 2) #[.int .i64 3, .int .i64 m, .int .i64 n, .bool d, .int .i64 e] _ 33 rfl rfl HB4.out.r2 (by kernel_rfl) rfl (by kernel_rfl) ?_
  intro w5 hr5 hg5
  have HB5 : Hid (Bx w [(w.heap.size, .cells #[.int .i64 t0, .int .i64 t1, .int .i64 t2, .int .i64 t3, .int .i64 t4, .int .i64 t5, .int .i64 t6, .int .i64 t7, .int .i64 t8] 51 (0, 0)), (w.heap.size + 1, .cells #[.int .i64 3, .int .i64 b, .int .i64 n, .bool d, .int .i64 e] 33 (0, 0)), (w.heap.size + 2, .cells #[.int .i64 3, .int .i64 m, .int .i64 n, .bool d, .int .i64 e] 33 (0, 0))] w5) := Lib.hid (HB4.out.put (by omega) hg5.out hr5.out (by simp only [List.mem_cons, List.not_mem_nil, or_false]; rintro p (rfl | rfl | rfl) <;> simp <;> omega))
  clear c0_6 c0_7 c1_0 c1_1 c1_2 c1_3 c1_4 hr5 hg5 HB4
  obtain ⟨-, -, -, -, -, -, c0_6, c0_7, -⟩ := row9 (b := w.heap.size) HB5.out.r0
  obtain ⟨c1_0, c1_1, c1_2, c1_3, c1_4⟩ := row5 (b := w.heap.size + 1) HB5.out.r1
  go_wp2_with fail
  exact bodyPost_ret (results_row_tmp Tryd.results66 _ _ _ _ _ (0, 0) _ rfl HB5.out.r2 Tryd.underlying33 rfl (by kernel_rfl)) rfl (⟨rfl, HB5.out.below⟩)
set_option maxHeartbeats 2000000 in
theorem step_any (t0 t1 t2 t3 t4 t5 t6 t7 t8 : Int) (a b c : Int) (d : Bool) (e : Int) (k : Int) (bl wt : Bool) (w : World) :
    Calls Tryd.prog 66 #[.agg #[.int .i64 t0, .int .i64 t1, .int .i64 t2, .int .i64 t3, .int .i64 t4, .int .i64 t5, .int .i64 t6, .int .i64 t7, .int .i64 t8], .agg #[.int .i64 a, .int .i64 b, .int .i64 c, .bool d, .int .i64 e], .int .i64 k, .bool bl, .bool wt] w fun ee w' => ee = .returned (.tuple #[(Dr.stepF t6 t7 ⟨a, b, c, d, e⟩ k bl wt).1.agg, .int .i64 (Dr.stepF t6 t7 ⟨a, b, c, d, e⟩ k bl wt).2]) ∧ Below w.heap.size w w' := by
  by_cases hB : Dr.isB ⟨a, b, c, d, e⟩ = true
  · rw [Dr.stepF_of hB]
    by_cases h0 : a = 0
    · have hz := Dr.isB_zero hB h0
      simp only [Dr.zero, Dr.mk.injEq] at hz
      obtain ⟨rfl, rfl, rfl, rfl, rfl⟩ := hz
      have hs : Dr.stepG t6 t7 ⟨0, 0, 0, false, 0⟩ k bl wt = (if wt = true then (⟨1, 0, 0, false, 0⟩, 3) else (Dr.zero, 0)) := by simp [Dr.stepG]
      have := step_idle t0 t1 t2 t3 t4 t5 t6 t7 t8 k bl wt w
      rw [hs]
      cases wt <;> exact this
    · have h13 : a = 1 ∨ a = 2 ∨ a = 3 := by have := ((Dr.isB_iff h0).1 hB).1; simp only at this; omega
      obtain ⟨n, hn⟩ : ∃ n, Dr.next c = n := ⟨_, rfl⟩
      rcases h13 with rfl | rfl | rfl
      · by_cases hd : k = 1
        · subst hd
          rw [show Dr.stepG t6 t7 _ 1 bl wt = (⟨2, 0, (if n ≤ 1 then 1 else n), d, e⟩, 0) by simp [Dr.stepG, hn]]
          exact step_c1 t0 t1 t2 t3 t4 t5 t6 t7 t8 b c n d e bl wt w hB hn
        · by_cases hl : t7 < n
          · rw [show Dr.stepG t6 t7 _ k bl wt = (⟨3, 0, n, true, e⟩, 5) by simp [Dr.stepG, hn, hd, hl]]
            exact step_c2 t0 t1 t2 t3 t4 t5 t6 t7 t8 b c n d e k bl wt w hB hn hd hl
          · rw [show Dr.stepG t6 t7 _ k bl wt = (⟨1, Dr.more b, n, d, e⟩, 3) by simp [Dr.stepG, hn, hd, hl]]
            exact step_c3 t0 t1 t2 t3 t4 t5 t6 t7 t8 b c n d e k bl wt w hB hn hd hl
      · by_cases hl : t7 < n
        · rw [show Dr.stepG t6 t7 _ k bl wt = (⟨3, 0, n, true, e⟩, 5) by simp [Dr.stepG, hn, hl]]
          exact step_c4 t0 t1 t2 t3 t4 t5 t6 t7 t8 b c n d e k bl wt w hB hn hl
        · by_cases hk : t6 ≤ b + 1 ∧ bl = false
          · obtain ⟨hk, rfl⟩ := hk
            rw [show Dr.stepG t6 t7 _ k false wt = (⟨3, 0, n, d, e⟩, 4) by simp [Dr.stepG, hn, hl, hk]]
            exact step_c5 t0 t1 t2 t3 t4 t5 t6 t7 t8 b c n d e k wt w hB hn hl hk
          · rw [show Dr.stepG t6 t7 _ k bl wt = (⟨2, Dr.more b, n, d, e⟩, 0) from by simp only [Dr.stepG, hn, if_neg hl, if_neg hk]; rfl]
            exact step_c6 t0 t1 t2 t3 t4 t5 t6 t7 t8 b c n d e k bl wt w hB hn hl hk
      · by_cases hd : k = 2
        · subst hd
          rw [show Dr.stepG t6 t7 _ 2 bl wt = (⟨0, 0, 0, false, 0⟩, 0) by simp [Dr.stepG, Dr.zero]]
          exact step_c7 t0 t1 t2 t3 t4 t5 t6 t7 t8 b c n d e bl wt w hB hn
        · by_cases hl : t7 < n
          · cases d
            · rw [show Dr.stepG t6 t7 _ k bl wt = (⟨3, 0, n, true, e⟩, 5) by simp [Dr.stepG, hn, hd, hl]]
              exact step_c9 t0 t1 t2 t3 t4 t5 t6 t7 t8 b c n e k bl wt w hB hn hd hl
            · rw [show Dr.stepG t6 t7 _ k bl wt = (⟨3, Dr.more b, n, true, e⟩, 5) by simp [Dr.stepG, hn, hd, hl]]
              exact step_c8 t0 t1 t2 t3 t4 t5 t6 t7 t8 b c n e k bl wt w hB hn hd hl
          · cases bl
            · rw [show Dr.stepG t6 t7 _ k false wt = (⟨3, Dr.more b, n, d, e⟩, 4) by simp [Dr.stepG, hn, hd, hl]]
              exact step_c11 t0 t1 t2 t3 t4 t5 t6 t7 t8 b c n d e k wt w hB hn hd hl
            · rw [show Dr.stepG t6 t7 _ k true wt = (⟨1, 0, n, d, Dr.more e⟩, 3) by simp [Dr.stepG, hn, hd, hl]]
              exact step_c10 t0 t1 t2 t3 t4 t5 t6 t7 t8 b c n d e k wt w hB hn hd hl
  · have hs : Dr.stepF t6 t7 ⟨a, b, c, d, e⟩ k bl wt = (if wt = true then (⟨1, 0, 0, false, 0⟩, 3) else (Dr.zero, 0)) := by unfold Dr.stepF; rw [if_neg hB]; simp [Dr.stepG, Dr.zero]
    have := step_no t0 t1 t2 t3 t4 t5 t6 t7 t8 a b c d e k bl wt w (Bool.eq_false_iff.2 hB)
    rw [hs]
    cases wt <;> exact this
end Go.Proofs.YtnjcegkefjdgdaaDoor
