/- Stage 11 where the arguments are not proper: both sides. No statement of the seat is proved here. -/
import Derived.Test.YteniimbcbjbegaaDoorCvRefE
namespace Go.Proofs.YteniimbcbjbegaaDoor
open Go.RowKit Ghost

set_option maxHeartbeats 4000000 in
theorem refSpentBad_any (F f d o : Int) (s : Stp) (w : World) (hp : proper F f d o = false) :
    Calls Tryd.prog 20 #[.int .i64 F, .agg #[.int .i64 d, .int .i64 o], .int .i64 f, s.agg] w fun ee w' => ee = .returned (Stp.zero.agg) ∧ Below w.heap.size w w' := by
  have FI := Lib.hid (fun wx => refIsSweep_any d o wx)
  obtain ⟨s1, s2, s3⟩ := s
  simp only [Stp.agg, Stp.zero, Cs.empty, Cv.moveC, Cv.Ch.agg] at *
  by_cases g1 : F < 2
  · clear hp
    have HB0 := Lib.hid (bxs3 w (.cells #[.int .i64 d, .int .i64 o] 23) (.cells #[.int .u32 s1, .int .u32 s2, .int .u32 s3] 30) (.cells #[.int .u32 0, .int .u32 0, .int .u32 0] 30))
    go_enter Tryd.func20, Tryd.ntmps20
    go_wp2_with (with_reducible show wpList _ _ _ (Oper.mk _ (.store 30 _ _) _ _ _ _ :: _) _ _; refine Hid.out ?_)
    refine Lib.hid ?_
    refine wpList_put rfl 30 _ _ rfl (w.heap.size + 2) #[.int .u32 0, .int .u32 0, .int .u32 0] _ 30 rfl rfl HB0.out.r2 (by kernel_rfl) rfl (by kernel_rfl) ?_
    intro w1 hr1 hg1
    have HB1 : Hid (Bx w [(w.heap.size, .cells #[.int .i64 d, .int .i64 o] 23 (0, 0)), (w.heap.size + 1, .cells #[.int .u32 s1, .int .u32 s2, .int .u32 s3] 30 (0, 0)), (w.heap.size + 2, .cells #[.int .u32 0, .int .u32 0, .int .u32 0] 30 (0, 0))] w1) := Lib.hid (HB0.out.put (by omega) hg1.out hr1.out (by simp only [List.mem_cons, List.not_mem_nil, or_false]; rintro p (rfl | rfl | rfl) <;> simp <;> omega))
    clear hr1 hg1 HB0
    go_wp2_with fail
    exact bodyPost_ret (results_cell_row Tryd.results20 _ _ _ _ _ (0, 0) _ rfl (HB1.out.r2) Tryd.underlying30 rfl (by kernel_rfl)) rfl (⟨rfl, HB1.out.below⟩)
  · by_cases g2 : 32 < F
    · clear hp
      have g5 : decide (F > 32) = true := decide_eq_true g2
      have HB0 := Lib.hid (bxs3 w (.cells #[.int .i64 d, .int .i64 o] 23) (.cells #[.int .u32 s1, .int .u32 s2, .int .u32 s3] 30) (.cells #[.int .u32 0, .int .u32 0, .int .u32 0] 30))
      go_enter Tryd.func20, Tryd.ntmps20
      go_wp2_with (with_reducible show wpList _ _ _ (Oper.mk _ (.store 30 _ _) _ _ _ _ :: _) _ _; refine Hid.out ?_)
      refine Lib.hid ?_
      refine wpList_put rfl 30 _ _ rfl (w.heap.size + 2) #[.int .u32 0, .int .u32 0, .int .u32 0] _ 30 rfl rfl HB0.out.r2 (by kernel_rfl) rfl (by kernel_rfl) ?_
      intro w1 hr1 hg1
      have HB1 : Hid (Bx w [(w.heap.size, .cells #[.int .i64 d, .int .i64 o] 23 (0, 0)), (w.heap.size + 1, .cells #[.int .u32 s1, .int .u32 s2, .int .u32 s3] 30 (0, 0)), (w.heap.size + 2, .cells #[.int .u32 0, .int .u32 0, .int .u32 0] 30 (0, 0))] w1) := Lib.hid (HB0.out.put (by omega) hg1.out hr1.out (by simp only [List.mem_cons, List.not_mem_nil, or_false]; rintro p (rfl | rfl | rfl) <;> simp <;> omega))
      clear hr1 hg1 HB0
      go_wp2_with fail
      exact bodyPost_ret (results_cell_row Tryd.results20 _ _ _ _ _ (0, 0) _ rfl (HB1.out.r2) Tryd.underlying30 rfl (by kernel_rfl)) rfl (⟨rfl, HB1.out.below⟩)
    · have g5 : decide (F > 32) = false := decide_eq_false g2
      by_cases g3 : f < 0
      · clear hp
        have HB0 := Lib.hid (bxs3 w (.cells #[.int .i64 d, .int .i64 o] 23) (.cells #[.int .u32 s1, .int .u32 s2, .int .u32 s3] 30) (.cells #[.int .u32 0, .int .u32 0, .int .u32 0] 30))
        go_enter Tryd.func20, Tryd.ntmps20
        go_wp2_with (with_reducible show wpList _ _ _ (Oper.mk _ (.store 30 _ _) _ _ _ _ :: _) _ _; refine Hid.out ?_)
        refine Lib.hid ?_
        refine wpList_put rfl 30 _ _ rfl (w.heap.size + 2) #[.int .u32 0, .int .u32 0, .int .u32 0] _ 30 rfl rfl HB0.out.r2 (by kernel_rfl) rfl (by kernel_rfl) ?_
        intro w1 hr1 hg1
        have HB1 : Hid (Bx w [(w.heap.size, .cells #[.int .i64 d, .int .i64 o] 23 (0, 0)), (w.heap.size + 1, .cells #[.int .u32 s1, .int .u32 s2, .int .u32 s3] 30 (0, 0)), (w.heap.size + 2, .cells #[.int .u32 0, .int .u32 0, .int .u32 0] 30 (0, 0))] w1) := Lib.hid (HB0.out.put (by omega) hg1.out hr1.out (by simp only [List.mem_cons, List.not_mem_nil, or_false]; rintro p (rfl | rfl | rfl) <;> simp <;> omega))
        clear hr1 hg1 HB0
        go_wp2_with fail
        exact bodyPost_ret (results_cell_row Tryd.results20 _ _ _ _ _ (0, 0) _ rfl (HB1.out.r2) Tryd.underlying30 rfl (by kernel_rfl)) rfl (⟨rfl, HB1.out.below⟩)
      · by_cases g4 : F ≤ f
        · clear hp
          have g6 : decide (f ≥ F) = true := decide_eq_true g4
          have HB0 := Lib.hid (bxs3 w (.cells #[.int .i64 d, .int .i64 o] 23) (.cells #[.int .u32 s1, .int .u32 s2, .int .u32 s3] 30) (.cells #[.int .u32 0, .int .u32 0, .int .u32 0] 30))
          go_enter Tryd.func20, Tryd.ntmps20
          go_wp2_with (with_reducible show wpList _ _ _ (Oper.mk _ (.store 30 _ _) _ _ _ _ :: _) _ _; refine Hid.out ?_)
          refine Lib.hid ?_
          refine wpList_put rfl 30 _ _ rfl (w.heap.size + 2) #[.int .u32 0, .int .u32 0, .int .u32 0] _ 30 rfl rfl HB0.out.r2 (by kernel_rfl) rfl (by kernel_rfl) ?_
          intro w1 hr1 hg1
          have HB1 : Hid (Bx w [(w.heap.size, .cells #[.int .i64 d, .int .i64 o] 23 (0, 0)), (w.heap.size + 1, .cells #[.int .u32 s1, .int .u32 s2, .int .u32 s3] 30 (0, 0)), (w.heap.size + 2, .cells #[.int .u32 0, .int .u32 0, .int .u32 0] 30 (0, 0))] w1) := Lib.hid (HB0.out.put (by omega) hg1.out hr1.out (by simp only [List.mem_cons, List.not_mem_nil, or_false]; rintro p (rfl | rfl | rfl) <;> simp <;> omega))
          clear hr1 hg1 HB0
          go_wp2_with fail
          exact bodyPost_ret (results_cell_row Tryd.results20 _ _ _ _ _ (0, 0) _ rfl (HB1.out.r2) Tryd.underlying30 rfl (by kernel_rfl)) rfl (⟨rfl, HB1.out.below⟩)
        · have g6 : decide (f ≥ F) = false := decide_eq_false g4
          have hsw : isSw d o = false := by
            unfold proper at hp
            rw [show decide (2 ≤ F) = true from decide_eq_true (by omega), show decide (F ≤ 32) = true from decide_eq_true (by omega), show decide (0 ≤ f) = true from decide_eq_true (by omega), show decide (f ≤ F - 1) = true from decide_eq_true (by omega)] at hp
            simpa using hp
          rw [hsw] at FI
          clear hp hsw
          have HB0 := Lib.hid (bxs3 w (.cells #[.int .i64 d, .int .i64 o] 23) (.cells #[.int .u32 s1, .int .u32 s2, .int .u32 s3] 30) (.cells #[.int .u32 0, .int .u32 0, .int .u32 0] 30))
          go_enter Tryd.func20, Tryd.ntmps20
          go_wp2_with fail
          refine (FI.out _).mono ?_
          rintro e w1 ⟨rfl, hb1⟩
          have HB1 := Lib.hid (HB0.out.next hb1)
          clear hb1 HB0
          go_wp2_with (with_reducible show wpList _ _ _ (Oper.mk _ (.store 30 _ _) _ _ _ _ :: _) _ _; refine Hid.out ?_)
          refine Lib.hid ?_
          refine wpList_put rfl 30 _ _ rfl (w.heap.size + 2) #[.int .u32 0, .int .u32 0, .int .u32 0] _ 30 rfl rfl HB1.out.r2 (by kernel_rfl) rfl (by kernel_rfl) ?_
          intro w2 hr2 hg2
          have HB2 : Hid (Bx w [(w.heap.size, .cells #[.int .i64 d, .int .i64 o] 23 (0, 0)), (w.heap.size + 1, .cells #[.int .u32 s1, .int .u32 s2, .int .u32 s3] 30 (0, 0)), (w.heap.size + 2, .cells #[.int .u32 0, .int .u32 0, .int .u32 0] 30 (0, 0))] w2) := Lib.hid (HB1.out.put (by omega) hg2.out hr2.out (by simp only [List.mem_cons, List.not_mem_nil, or_false]; rintro p (rfl | rfl | rfl) <;> simp <;> omega))
          clear hr2 hg2 HB1
          go_wp2_with fail
          exact bodyPost_ret (results_cell_row Tryd.results20 _ _ _ _ _ (0, 0) _ rfl (HB2.out.r2) Tryd.underlying30 rfl (by kernel_rfl)) rfl (⟨rfl, HB2.out.below⟩)
set_option maxHeartbeats 4000000 in
theorem refChooseBad_any (F f d o : Int) (s : Stp) (w : World) (hp : proper F f d o = false) :
    Calls Tryd.prog 17 #[.int .i64 F, .agg #[.int .i64 d, .int .i64 o], .int .i64 f, s.agg] w fun ee w' => ee = .returned ((Cv.moveC 0).agg) ∧ Below w.heap.size w w' := by
  have FI := Lib.hid (fun wx => refIsSweep_any d o wx)
  obtain ⟨s1, s2, s3⟩ := s
  simp only [Stp.agg, Stp.zero, Cs.empty, Cv.moveC, Cv.Ch.agg] at *
  by_cases g1 : F < 2
  · clear hp
    have HB0 := Lib.hid (bxs3 w (.cells #[.int .i64 d, .int .i64 o] 23) (.cells #[.int .u32 s1, .int .u32 s2, .int .u32 s3] 30) (.cells #[.int .i64 0, .int .i64 0, .int .i64 0] 38))
    go_enter Tryd.func17, Tryd.ntmps17
    go_wp2_with (with_reducible show wpList _ _ _ (Oper.mk _ (.store 38 _ _) _ _ _ _ :: _) _ _; refine Hid.out ?_)
    refine Lib.hid ?_
    refine wpList_put rfl 38 _ _ rfl (w.heap.size + 2) #[.int .i64 0, .int .i64 0, .int .i64 0] _ 38 rfl rfl HB0.out.r2 (by kernel_rfl) rfl (by kernel_rfl) ?_
    intro w1 hr1 hg1
    have HB1 : Hid (Bx w [(w.heap.size, .cells #[.int .i64 d, .int .i64 o] 23 (0, 0)), (w.heap.size + 1, .cells #[.int .u32 s1, .int .u32 s2, .int .u32 s3] 30 (0, 0)), (w.heap.size + 2, .cells #[.int .i64 0, .int .i64 0, .int .i64 0] 38 (0, 0))] w1) := Lib.hid (HB0.out.put (by omega) hg1.out hr1.out (by simp only [List.mem_cons, List.not_mem_nil, or_false]; rintro p (rfl | rfl | rfl) <;> simp <;> omega))
    clear hr1 hg1 HB0
    go_wp2_with fail
    exact bodyPost_ret (results_cell_row Tryd.results17 _ _ _ _ _ (0, 0) _ rfl (HB1.out.r2) Tryd.underlying38 rfl (by kernel_rfl)) rfl (⟨rfl, HB1.out.below⟩)
  · by_cases g2 : 32 < F
    · clear hp
      have g5 : decide (F > 32) = true := decide_eq_true g2
      have HB0 := Lib.hid (bxs3 w (.cells #[.int .i64 d, .int .i64 o] 23) (.cells #[.int .u32 s1, .int .u32 s2, .int .u32 s3] 30) (.cells #[.int .i64 0, .int .i64 0, .int .i64 0] 38))
      go_enter Tryd.func17, Tryd.ntmps17
      go_wp2_with (with_reducible show wpList _ _ _ (Oper.mk _ (.store 38 _ _) _ _ _ _ :: _) _ _; refine Hid.out ?_)
      refine Lib.hid ?_
      refine wpList_put rfl 38 _ _ rfl (w.heap.size + 2) #[.int .i64 0, .int .i64 0, .int .i64 0] _ 38 rfl rfl HB0.out.r2 (by kernel_rfl) rfl (by kernel_rfl) ?_
      intro w1 hr1 hg1
      have HB1 : Hid (Bx w [(w.heap.size, .cells #[.int .i64 d, .int .i64 o] 23 (0, 0)), (w.heap.size + 1, .cells #[.int .u32 s1, .int .u32 s2, .int .u32 s3] 30 (0, 0)), (w.heap.size + 2, .cells #[.int .i64 0, .int .i64 0, .int .i64 0] 38 (0, 0))] w1) := Lib.hid (HB0.out.put (by omega) hg1.out hr1.out (by simp only [List.mem_cons, List.not_mem_nil, or_false]; rintro p (rfl | rfl | rfl) <;> simp <;> omega))
      clear hr1 hg1 HB0
      go_wp2_with fail
      exact bodyPost_ret (results_cell_row Tryd.results17 _ _ _ _ _ (0, 0) _ rfl (HB1.out.r2) Tryd.underlying38 rfl (by kernel_rfl)) rfl (⟨rfl, HB1.out.below⟩)
    · have g5 : decide (F > 32) = false := decide_eq_false g2
      by_cases g3 : f < 0
      · clear hp
        have HB0 := Lib.hid (bxs3 w (.cells #[.int .i64 d, .int .i64 o] 23) (.cells #[.int .u32 s1, .int .u32 s2, .int .u32 s3] 30) (.cells #[.int .i64 0, .int .i64 0, .int .i64 0] 38))
        go_enter Tryd.func17, Tryd.ntmps17
        go_wp2_with (with_reducible show wpList _ _ _ (Oper.mk _ (.store 38 _ _) _ _ _ _ :: _) _ _; refine Hid.out ?_)
        refine Lib.hid ?_
        refine wpList_put rfl 38 _ _ rfl (w.heap.size + 2) #[.int .i64 0, .int .i64 0, .int .i64 0] _ 38 rfl rfl HB0.out.r2 (by kernel_rfl) rfl (by kernel_rfl) ?_
        intro w1 hr1 hg1
        have HB1 : Hid (Bx w [(w.heap.size, .cells #[.int .i64 d, .int .i64 o] 23 (0, 0)), (w.heap.size + 1, .cells #[.int .u32 s1, .int .u32 s2, .int .u32 s3] 30 (0, 0)), (w.heap.size + 2, .cells #[.int .i64 0, .int .i64 0, .int .i64 0] 38 (0, 0))] w1) := Lib.hid (HB0.out.put (by omega) hg1.out hr1.out (by simp only [List.mem_cons, List.not_mem_nil, or_false]; rintro p (rfl | rfl | rfl) <;> simp <;> omega))
        clear hr1 hg1 HB0
        go_wp2_with fail
        exact bodyPost_ret (results_cell_row Tryd.results17 _ _ _ _ _ (0, 0) _ rfl (HB1.out.r2) Tryd.underlying38 rfl (by kernel_rfl)) rfl (⟨rfl, HB1.out.below⟩)
      · by_cases g4 : F ≤ f
        · clear hp
          have g6 : decide (f ≥ F) = true := decide_eq_true g4
          have HB0 := Lib.hid (bxs3 w (.cells #[.int .i64 d, .int .i64 o] 23) (.cells #[.int .u32 s1, .int .u32 s2, .int .u32 s3] 30) (.cells #[.int .i64 0, .int .i64 0, .int .i64 0] 38))
          go_enter Tryd.func17, Tryd.ntmps17
          go_wp2_with (with_reducible show wpList _ _ _ (Oper.mk _ (.store 38 _ _) _ _ _ _ :: _) _ _; refine Hid.out ?_)
          refine Lib.hid ?_
          refine wpList_put rfl 38 _ _ rfl (w.heap.size + 2) #[.int .i64 0, .int .i64 0, .int .i64 0] _ 38 rfl rfl HB0.out.r2 (by kernel_rfl) rfl (by kernel_rfl) ?_
          intro w1 hr1 hg1
          have HB1 : Hid (Bx w [(w.heap.size, .cells #[.int .i64 d, .int .i64 o] 23 (0, 0)), (w.heap.size + 1, .cells #[.int .u32 s1, .int .u32 s2, .int .u32 s3] 30 (0, 0)), (w.heap.size + 2, .cells #[.int .i64 0, .int .i64 0, .int .i64 0] 38 (0, 0))] w1) := Lib.hid (HB0.out.put (by omega) hg1.out hr1.out (by simp only [List.mem_cons, List.not_mem_nil, or_false]; rintro p (rfl | rfl | rfl) <;> simp <;> omega))
          clear hr1 hg1 HB0
          go_wp2_with fail
          exact bodyPost_ret (results_cell_row Tryd.results17 _ _ _ _ _ (0, 0) _ rfl (HB1.out.r2) Tryd.underlying38 rfl (by kernel_rfl)) rfl (⟨rfl, HB1.out.below⟩)
        · have g6 : decide (f ≥ F) = false := decide_eq_false g4
          have hsw : isSw d o = false := by
            unfold proper at hp
            rw [show decide (2 ≤ F) = true from decide_eq_true (by omega), show decide (F ≤ 32) = true from decide_eq_true (by omega), show decide (0 ≤ f) = true from decide_eq_true (by omega), show decide (f ≤ F - 1) = true from decide_eq_true (by omega)] at hp
            simpa using hp
          rw [hsw] at FI
          clear hp hsw
          have HB0 := Lib.hid (bxs3 w (.cells #[.int .i64 d, .int .i64 o] 23) (.cells #[.int .u32 s1, .int .u32 s2, .int .u32 s3] 30) (.cells #[.int .i64 0, .int .i64 0, .int .i64 0] 38))
          go_enter Tryd.func17, Tryd.ntmps17
          go_wp2_with fail
          refine (FI.out _).mono ?_
          rintro e w1 ⟨rfl, hb1⟩
          have HB1 := Lib.hid (HB0.out.next hb1)
          clear hb1 HB0
          go_wp2_with (with_reducible show wpList _ _ _ (Oper.mk _ (.store 38 _ _) _ _ _ _ :: _) _ _; refine Hid.out ?_)
          refine Lib.hid ?_
          refine wpList_put rfl 38 _ _ rfl (w.heap.size + 2) #[.int .i64 0, .int .i64 0, .int .i64 0] _ 38 rfl rfl HB1.out.r2 (by kernel_rfl) rfl (by kernel_rfl) ?_
          intro w2 hr2 hg2
          have HB2 : Hid (Bx w [(w.heap.size, .cells #[.int .i64 d, .int .i64 o] 23 (0, 0)), (w.heap.size + 1, .cells #[.int .u32 s1, .int .u32 s2, .int .u32 s3] 30 (0, 0)), (w.heap.size + 2, .cells #[.int .i64 0, .int .i64 0, .int .i64 0] 38 (0, 0))] w2) := Lib.hid (HB1.out.put (by omega) hg2.out hr2.out (by simp only [List.mem_cons, List.not_mem_nil, or_false]; rintro p (rfl | rfl | rfl) <;> simp <;> omega))
          clear hr2 hg2 HB1
          go_wp2_with fail
          exact bodyPost_ret (results_cell_row Tryd.results17 _ _ _ _ _ (0, 0) _ rfl (HB2.out.r2) Tryd.underlying38 rfl (by kernel_rfl)) rfl (⟨rfl, HB2.out.below⟩)
set_option maxHeartbeats 4000000 in
theorem refNextBad_any (F f d o : Int) (s : Stp) (w : World) (hp : proper F f d o = false) :
    Calls Tryd.prog 18 #[.int .i64 F, .agg #[.int .i64 d, .int .i64 o], .int .i64 f, s.agg] w fun ee w' => ee = .returned (.agg #[.int .i64 0, .int .i64 0]) ∧ Below w.heap.size w w' := by
  have FI := Lib.hid (fun wx => refIsSweep_any d o wx)
  obtain ⟨s1, s2, s3⟩ := s
  simp only [Stp.agg, Stp.zero, Cs.empty, Cv.moveC, Cv.Ch.agg] at *
  by_cases g1 : F < 2
  · clear hp
    have HB0 := Lib.hid (bxs3 w (.cells #[.int .i64 d, .int .i64 o] 23) (.cells #[.int .u32 s1, .int .u32 s2, .int .u32 s3] 30) (.cells #[.int .i64 0, .int .i64 0] 23))
    go_enter Tryd.func18, Tryd.ntmps18
    go_wp2_with (with_reducible show wpList _ _ _ (Oper.mk _ (.store 23 _ _) _ _ _ _ :: _) _ _; refine Hid.out ?_)
    refine Lib.hid ?_
    refine wpList_put rfl 23 _ _ rfl (w.heap.size + 2) #[.int .i64 0, .int .i64 0] _ 23 rfl rfl HB0.out.r2 (by kernel_rfl) rfl (by kernel_rfl) ?_
    intro w1 hr1 hg1
    have HB1 : Hid (Bx w [(w.heap.size, .cells #[.int .i64 d, .int .i64 o] 23 (0, 0)), (w.heap.size + 1, .cells #[.int .u32 s1, .int .u32 s2, .int .u32 s3] 30 (0, 0)), (w.heap.size + 2, .cells #[.int .i64 0, .int .i64 0] 23 (0, 0))] w1) := Lib.hid (HB0.out.put (by omega) hg1.out hr1.out (by simp only [List.mem_cons, List.not_mem_nil, or_false]; rintro p (rfl | rfl | rfl) <;> simp <;> omega))
    clear hr1 hg1 HB0
    go_wp2_with fail
    exact bodyPost_ret (results_cell_row Tryd.results18 _ _ _ _ _ (0, 0) _ rfl (HB1.out.r2) Tryd.underlying23 rfl (by kernel_rfl)) rfl (⟨rfl, HB1.out.below⟩)
  · by_cases g2 : 32 < F
    · clear hp
      have g5 : decide (F > 32) = true := decide_eq_true g2
      have HB0 := Lib.hid (bxs3 w (.cells #[.int .i64 d, .int .i64 o] 23) (.cells #[.int .u32 s1, .int .u32 s2, .int .u32 s3] 30) (.cells #[.int .i64 0, .int .i64 0] 23))
      go_enter Tryd.func18, Tryd.ntmps18
      go_wp2_with (with_reducible show wpList _ _ _ (Oper.mk _ (.store 23 _ _) _ _ _ _ :: _) _ _; refine Hid.out ?_)
      refine Lib.hid ?_
      refine wpList_put rfl 23 _ _ rfl (w.heap.size + 2) #[.int .i64 0, .int .i64 0] _ 23 rfl rfl HB0.out.r2 (by kernel_rfl) rfl (by kernel_rfl) ?_
      intro w1 hr1 hg1
      have HB1 : Hid (Bx w [(w.heap.size, .cells #[.int .i64 d, .int .i64 o] 23 (0, 0)), (w.heap.size + 1, .cells #[.int .u32 s1, .int .u32 s2, .int .u32 s3] 30 (0, 0)), (w.heap.size + 2, .cells #[.int .i64 0, .int .i64 0] 23 (0, 0))] w1) := Lib.hid (HB0.out.put (by omega) hg1.out hr1.out (by simp only [List.mem_cons, List.not_mem_nil, or_false]; rintro p (rfl | rfl | rfl) <;> simp <;> omega))
      clear hr1 hg1 HB0
      go_wp2_with fail
      exact bodyPost_ret (results_cell_row Tryd.results18 _ _ _ _ _ (0, 0) _ rfl (HB1.out.r2) Tryd.underlying23 rfl (by kernel_rfl)) rfl (⟨rfl, HB1.out.below⟩)
    · have g5 : decide (F > 32) = false := decide_eq_false g2
      by_cases g3 : f < 0
      · clear hp
        have HB0 := Lib.hid (bxs3 w (.cells #[.int .i64 d, .int .i64 o] 23) (.cells #[.int .u32 s1, .int .u32 s2, .int .u32 s3] 30) (.cells #[.int .i64 0, .int .i64 0] 23))
        go_enter Tryd.func18, Tryd.ntmps18
        go_wp2_with (with_reducible show wpList _ _ _ (Oper.mk _ (.store 23 _ _) _ _ _ _ :: _) _ _; refine Hid.out ?_)
        refine Lib.hid ?_
        refine wpList_put rfl 23 _ _ rfl (w.heap.size + 2) #[.int .i64 0, .int .i64 0] _ 23 rfl rfl HB0.out.r2 (by kernel_rfl) rfl (by kernel_rfl) ?_
        intro w1 hr1 hg1
        have HB1 : Hid (Bx w [(w.heap.size, .cells #[.int .i64 d, .int .i64 o] 23 (0, 0)), (w.heap.size + 1, .cells #[.int .u32 s1, .int .u32 s2, .int .u32 s3] 30 (0, 0)), (w.heap.size + 2, .cells #[.int .i64 0, .int .i64 0] 23 (0, 0))] w1) := Lib.hid (HB0.out.put (by omega) hg1.out hr1.out (by simp only [List.mem_cons, List.not_mem_nil, or_false]; rintro p (rfl | rfl | rfl) <;> simp <;> omega))
        clear hr1 hg1 HB0
        go_wp2_with fail
        exact bodyPost_ret (results_cell_row Tryd.results18 _ _ _ _ _ (0, 0) _ rfl (HB1.out.r2) Tryd.underlying23 rfl (by kernel_rfl)) rfl (⟨rfl, HB1.out.below⟩)
      · by_cases g4 : F ≤ f
        · clear hp
          have g6 : decide (f ≥ F) = true := decide_eq_true g4
          have HB0 := Lib.hid (bxs3 w (.cells #[.int .i64 d, .int .i64 o] 23) (.cells #[.int .u32 s1, .int .u32 s2, .int .u32 s3] 30) (.cells #[.int .i64 0, .int .i64 0] 23))
          go_enter Tryd.func18, Tryd.ntmps18
          go_wp2_with (with_reducible show wpList _ _ _ (Oper.mk _ (.store 23 _ _) _ _ _ _ :: _) _ _; refine Hid.out ?_)
          refine Lib.hid ?_
          refine wpList_put rfl 23 _ _ rfl (w.heap.size + 2) #[.int .i64 0, .int .i64 0] _ 23 rfl rfl HB0.out.r2 (by kernel_rfl) rfl (by kernel_rfl) ?_
          intro w1 hr1 hg1
          have HB1 : Hid (Bx w [(w.heap.size, .cells #[.int .i64 d, .int .i64 o] 23 (0, 0)), (w.heap.size + 1, .cells #[.int .u32 s1, .int .u32 s2, .int .u32 s3] 30 (0, 0)), (w.heap.size + 2, .cells #[.int .i64 0, .int .i64 0] 23 (0, 0))] w1) := Lib.hid (HB0.out.put (by omega) hg1.out hr1.out (by simp only [List.mem_cons, List.not_mem_nil, or_false]; rintro p (rfl | rfl | rfl) <;> simp <;> omega))
          clear hr1 hg1 HB0
          go_wp2_with fail
          exact bodyPost_ret (results_cell_row Tryd.results18 _ _ _ _ _ (0, 0) _ rfl (HB1.out.r2) Tryd.underlying23 rfl (by kernel_rfl)) rfl (⟨rfl, HB1.out.below⟩)
        · have g6 : decide (f ≥ F) = false := decide_eq_false g4
          have hsw : isSw d o = false := by
            unfold proper at hp
            rw [show decide (2 ≤ F) = true from decide_eq_true (by omega), show decide (F ≤ 32) = true from decide_eq_true (by omega), show decide (0 ≤ f) = true from decide_eq_true (by omega), show decide (f ≤ F - 1) = true from decide_eq_true (by omega)] at hp
            simpa using hp
          rw [hsw] at FI
          clear hp hsw
          have HB0 := Lib.hid (bxs3 w (.cells #[.int .i64 d, .int .i64 o] 23) (.cells #[.int .u32 s1, .int .u32 s2, .int .u32 s3] 30) (.cells #[.int .i64 0, .int .i64 0] 23))
          go_enter Tryd.func18, Tryd.ntmps18
          go_wp2_with fail
          refine (FI.out _).mono ?_
          rintro e w1 ⟨rfl, hb1⟩
          have HB1 := Lib.hid (HB0.out.next hb1)
          clear hb1 HB0
          go_wp2_with (with_reducible show wpList _ _ _ (Oper.mk _ (.store 23 _ _) _ _ _ _ :: _) _ _; refine Hid.out ?_)
          refine Lib.hid ?_
          refine wpList_put rfl 23 _ _ rfl (w.heap.size + 2) #[.int .i64 0, .int .i64 0] _ 23 rfl rfl HB1.out.r2 (by kernel_rfl) rfl (by kernel_rfl) ?_
          intro w2 hr2 hg2
          have HB2 : Hid (Bx w [(w.heap.size, .cells #[.int .i64 d, .int .i64 o] 23 (0, 0)), (w.heap.size + 1, .cells #[.int .u32 s1, .int .u32 s2, .int .u32 s3] 30 (0, 0)), (w.heap.size + 2, .cells #[.int .i64 0, .int .i64 0] 23 (0, 0))] w2) := Lib.hid (HB1.out.put (by omega) hg2.out hr2.out (by simp only [List.mem_cons, List.not_mem_nil, or_false]; rintro p (rfl | rfl | rfl) <;> simp <;> omega))
          clear hr2 hg2 HB1
          go_wp2_with fail
          exact bodyPost_ret (results_cell_row Tryd.results18 _ _ _ _ _ (0, 0) _ rfl (HB2.out.r2) Tryd.underlying23 rfl (by kernel_rfl)) rfl (⟨rfl, HB2.out.below⟩)
set_option maxHeartbeats 4000000 in
theorem lookBad_any (F f d o : Int) (s : Stp) (w : World) (hp : proper F f d o = false) :
    Calls Tryd.prog 23 #[.int .i64 F, .agg #[.int .i64 d, .int .i64 o], .int .i64 f, s.agg] w fun ee w' => ee = .returned (.tuple #[.agg #[.int .i64 0, .int .u32 0, .int .u32 0, .int .u32 0, .bool false, .bool false, .bool false, .int .u32 0, .int .u32 0], .bool false]) ∧ Below w.heap.size w w' := by
  have F1 := Lib.hid (fun wx => within_any 2 32 F wx)
  have F3 := Lib.hid (fun wx => isSweep_any d o wx)
  have hpr : ((decide (2 ≤ F) && decide (F ≤ 32)) && ((decide (0 ≤ f) && decide (f ≤ F - 1)) && isSw d o)) = false := hp
  clear hp
  obtain ⟨s1, s2, s3⟩ := s
  simp only [Stp.agg] at *
  cases h1 : (decide (2 ≤ F) && decide (F ≤ 32))
  · rw [h1] at F1
    clear h1 hpr
    have HB0 := Lib.hid (bxs3 w (.cells #[.int .i64 d, .int .i64 o] 23) (.cells #[.int .u32 s1, .int .u32 s2, .int .u32 s3] 30) (.cells #[.int .i64 0, .int .u32 0, .int .u32 0, .int .u32 0, .bool false, .bool false, .bool false, .int .u32 0, .int .u32 0] 53))
    go_enter Tryd.func23, Tryd.ntmps23
    go_wp2_with fail
    refine (F1.out _).mono ?_
    rintro e w1 ⟨rfl, hw1⟩
    subst hw1
    go_wp2_with (with_reducible show wpList _ _ _ (Oper.mk _ (.store 53 _ _) _ _ _ _ :: _) _ _; refine Hid.out ?_)
    refine Lib.hid ?_
    refine wpList_put rfl 53 _ _ rfl (w.heap.size + 2) #[.int .i64 0, .int .u32 0, .int .u32 0, .int .u32 0, .bool false, .bool false, .bool false, .int .u32 0, .int .u32 0] _ 53 rfl rfl HB0.out.r2 (by kernel_rfl) rfl (by kernel_rfl) ?_
    intro w1 hr1 hg1
    have HB1 : Hid (Bx w [(w.heap.size, .cells #[.int .i64 d, .int .i64 o] 23 (0, 0)), (w.heap.size + 1, .cells #[.int .u32 s1, .int .u32 s2, .int .u32 s3] 30 (0, 0)), (w.heap.size + 2, .cells #[.int .i64 0, .int .u32 0, .int .u32 0, .int .u32 0, .bool false, .bool false, .bool false, .int .u32 0, .int .u32 0] 53 (0, 0))] w1) := Lib.hid (HB0.out.put (by omega) hg1.out hr1.out (by simp only [List.mem_cons, List.not_mem_nil, or_false]; rintro p (rfl | rfl | rfl) <;> simp <;> omega))
    clear hr1 hg1 HB0
    go_wp2_with fail
    exact bodyPost_ret (results_row_tmp Tryd.results23 _ _ _ _ _ (0, 0) _ rfl HB1.out.r2 Tryd.underlying53 rfl (by kernel_rfl)) rfl (⟨rfl, HB1.out.below⟩)
  · have hF : 2 ≤ F ∧ F ≤ 32 := by simpa using h1
    have hFw : IntKind.i64.wrap (F - 1) = F - 1 := by rw [IntKind.wrap_i64]; omega
    have F2 := Lib.hid (fun wx => within_any 0 (F - 1) f wx)
    rw [h1] at F1 hpr
    clear h1
    cases h2 : (decide (0 ≤ f) && decide (f ≤ F - 1))
    · rw [h2] at F2
      clear h2 hpr
      have HB0 := Lib.hid (bxs3 w (.cells #[.int .i64 d, .int .i64 o] 23) (.cells #[.int .u32 s1, .int .u32 s2, .int .u32 s3] 30) (.cells #[.int .i64 0, .int .u32 0, .int .u32 0, .int .u32 0, .bool false, .bool false, .bool false, .int .u32 0, .int .u32 0] 53))
      go_enter Tryd.func23, Tryd.ntmps23
      go_wp2_with fail
      refine (F1.out _).mono ?_
      rintro e w1 ⟨rfl, hw1⟩
      subst hw1
      go_wp2_with fail
      refine (F2.out _).mono ?_
      rintro e w2 ⟨rfl, hw2⟩
      subst hw2
      go_wp2_with (with_reducible show wpList _ _ _ (Oper.mk _ (.store 53 _ _) _ _ _ _ :: _) _ _; refine Hid.out ?_)
      refine Lib.hid ?_
      refine wpList_put rfl 53 _ _ rfl (w.heap.size + 2) #[.int .i64 0, .int .u32 0, .int .u32 0, .int .u32 0, .bool false, .bool false, .bool false, .int .u32 0, .int .u32 0] _ 53 rfl rfl HB0.out.r2 (by kernel_rfl) rfl (by kernel_rfl) ?_
      intro w1 hr1 hg1
      have HB1 : Hid (Bx w [(w.heap.size, .cells #[.int .i64 d, .int .i64 o] 23 (0, 0)), (w.heap.size + 1, .cells #[.int .u32 s1, .int .u32 s2, .int .u32 s3] 30 (0, 0)), (w.heap.size + 2, .cells #[.int .i64 0, .int .u32 0, .int .u32 0, .int .u32 0, .bool false, .bool false, .bool false, .int .u32 0, .int .u32 0] 53 (0, 0))] w1) := Lib.hid (HB0.out.put (by omega) hg1.out hr1.out (by simp only [List.mem_cons, List.not_mem_nil, or_false]; rintro p (rfl | rfl | rfl) <;> simp <;> omega))
      clear hr1 hg1 HB0
      go_wp2_with fail
      exact bodyPost_ret (results_row_tmp Tryd.results23 _ _ _ _ _ (0, 0) _ rfl HB1.out.r2 Tryd.underlying53 rfl (by kernel_rfl)) rfl (⟨rfl, HB1.out.below⟩)
    · rw [h2] at F2 hpr
      clear h2
      have hsw : isSw d o = false := by simpa using hpr
      rw [hsw] at F3
      clear hpr hsw
      have HB0 := Lib.hid (bxs3 w (.cells #[.int .i64 d, .int .i64 o] 23) (.cells #[.int .u32 s1, .int .u32 s2, .int .u32 s3] 30) (.cells #[.int .i64 0, .int .u32 0, .int .u32 0, .int .u32 0, .bool false, .bool false, .bool false, .int .u32 0, .int .u32 0] 53))
      go_enter Tryd.func23, Tryd.ntmps23
      go_wp2_with fail
      refine (F1.out _).mono ?_
      rintro e w1 ⟨rfl, hw1⟩
      subst hw1
      go_wp2_with fail
      refine (F2.out _).mono ?_
      rintro e w2 ⟨rfl, hw2⟩
      subst hw2
      go_wp2_with fail
      refine (F3.out _).mono ?_
      rintro e w1 ⟨rfl, hb1⟩
      have HB1 := Lib.hid (HB0.out.next hb1)
      clear hb1 HB0
      go_wp2_with (with_reducible show wpList _ _ _ (Oper.mk _ (.store 53 _ _) _ _ _ _ :: _) _ _; refine Hid.out ?_)
      refine Lib.hid ?_
      refine wpList_put rfl 53 _ _ rfl (w.heap.size + 2) #[.int .i64 0, .int .u32 0, .int .u32 0, .int .u32 0, .bool false, .bool false, .bool false, .int .u32 0, .int .u32 0] _ 53 rfl rfl HB1.out.r2 (by kernel_rfl) rfl (by kernel_rfl) ?_
      intro w2 hr2 hg2
      have HB2 : Hid (Bx w [(w.heap.size, .cells #[.int .i64 d, .int .i64 o] 23 (0, 0)), (w.heap.size + 1, .cells #[.int .u32 s1, .int .u32 s2, .int .u32 s3] 30 (0, 0)), (w.heap.size + 2, .cells #[.int .i64 0, .int .u32 0, .int .u32 0, .int .u32 0, .bool false, .bool false, .bool false, .int .u32 0, .int .u32 0] 53 (0, 0))] w2) := Lib.hid (HB1.out.put (by omega) hg2.out hr2.out (by simp only [List.mem_cons, List.not_mem_nil, or_false]; rintro p (rfl | rfl | rfl) <;> simp <;> omega))
      clear hr2 hg2 HB1
      go_wp2_with fail
      exact bodyPost_ret (results_row_tmp Tryd.results23 _ _ _ _ _ (0, 0) _ rfl HB2.out.r2 Tryd.underlying53 rfl (by kernel_rfl)) rfl (⟨rfl, HB2.out.below⟩)
set_option maxHeartbeats 4000000 in
theorem SpentBad_any (F f d o : Int) (s : Stp) (w : World) (hp : proper F f d o = false) :
    Calls Tryd.prog 19 #[.int .i64 F, .agg #[.int .i64 d, .int .i64 o], .int .i64 f, s.agg] w fun ee w' => ee = .returned (Stp.zero.agg) ∧ Below w.heap.size w w' := by
  have FL := Lib.hid (fun wx => lookBad_any F f d o s wx hp)
  clear hp
  obtain ⟨s1, s2, s3⟩ := s
  simp only [Stp.agg, Stp.zero, Cs.empty, Cv.moveC, Cv.Ch.agg] at *
  have HB0 := Lib.hid (bxs3 w (.cells #[.int .i64 d, .int .i64 o] 23) (.cells #[.int .u32 s1, .int .u32 s2, .int .u32 s3] 30) (.cells #[.int .u32 0, .int .u32 0, .int .u32 0] 30))
  go_enter Tryd.func19, Tryd.ntmps19
  go_wp2_with fail
  refine (FL.out _).mono ?_
  rintro e w1 ⟨rfl, hb1⟩
  have HB1 := Lib.hid (HB0.out.next hb1)
  clear hb1 HB0
  go_wp2_with (with_reducible show wpList _ _ _ (Oper.mk _ (.store 53 _ _) _ _ _ _ :: _) _ _; refine Hid.out ?_)
  refine Lib.hid ?_
  have l2_0 : w.heap.size < w1.heap.size := (Array.getElem?_eq_some_iff.1 HB1.out.r0).1
  have l2_1 : w.heap.size + 1 < w1.heap.size := (Array.getElem?_eq_some_iff.1 HB1.out.r1).1
  have l2_2 : w.heap.size + 2 < w1.heap.size := (Array.getElem?_eq_some_iff.1 HB1.out.r2).1
  have lw2 : w.heap.size ≤ w1.heap.size := HB1.out.below.size
  refine wpList_put rfl 53 _ _ rfl w1.heap.size #[.int .i64 0, .int .u32 0, .int .u32 0, .int .u32 0, .bool false, .bool false, .bool false, .int .u32 0, .int .u32 0] _ 53 rfl rfl (heap_alloc_new w1 _) (by kernel_rfl) rfl (by kernel_rfl) ?_
  intro w2 hr2 hg2
  have HB2 : Hid (Bx w [(w1.heap.size, .cells #[.int .i64 0, .int .u32 0, .int .u32 0, .int .u32 0, .bool false, .bool false, .bool false, .int .u32 0, .int .u32 0] 53 (0, 0)), (w.heap.size, .cells #[.int .i64 d, .int .i64 o] 23 (0, 0)), (w.heap.size + 1, .cells #[.int .u32 s1, .int .u32 s2, .int .u32 s3] 30 (0, 0)), (w.heap.size + 2, .cells #[.int .u32 0, .int .u32 0, .int .u32 0] 30 (0, 0))] w2) := Lib.hid ((HB1.out.make (heap_alloc_new w1 (.cells #[.int .i64 0, .int .u32 0, .int .u32 0, .int .u32 0, .bool false, .bool false, .bool false, .int .u32 0, .int .u32 0] 53)) ((Below.refl w1.heap.size w1).alloc (Nat.le_refl _) _)).put HB1.out.below.size hg2.out hr2.out (by simp only [List.mem_cons, List.not_mem_nil, or_false]; rintro p (rfl | rfl | rfl | rfl) <;> simp <;> omega))
  clear hr2 hg2 HB1
  generalize w1.heap.size = gp at *
  have c0_0 : w2.cell? ⟨gp, 0, none⟩ = some (.int .i64 0) := cell_of_row _ _ _ _ _ (0, 0) HB2.out.r0
  have c0_1 : w2.cell? ⟨gp, 1, none⟩ = some (.int .u32 0) := cell_of_row _ _ _ _ _ (0, 0) HB2.out.r0
  have c0_2 : w2.cell? ⟨gp, 2, none⟩ = some (.int .u32 0) := cell_of_row _ _ _ _ _ (0, 0) HB2.out.r0
  have c0_3 : w2.cell? ⟨gp, 3, none⟩ = some (.int .u32 0) := cell_of_row _ _ _ _ _ (0, 0) HB2.out.r0
  have c0_4 : w2.cell? ⟨gp, 4, none⟩ = some (.bool false) := cell_of_row _ _ _ _ _ (0, 0) HB2.out.r0
  have c0_5 : w2.cell? ⟨gp, 5, none⟩ = some (.bool false) := cell_of_row _ _ _ _ _ (0, 0) HB2.out.r0
  have c0_6 : w2.cell? ⟨gp, 6, none⟩ = some (.bool false) := cell_of_row _ _ _ _ _ (0, 0) HB2.out.r0
  have c0_7 : w2.cell? ⟨gp, 7, none⟩ = some (.int .u32 0) := cell_of_row _ _ _ _ _ (0, 0) HB2.out.r0
  have c0_8 : w2.cell? ⟨gp, 8, none⟩ = some (.int .u32 0) := cell_of_row _ _ _ _ _ (0, 0) HB2.out.r0
  go_wp2_with (with_reducible show wpList _ _ _ (Oper.mk _ (.store 30 _ _) _ _ _ _ :: _) _ _; refine Hid.out ?_)
  refine Lib.hid ?_
  refine wpList_put rfl 30 _ _ rfl (w.heap.size + 2) #[.int .u32 0, .int .u32 0, .int .u32 0] _ 30 rfl rfl HB2.out.r3 (by kernel_rfl) rfl (by kernel_rfl) ?_
  intro w3 hr3 hg3
  have HB3 : Hid (Bx w [(gp, .cells #[.int .i64 0, .int .u32 0, .int .u32 0, .int .u32 0, .bool false, .bool false, .bool false, .int .u32 0, .int .u32 0] 53 (0, 0)), (w.heap.size, .cells #[.int .i64 d, .int .i64 o] 23 (0, 0)), (w.heap.size + 1, .cells #[.int .u32 s1, .int .u32 s2, .int .u32 s3] 30 (0, 0)), (w.heap.size + 2, .cells #[.int .u32 0, .int .u32 0, .int .u32 0] 30 (0, 0))] w3) := Lib.hid (HB2.out.put (by omega) hg3.out hr3.out (by simp only [List.mem_cons, List.not_mem_nil, or_false]; rintro p (rfl | rfl | rfl | rfl) <;> simp <;> omega))
  clear c0_0 c0_1 c0_2 c0_3 c0_4 c0_5 c0_6 c0_7 c0_8 hr3 hg3 HB2
  go_wp2_with fail
  exact bodyPost_ret (results_cell_row Tryd.results19 _ _ _ _ _ (0, 0) _ rfl (HB3.out.r3) Tryd.underlying30 rfl (by kernel_rfl)) rfl (⟨rfl, HB3.out.below⟩)
set_option maxHeartbeats 4000000 in
theorem ChooseBad_any (F f d o : Int) (s : Stp) (w : World) (hp : proper F f d o = false) :
    Calls Tryd.prog 11 #[.int .i64 F, .agg #[.int .i64 d, .int .i64 o], .int .i64 f, s.agg] w fun ee w' => ee = .returned ((Cv.moveC 0).agg) ∧ Below w.heap.size w w' := by
  have FL := Lib.hid (fun wx => lookBad_any F f d o s wx hp)
  clear hp
  obtain ⟨s1, s2, s3⟩ := s
  simp only [Stp.agg, Stp.zero, Cs.empty, Cv.moveC, Cv.Ch.agg] at *
  have HB0 := Lib.hid (bxs3 w (.cells #[.int .i64 d, .int .i64 o] 23) (.cells #[.int .u32 s1, .int .u32 s2, .int .u32 s3] 30) (.cells #[.int .i64 0, .int .i64 0, .int .i64 0] 38))
  go_enter Tryd.func11, Tryd.ntmps11
  go_wp2_with fail
  refine (FL.out _).mono ?_
  rintro e w1 ⟨rfl, hb1⟩
  have HB1 := Lib.hid (HB0.out.next hb1)
  clear hb1 HB0
  go_wp2_with (with_reducible show wpList _ _ _ (Oper.mk _ (.store 53 _ _) _ _ _ _ :: _) _ _; refine Hid.out ?_)
  refine Lib.hid ?_
  have l2_0 : w.heap.size < w1.heap.size := (Array.getElem?_eq_some_iff.1 HB1.out.r0).1
  have l2_1 : w.heap.size + 1 < w1.heap.size := (Array.getElem?_eq_some_iff.1 HB1.out.r1).1
  have l2_2 : w.heap.size + 2 < w1.heap.size := (Array.getElem?_eq_some_iff.1 HB1.out.r2).1
  have lw2 : w.heap.size ≤ w1.heap.size := HB1.out.below.size
  refine wpList_put rfl 53 _ _ rfl w1.heap.size #[.int .i64 0, .int .u32 0, .int .u32 0, .int .u32 0, .bool false, .bool false, .bool false, .int .u32 0, .int .u32 0] _ 53 rfl rfl (heap_alloc_new w1 _) (by kernel_rfl) rfl (by kernel_rfl) ?_
  intro w2 hr2 hg2
  have HB2 : Hid (Bx w [(w1.heap.size, .cells #[.int .i64 0, .int .u32 0, .int .u32 0, .int .u32 0, .bool false, .bool false, .bool false, .int .u32 0, .int .u32 0] 53 (0, 0)), (w.heap.size, .cells #[.int .i64 d, .int .i64 o] 23 (0, 0)), (w.heap.size + 1, .cells #[.int .u32 s1, .int .u32 s2, .int .u32 s3] 30 (0, 0)), (w.heap.size + 2, .cells #[.int .i64 0, .int .i64 0, .int .i64 0] 38 (0, 0))] w2) := Lib.hid ((HB1.out.make (heap_alloc_new w1 (.cells #[.int .i64 0, .int .u32 0, .int .u32 0, .int .u32 0, .bool false, .bool false, .bool false, .int .u32 0, .int .u32 0] 53)) ((Below.refl w1.heap.size w1).alloc (Nat.le_refl _) _)).put HB1.out.below.size hg2.out hr2.out (by simp only [List.mem_cons, List.not_mem_nil, or_false]; rintro p (rfl | rfl | rfl | rfl) <;> simp <;> omega))
  clear hr2 hg2 HB1
  generalize w1.heap.size = gp at *
  have c0_0 : w2.cell? ⟨gp, 0, none⟩ = some (.int .i64 0) := cell_of_row _ _ _ _ _ (0, 0) HB2.out.r0
  have c0_1 : w2.cell? ⟨gp, 1, none⟩ = some (.int .u32 0) := cell_of_row _ _ _ _ _ (0, 0) HB2.out.r0
  have c0_2 : w2.cell? ⟨gp, 2, none⟩ = some (.int .u32 0) := cell_of_row _ _ _ _ _ (0, 0) HB2.out.r0
  have c0_3 : w2.cell? ⟨gp, 3, none⟩ = some (.int .u32 0) := cell_of_row _ _ _ _ _ (0, 0) HB2.out.r0
  have c0_4 : w2.cell? ⟨gp, 4, none⟩ = some (.bool false) := cell_of_row _ _ _ _ _ (0, 0) HB2.out.r0
  have c0_5 : w2.cell? ⟨gp, 5, none⟩ = some (.bool false) := cell_of_row _ _ _ _ _ (0, 0) HB2.out.r0
  have c0_6 : w2.cell? ⟨gp, 6, none⟩ = some (.bool false) := cell_of_row _ _ _ _ _ (0, 0) HB2.out.r0
  have c0_7 : w2.cell? ⟨gp, 7, none⟩ = some (.int .u32 0) := cell_of_row _ _ _ _ _ (0, 0) HB2.out.r0
  have c0_8 : w2.cell? ⟨gp, 8, none⟩ = some (.int .u32 0) := cell_of_row _ _ _ _ _ (0, 0) HB2.out.r0
  go_wp2_with (with_reducible show wpList _ _ _ (Oper.mk _ (.store 38 _ _) _ _ _ _ :: _) _ _; refine Hid.out ?_)
  refine Lib.hid ?_
  refine wpList_put rfl 38 _ _ rfl (w.heap.size + 2) #[.int .i64 0, .int .i64 0, .int .i64 0] _ 38 rfl rfl HB2.out.r3 (by kernel_rfl) rfl (by kernel_rfl) ?_
  intro w3 hr3 hg3
  have HB3 : Hid (Bx w [(gp, .cells #[.int .i64 0, .int .u32 0, .int .u32 0, .int .u32 0, .bool false, .bool false, .bool false, .int .u32 0, .int .u32 0] 53 (0, 0)), (w.heap.size, .cells #[.int .i64 d, .int .i64 o] 23 (0, 0)), (w.heap.size + 1, .cells #[.int .u32 s1, .int .u32 s2, .int .u32 s3] 30 (0, 0)), (w.heap.size + 2, .cells #[.int .i64 0, .int .i64 0, .int .i64 0] 38 (0, 0))] w3) := Lib.hid (HB2.out.put (by omega) hg3.out hr3.out (by simp only [List.mem_cons, List.not_mem_nil, or_false]; rintro p (rfl | rfl | rfl | rfl) <;> simp <;> omega))
  clear c0_0 c0_1 c0_2 c0_3 c0_4 c0_5 c0_6 c0_7 c0_8 hr3 hg3 HB2
  go_wp2_with fail
  exact bodyPost_ret (results_cell_row Tryd.results11 _ _ _ _ _ (0, 0) _ rfl (HB3.out.r3) Tryd.underlying38 rfl (by kernel_rfl)) rfl (⟨rfl, HB3.out.below⟩)
set_option maxHeartbeats 4000000 in
theorem NextBad_any (F f d o : Int) (s : Stp) (w : World) (hp : proper F f d o = false) :
    Calls Tryd.prog 15 #[.int .i64 F, .agg #[.int .i64 d, .int .i64 o], .int .i64 f, s.agg] w fun ee w' => ee = .returned (.agg #[.int .i64 0, .int .i64 0]) ∧ Below w.heap.size w w' := by
  have FL := Lib.hid (fun wx => lookBad_any F f d o s wx hp)
  clear hp
  obtain ⟨s1, s2, s3⟩ := s
  simp only [Stp.agg, Stp.zero, Cs.empty, Cv.moveC, Cv.Ch.agg] at *
  have HB0 := Lib.hid (bxs3 w (.cells #[.int .i64 d, .int .i64 o] 23) (.cells #[.int .u32 s1, .int .u32 s2, .int .u32 s3] 30) (.cells #[.int .i64 0, .int .i64 0] 23))
  go_enter Tryd.func15, Tryd.ntmps15
  go_wp2_with fail
  refine (FL.out _).mono ?_
  rintro e w1 ⟨rfl, hb1⟩
  have HB1 := Lib.hid (HB0.out.next hb1)
  clear hb1 HB0
  go_wp2_with (with_reducible show wpList _ _ _ (Oper.mk _ (.store 53 _ _) _ _ _ _ :: _) _ _; refine Hid.out ?_)
  refine Lib.hid ?_
  have l2_0 : w.heap.size < w1.heap.size := (Array.getElem?_eq_some_iff.1 HB1.out.r0).1
  have l2_1 : w.heap.size + 1 < w1.heap.size := (Array.getElem?_eq_some_iff.1 HB1.out.r1).1
  have l2_2 : w.heap.size + 2 < w1.heap.size := (Array.getElem?_eq_some_iff.1 HB1.out.r2).1
  have lw2 : w.heap.size ≤ w1.heap.size := HB1.out.below.size
  refine wpList_put rfl 53 _ _ rfl w1.heap.size #[.int .i64 0, .int .u32 0, .int .u32 0, .int .u32 0, .bool false, .bool false, .bool false, .int .u32 0, .int .u32 0] _ 53 rfl rfl (heap_alloc_new w1 _) (by kernel_rfl) rfl (by kernel_rfl) ?_
  intro w2 hr2 hg2
  have HB2 : Hid (Bx w [(w1.heap.size, .cells #[.int .i64 0, .int .u32 0, .int .u32 0, .int .u32 0, .bool false, .bool false, .bool false, .int .u32 0, .int .u32 0] 53 (0, 0)), (w.heap.size, .cells #[.int .i64 d, .int .i64 o] 23 (0, 0)), (w.heap.size + 1, .cells #[.int .u32 s1, .int .u32 s2, .int .u32 s3] 30 (0, 0)), (w.heap.size + 2, .cells #[.int .i64 0, .int .i64 0] 23 (0, 0))] w2) := Lib.hid ((HB1.out.make (heap_alloc_new w1 (.cells #[.int .i64 0, .int .u32 0, .int .u32 0, .int .u32 0, .bool false, .bool false, .bool false, .int .u32 0, .int .u32 0] 53)) ((Below.refl w1.heap.size w1).alloc (Nat.le_refl _) _)).put HB1.out.below.size hg2.out hr2.out (by simp only [List.mem_cons, List.not_mem_nil, or_false]; rintro p (rfl | rfl | rfl | rfl) <;> simp <;> omega))
  clear hr2 hg2 HB1
  generalize w1.heap.size = gp at *
  have c0_0 : w2.cell? ⟨gp, 0, none⟩ = some (.int .i64 0) := cell_of_row _ _ _ _ _ (0, 0) HB2.out.r0
  have c0_1 : w2.cell? ⟨gp, 1, none⟩ = some (.int .u32 0) := cell_of_row _ _ _ _ _ (0, 0) HB2.out.r0
  have c0_2 : w2.cell? ⟨gp, 2, none⟩ = some (.int .u32 0) := cell_of_row _ _ _ _ _ (0, 0) HB2.out.r0
  have c0_3 : w2.cell? ⟨gp, 3, none⟩ = some (.int .u32 0) := cell_of_row _ _ _ _ _ (0, 0) HB2.out.r0
  have c0_4 : w2.cell? ⟨gp, 4, none⟩ = some (.bool false) := cell_of_row _ _ _ _ _ (0, 0) HB2.out.r0
  have c0_5 : w2.cell? ⟨gp, 5, none⟩ = some (.bool false) := cell_of_row _ _ _ _ _ (0, 0) HB2.out.r0
  have c0_6 : w2.cell? ⟨gp, 6, none⟩ = some (.bool false) := cell_of_row _ _ _ _ _ (0, 0) HB2.out.r0
  have c0_7 : w2.cell? ⟨gp, 7, none⟩ = some (.int .u32 0) := cell_of_row _ _ _ _ _ (0, 0) HB2.out.r0
  have c0_8 : w2.cell? ⟨gp, 8, none⟩ = some (.int .u32 0) := cell_of_row _ _ _ _ _ (0, 0) HB2.out.r0
  go_wp2_with (with_reducible show wpList _ _ _ (Oper.mk _ (.store 23 _ _) _ _ _ _ :: _) _ _; refine Hid.out ?_)
  refine Lib.hid ?_
  refine wpList_put rfl 23 _ _ rfl (w.heap.size + 2) #[.int .i64 0, .int .i64 0] _ 23 rfl rfl HB2.out.r3 (by kernel_rfl) rfl (by kernel_rfl) ?_
  intro w3 hr3 hg3
  have HB3 : Hid (Bx w [(gp, .cells #[.int .i64 0, .int .u32 0, .int .u32 0, .int .u32 0, .bool false, .bool false, .bool false, .int .u32 0, .int .u32 0] 53 (0, 0)), (w.heap.size, .cells #[.int .i64 d, .int .i64 o] 23 (0, 0)), (w.heap.size + 1, .cells #[.int .u32 s1, .int .u32 s2, .int .u32 s3] 30 (0, 0)), (w.heap.size + 2, .cells #[.int .i64 0, .int .i64 0] 23 (0, 0))] w3) := Lib.hid (HB2.out.put (by omega) hg3.out hr3.out (by simp only [List.mem_cons, List.not_mem_nil, or_false]; rintro p (rfl | rfl | rfl | rfl) <;> simp <;> omega))
  clear c0_0 c0_1 c0_2 c0_3 c0_4 c0_5 c0_6 c0_7 c0_8 hr3 hg3 HB2
  go_wp2_with fail
  exact bodyPost_ret (results_cell_row Tryd.results15 _ _ _ _ _ (0, 0) _ rfl (HB3.out.r3) Tryd.underlying23 rfl (by kernel_rfl)) rfl (⟨rfl, HB3.out.below⟩)
end Go.Proofs.YteniimbcbjbegaaDoor
