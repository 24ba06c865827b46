/- The reference's marked stops of stage 11, and what the openings count as. No statement of the seat is proved here. -/
import Derived.Test.YteniimbcbjbegaaDoorCvRefB
import Derived.Test.YteniimbcbjbegaaDoorCvLook
namespace Go.Proofs.YteniimbcbjbegaaDoor
open Go.RowKit

theorem and2 {o : Nat} (ho : o ≤ 7) : bits .and .i64 (o : Int) 2 = (if o.testBit 1 = true then 2 else 0 : Int) ∧ bits .and .i64 (o : Int) 4 = (if o.testBit 2 = true then 4 else 0 : Int) :=
  (by decide +kernel : ∀ o : Fin 8, bits .and .i64 (o.val : Int) 2 = (if o.val.testBit 1 = true then 2 else 0 : Int) ∧ bits .and .i64 (o.val : Int) 4 = (if o.val.testBit 2 = true then 4 else 0 : Int)) ⟨o, by omega⟩
set_option maxHeartbeats 2000000 in
theorem refMarked_any (d : Int) (o f : Nat) (s : Stp) (w : World) (ho : o ≤ 7) (hf : f < 32) (hs : s.ok) :
    Calls Tryd.prog 33 #[.agg #[.int .i64 d, .int .i64 (o : Int)], .int .i64 (f : Int), s.agg] w fun ee w' => ee = .returned ((Cv.mk o f s).agg) ∧ Below w.heap.size w w' := by
  have hm : min (IntKind.u64.wrap (f : Int)).toNat 32 = f := by rw [IntKind.wrap_u64]; omega
  have hpl := Cs.pow_lt hf
  have hp1 : (2 : Int) ^ f % 4294967296 = ((2 ^ f : Nat) : Int) := by
    have e : ((2 ^ f : Nat) : Int) = (2 : Int) ^ f := Int.natCast_pow 2 f
    rw [← e]
    generalize (2 ^ f : Nat) = P at hpl ⊢
    omega
  obtain ⟨a2, a4⟩ := and2 ho
  have hM : Cv.mk o f s = ⟨if o = 0 then 0 else s.car &&& 2 ^ f, ⟨if o.testBit 1 = true then s.h.up &&& 2 ^ f else 0, if o.testBit 2 = true then s.h.dn &&& 2 ^ f else 0⟩⟩ := rfl
  rw [hM]
  clear hM
  obtain ⟨s1, s2, s3⟩ := s
  have e1 := u32_and_nat s1 (2 ^ f) hs.1 hpl
  have e2 := u32_and_nat s2 (2 ^ f) hs.2.1 hpl
  have e3 := u32_and_nat s3 (2 ^ f) hs.2.2 hpl
  simp only [Stp.agg] at *
  clear hs
  generalize hP : 2 ^ f = P at *
  generalize s1 &&& P = r1 at *
  generalize s2 &&& P = r2 at *
  generalize s3 &&& P = r3 at *
  clear hP hpl
  by_cases h0 : o = 0
  · subst h0
    simp only [Nat.zero_testBit, Bool.false_eq_true, if_false, if_true] at a2 a4 ⊢
    clear ho e1 e2 e3
    have HB0 := Lib.hid (bxs4 w (.cells #[.int .i64 d, .int .i64 0] 23) (.cells #[.int .u32 s1, .int .u32 s2, .int .u32 s3] 30) (.cells #[.int .u32 0, .int .u32 0, .int .u32 0] 30) (.cells #[.int .u32 0, .int .u32 0, .int .u32 0] 30))
    go_enter Tryd.func33, Tryd.ntmps33
    go_wp2_with (with_reducible show wpList _ _ _ (Oper.mk _ (.store 30 _ _) _ _ _ _ :: _) _ _; refine Hid.out ?_)
    refine Lib.hid ?_
    refine wpList_put rfl 30 _ _ rfl (w.heap.size + 2) #[.int .u32 0, .int .u32 0, .int .u32 0] _ 30 rfl rfl HB0.out.r2 (by kernel_rfl) rfl (by kernel_rfl) ?_
    intro w1 hr1 hg1
    have HB1 : Hid (Bx w [(w.heap.size, .cells #[.int .i64 d, .int .i64 0] 23 (0, 0)), (w.heap.size + 1, .cells #[.int .u32 s1, .int .u32 s2, .int .u32 s3] 30 (0, 0)), (w.heap.size + 2, .cells #[.int .u32 0, .int .u32 0, .int .u32 0] 30 (0, 0)), (w.heap.size + 3, .cells #[.int .u32 0, .int .u32 0, .int .u32 0] 30 (0, 0))] w1) := Lib.hid (HB0.out.put (by omega) hg1.out hr1.out (by simp only [List.mem_cons, List.not_mem_nil, or_false]; rintro p (rfl | rfl | rfl | rfl) <;> simp <;> omega))
    clear hr1 hg1 HB0
    go_wp2_with fail
    exact bodyPost_ret (results_cell_row Tryd.results33 _ _ _ _ _ (0, 0) _ rfl (HB1.out.r2) Tryd.underlying30 rfl (by kernel_rfl)) rfl (⟨rfl, HB1.out.below⟩)
  · rw [if_neg h0]
    have hne : ((o : Int) != 0) = true := by simp; omega
    have hno : ¬ (o : Int) = 0 := by omega
    clear ho
    cases ht1 : o.testBit 1
    all_goals
      rw [ht1] at a2
      cases ht2 : o.testBit 2
      all_goals
        rw [ht2] at a4
        simp only [Bool.false_eq_true, if_false, if_true] at a2 a4 ⊢
        clear ht2
    all_goals
      clear ht1
    · have hfin := True.intro
      clear hfin
      have HB0 := Lib.hid (bxs4 w (.cells #[.int .i64 d, .int .i64 (o : Int)] 23) (.cells #[.int .u32 s1, .int .u32 s2, .int .u32 s3] 30) (.cells #[.int .u32 0, .int .u32 0, .int .u32 0] 30) (.cells #[.int .u32 0, .int .u32 0, .int .u32 0] 30))
      go_enter Tryd.func33, Tryd.ntmps33
      go_wp2_with (with_reducible show wpList _ _ _ (Oper.mk _ (.store 26 _ _) _ _ _ _ :: _) _ _; refine Hid.out ?_)
      refine Lib.hid ?_
      refine wpList_putCell rfl 26 _ _ rfl (w.heap.size + 3) 0 (.int .u32 (r1 : Int)) _ _ 30 rfl rfl HB0.out.r3 (by kernel_rfl) (by simp) rfl rfl rfl ?_
      intro w1 hr1 hg1
      have HB1 : Hid (Bx w [(w.heap.size, .cells #[.int .i64 d, .int .i64 (o : Int)] 23 (0, 0)), (w.heap.size + 1, .cells #[.int .u32 s1, .int .u32 s2, .int .u32 s3] 30 (0, 0)), (w.heap.size + 2, .cells #[.int .u32 0, .int .u32 0, .int .u32 0] 30 (0, 0)), (w.heap.size + 3, .cells #[.int .u32 (r1 : Int), .int .u32 0, .int .u32 0] 30 (0, 0))] w1) := Lib.hid (HB0.out.put (by omega) hg1.out hr1.out (by simp only [List.mem_cons, List.not_mem_nil, or_false]; rintro p (rfl | rfl | rfl | rfl) <;> simp <;> omega))
      clear hr1 hg1 HB0
      have c0_0 : w1.cell? ⟨w.heap.size, 0, none⟩ = some (.int .i64 d) := cell_of_row _ _ _ _ _ (0, 0) HB1.out.r0
      have c0_1 : w1.cell? ⟨w.heap.size, 1, none⟩ = some (.int .i64 (o : Int)) := cell_of_row _ _ _ _ _ (0, 0) HB1.out.r0
      have c1_0 : w1.cell? ⟨w.heap.size + 1, 0, none⟩ = some (.int .u32 s1) := cell_of_row _ _ _ _ _ (0, 0) HB1.out.r1
      have c1_1 : w1.cell? ⟨w.heap.size + 1, 1, none⟩ = some (.int .u32 s2) := cell_of_row _ _ _ _ _ (0, 0) HB1.out.r1
      have c1_2 : w1.cell? ⟨w.heap.size + 1, 2, none⟩ = some (.int .u32 s3) := cell_of_row _ _ _ _ _ (0, 0) HB1.out.r1
      have c3_0 : w1.cell? ⟨w.heap.size + 3, 0, none⟩ = some (.int .u32 (r1 : Int)) := cell_of_row _ _ _ _ _ (0, 0) HB1.out.r3
      have c3_1 : w1.cell? ⟨w.heap.size + 3, 1, none⟩ = some (.int .u32 0) := cell_of_row _ _ _ _ _ (0, 0) HB1.out.r3
      have c3_2 : w1.cell? ⟨w.heap.size + 3, 2, none⟩ = some (.int .u32 0) := cell_of_row _ _ _ _ _ (0, 0) HB1.out.r3
      go_wp2_with (with_reducible show wpList _ _ _ (Oper.mk _ (.store 30 _ _) _ _ _ _ :: _) _ _; refine Hid.out ?_)
      refine Lib.hid ?_
      refine wpList_put rfl 30 _ _ rfl (w.heap.size + 2) #[.int .u32 (r1 : Int), .int .u32 0, .int .u32 0] _ 30 rfl rfl HB1.out.r2 (by kernel_rfl) rfl (by kernel_rfl) ?_
      intro w2 hr2 hg2
      have HB2 : Hid (Bx w [(w.heap.size, .cells #[.int .i64 d, .int .i64 (o : Int)] 23 (0, 0)), (w.heap.size + 1, .cells #[.int .u32 s1, .int .u32 s2, .int .u32 s3] 30 (0, 0)), (w.heap.size + 2, .cells #[.int .u32 (r1 : Int), .int .u32 0, .int .u32 0] 30 (0, 0)), (w.heap.size + 3, .cells #[.int .u32 (r1 : Int), .int .u32 0, .int .u32 0] 30 (0, 0))] w2) := Lib.hid (HB1.out.put (by omega) hg2.out hr2.out (by simp only [List.mem_cons, List.not_mem_nil, or_false]; rintro p (rfl | rfl | rfl | rfl) <;> simp <;> omega))
      clear c0_0 c0_1 c1_0 c1_1 c1_2 c3_0 c3_1 c3_2 hr2 hg2 HB1
      go_wp2_with fail
      exact bodyPost_ret (results_cell_row Tryd.results33 _ _ _ _ _ (0, 0) _ rfl (HB2.out.r2) Tryd.underlying30 rfl (by kernel_rfl)) rfl (⟨rfl, HB2.out.below⟩)
    · have hfin := True.intro
      clear hfin
      have HB0 := Lib.hid (bxs4 w (.cells #[.int .i64 d, .int .i64 (o : Int)] 23) (.cells #[.int .u32 s1, .int .u32 s2, .int .u32 s3] 30) (.cells #[.int .u32 0, .int .u32 0, .int .u32 0] 30) (.cells #[.int .u32 0, .int .u32 0, .int .u32 0] 30))
      go_enter Tryd.func33, Tryd.ntmps33
      go_wp2_with (with_reducible show wpList _ _ _ (Oper.mk _ (.store 26 _ _) _ _ _ _ :: _) _ _; refine Hid.out ?_)
      refine Lib.hid ?_
      refine wpList_putCell rfl 26 _ _ rfl (w.heap.size + 3) 0 (.int .u32 (r1 : Int)) _ _ 30 rfl rfl HB0.out.r3 (by kernel_rfl) (by simp) rfl rfl rfl ?_
      intro w1 hr1 hg1
      have HB1 : Hid (Bx w [(w.heap.size, .cells #[.int .i64 d, .int .i64 (o : Int)] 23 (0, 0)), (w.heap.size + 1, .cells #[.int .u32 s1, .int .u32 s2, .int .u32 s3] 30 (0, 0)), (w.heap.size + 2, .cells #[.int .u32 0, .int .u32 0, .int .u32 0] 30 (0, 0)), (w.heap.size + 3, .cells #[.int .u32 (r1 : Int), .int .u32 0, .int .u32 0] 30 (0, 0))] w1) := Lib.hid (HB0.out.put (by omega) hg1.out hr1.out (by simp only [List.mem_cons, List.not_mem_nil, or_false]; rintro p (rfl | rfl | rfl | rfl) <;> simp <;> omega))
      clear hr1 hg1 HB0
      have c0_0 : w1.cell? ⟨w.heap.size, 0, none⟩ = some (.int .i64 d) := cell_of_row _ _ _ _ _ (0, 0) HB1.out.r0
      have c0_1 : w1.cell? ⟨w.heap.size, 1, none⟩ = some (.int .i64 (o : Int)) := cell_of_row _ _ _ _ _ (0, 0) HB1.out.r0
      have c1_0 : w1.cell? ⟨w.heap.size + 1, 0, none⟩ = some (.int .u32 s1) := cell_of_row _ _ _ _ _ (0, 0) HB1.out.r1
      have c1_1 : w1.cell? ⟨w.heap.size + 1, 1, none⟩ = some (.int .u32 s2) := cell_of_row _ _ _ _ _ (0, 0) HB1.out.r1
      have c1_2 : w1.cell? ⟨w.heap.size + 1, 2, none⟩ = some (.int .u32 s3) := cell_of_row _ _ _ _ _ (0, 0) HB1.out.r1
      have c3_0 : w1.cell? ⟨w.heap.size + 3, 0, none⟩ = some (.int .u32 (r1 : Int)) := cell_of_row _ _ _ _ _ (0, 0) HB1.out.r3
      have c3_1 : w1.cell? ⟨w.heap.size + 3, 1, none⟩ = some (.int .u32 0) := cell_of_row _ _ _ _ _ (0, 0) HB1.out.r3
      have c3_2 : w1.cell? ⟨w.heap.size + 3, 2, none⟩ = some (.int .u32 0) := cell_of_row _ _ _ _ _ (0, 0) HB1.out.r3
      go_wp2_with (with_reducible show wpList _ _ _ (Oper.mk _ (.store 26 _ _) _ _ _ _ :: _) _ _; refine Hid.out ?_)
      refine Lib.hid ?_
      refine wpList_putCell rfl 26 _ _ rfl (w.heap.size + 3) 2 (.int .u32 (r3 : Int)) _ _ 30 rfl rfl HB1.out.r3 (by kernel_rfl) (by simp) rfl rfl rfl ?_
      intro w2 hr2 hg2
      have HB2 : Hid (Bx w [(w.heap.size, .cells #[.int .i64 d, .int .i64 (o : Int)] 23 (0, 0)), (w.heap.size + 1, .cells #[.int .u32 s1, .int .u32 s2, .int .u32 s3] 30 (0, 0)), (w.heap.size + 2, .cells #[.int .u32 0, .int .u32 0, .int .u32 0] 30 (0, 0)), (w.heap.size + 3, .cells #[.int .u32 (r1 : Int), .int .u32 0, .int .u32 (r3 : Int)] 30 (0, 0))] w2) := Lib.hid (HB1.out.put (by omega) hg2.out hr2.out (by simp only [List.mem_cons, List.not_mem_nil, or_false]; rintro p (rfl | rfl | rfl | rfl) <;> simp <;> omega))
      clear c0_0 c0_1 c1_0 c1_1 c1_2 c3_0 c3_1 c3_2 hr2 hg2 HB1
      have c0_0 : w2.cell? ⟨w.heap.size, 0, none⟩ = some (.int .i64 d) := cell_of_row _ _ _ _ _ (0, 0) HB2.out.r0
      have c0_1 : w2.cell? ⟨w.heap.size, 1, none⟩ = some (.int .i64 (o : Int)) := cell_of_row _ _ _ _ _ (0, 0) HB2.out.r0
      have c1_0 : w2.cell? ⟨w.heap.size + 1, 0, none⟩ = some (.int .u32 s1) := cell_of_row _ _ _ _ _ (0, 0) HB2.out.r1
      have c1_1 : w2.cell? ⟨w.heap.size + 1, 1, none⟩ = some (.int .u32 s2) := cell_of_row _ _ _ _ _ (0, 0) HB2.out.r1
      have c1_2 : w2.cell? ⟨w.heap.size + 1, 2, none⟩ = some (.int .u32 s3) := cell_of_row _ _ _ _ _ (0, 0) HB2.out.r1
      have c3_0 : w2.cell? ⟨w.heap.size + 3, 0, none⟩ = some (.int .u32 (r1 : Int)) := cell_of_row _ _ _ _ _ (0, 0) HB2.out.r3
      have c3_1 : w2.cell? ⟨w.heap.size + 3, 1, none⟩ = some (.int .u32 0) := cell_of_row _ _ _ _ _ (0, 0) HB2.out.r3
      have c3_2 : w2.cell? ⟨w.heap.size + 3, 2, none⟩ = some (.int .u32 (r3 : Int)) := cell_of_row _ _ _ _ _ (0, 0) HB2.out.r3
      go_wp2_with (with_reducible show wpList _ _ _ (Oper.mk _ (.store 30 _ _) _ _ _ _ :: _) _ _; refine Hid.out ?_)
      refine Lib.hid ?_
      refine wpList_put rfl 30 _ _ rfl (w.heap.size + 2) #[.int .u32 (r1 : Int), .int .u32 0, .int .u32 (r3 : Int)] _ 30 rfl rfl HB2.out.r2 (by kernel_rfl) rfl (by kernel_rfl) ?_
      intro w3 hr3 hg3
      have HB3 : Hid (Bx w [(w.heap.size, .cells #[.int .i64 d, .int .i64 (o : Int)] 23 (0, 0)), (w.heap.size + 1, .cells #[.int .u32 s1, .int .u32 s2, .int .u32 s3] 30 (0, 0)), (w.heap.size + 2, .cells #[.int .u32 (r1 : Int), .int .u32 0, .int .u32 (r3 : Int)] 30 (0, 0)), (w.heap.size + 3, .cells #[.int .u32 (r1 : Int), .int .u32 0, .int .u32 (r3 : Int)] 30 (0, 0))] w3) := Lib.hid (HB2.out.put (by omega) hg3.out hr3.out (by simp only [List.mem_cons, List.not_mem_nil, or_false]; rintro p (rfl | rfl | rfl | rfl) <;> simp <;> omega))
      clear c0_0 c0_1 c1_0 c1_1 c1_2 c3_0 c3_1 c3_2 hr3 hg3 HB2
      go_wp2_with fail
      exact bodyPost_ret (results_cell_row Tryd.results33 _ _ _ _ _ (0, 0) _ rfl (HB3.out.r2) Tryd.underlying30 rfl (by kernel_rfl)) rfl (⟨rfl, HB3.out.below⟩)
    · have hfin := True.intro
      clear hfin
      have HB0 := Lib.hid (bxs4 w (.cells #[.int .i64 d, .int .i64 (o : Int)] 23) (.cells #[.int .u32 s1, .int .u32 s2, .int .u32 s3] 30) (.cells #[.int .u32 0, .int .u32 0, .int .u32 0] 30) (.cells #[.int .u32 0, .int .u32 0, .int .u32 0] 30))
      go_enter Tryd.func33, Tryd.ntmps33
      go_wp2_with (with_reducible show wpList _ _ _ (Oper.mk _ (.store 26 _ _) _ _ _ _ :: _) _ _; refine Hid.out ?_)
      refine Lib.hid ?_
      refine wpList_putCell rfl 26 _ _ rfl (w.heap.size + 3) 0 (.int .u32 (r1 : Int)) _ _ 30 rfl rfl HB0.out.r3 (by kernel_rfl) (by simp) rfl rfl rfl ?_
      intro w1 hr1 hg1
      have HB1 : Hid (Bx w [(w.heap.size, .cells #[.int .i64 d, .int .i64 (o : Int)] 23 (0, 0)), (w.heap.size + 1, .cells #[.int .u32 s1, .int .u32 s2, .int .u32 s3] 30 (0, 0)), (w.heap.size + 2, .cells #[.int .u32 0, .int .u32 0, .int .u32 0] 30 (0, 0)), (w.heap.size + 3, .cells #[.int .u32 (r1 : Int), .int .u32 0, .int .u32 0] 30 (0, 0))] w1) := Lib.hid (HB0.out.put (by omega) hg1.out hr1.out (by simp only [List.mem_cons, List.not_mem_nil, or_false]; rintro p (rfl | rfl | rfl | rfl) <;> simp <;> omega))
      clear hr1 hg1 HB0
      have c0_0 : w1.cell? ⟨w.heap.size, 0, none⟩ = some (.int .i64 d) := cell_of_row _ _ _ _ _ (0, 0) HB1.out.r0
      have c0_1 : w1.cell? ⟨w.heap.size, 1, none⟩ = some (.int .i64 (o : Int)) := cell_of_row _ _ _ _ _ (0, 0) HB1.out.r0
      have c1_0 : w1.cell? ⟨w.heap.size + 1, 0, none⟩ = some (.int .u32 s1) := cell_of_row _ _ _ _ _ (0, 0) HB1.out.r1
      have c1_1 : w1.cell? ⟨w.heap.size + 1, 1, none⟩ = some (.int .u32 s2) := cell_of_row _ _ _ _ _ (0, 0) HB1.out.r1
      have c1_2 : w1.cell? ⟨w.heap.size + 1, 2, none⟩ = some (.int .u32 s3) := cell_of_row _ _ _ _ _ (0, 0) HB1.out.r1
      have c3_0 : w1.cell? ⟨w.heap.size + 3, 0, none⟩ = some (.int .u32 (r1 : Int)) := cell_of_row _ _ _ _ _ (0, 0) HB1.out.r3
      have c3_1 : w1.cell? ⟨w.heap.size + 3, 1, none⟩ = some (.int .u32 0) := cell_of_row _ _ _ _ _ (0, 0) HB1.out.r3
      have c3_2 : w1.cell? ⟨w.heap.size + 3, 2, none⟩ = some (.int .u32 0) := cell_of_row _ _ _ _ _ (0, 0) HB1.out.r3
      go_wp2_with (with_reducible show wpList _ _ _ (Oper.mk _ (.store 26 _ _) _ _ _ _ :: _) _ _; refine Hid.out ?_)
      refine Lib.hid ?_
      refine wpList_putCell rfl 26 _ _ rfl (w.heap.size + 3) 1 (.int .u32 (r2 : Int)) _ _ 30 rfl rfl HB1.out.r3 (by kernel_rfl) (by simp) rfl rfl rfl ?_
      intro w2 hr2 hg2
      have HB2 : Hid (Bx w [(w.heap.size, .cells #[.int .i64 d, .int .i64 (o : Int)] 23 (0, 0)), (w.heap.size + 1, .cells #[.int .u32 s1, .int .u32 s2, .int .u32 s3] 30 (0, 0)), (w.heap.size + 2, .cells #[.int .u32 0, .int .u32 0, .int .u32 0] 30 (0, 0)), (w.heap.size + 3, .cells #[.int .u32 (r1 : Int), .int .u32 (r2 : Int), .int .u32 0] 30 (0, 0))] w2) := Lib.hid (HB1.out.put (by omega) hg2.out hr2.out (by simp only [List.mem_cons, List.not_mem_nil, or_false]; rintro p (rfl | rfl | rfl | rfl) <;> simp <;> omega))
      clear c0_0 c0_1 c1_0 c1_1 c1_2 c3_0 c3_1 c3_2 hr2 hg2 HB1
      have c0_0 : w2.cell? ⟨w.heap.size, 0, none⟩ = some (.int .i64 d) := cell_of_row _ _ _ _ _ (0, 0) HB2.out.r0
      have c0_1 : w2.cell? ⟨w.heap.size, 1, none⟩ = some (.int .i64 (o : Int)) := cell_of_row _ _ _ _ _ (0, 0) HB2.out.r0
      have c1_0 : w2.cell? ⟨w.heap.size + 1, 0, none⟩ = some (.int .u32 s1) := cell_of_row _ _ _ _ _ (0, 0) HB2.out.r1
      have c1_1 : w2.cell? ⟨w.heap.size + 1, 1, none⟩ = some (.int .u32 s2) := cell_of_row _ _ _ _ _ (0, 0) HB2.out.r1
      have c1_2 : w2.cell? ⟨w.heap.size + 1, 2, none⟩ = some (.int .u32 s3) := cell_of_row _ _ _ _ _ (0, 0) HB2.out.r1
      have c3_0 : w2.cell? ⟨w.heap.size + 3, 0, none⟩ = some (.int .u32 (r1 : Int)) := cell_of_row _ _ _ _ _ (0, 0) HB2.out.r3
      have c3_1 : w2.cell? ⟨w.heap.size + 3, 1, none⟩ = some (.int .u32 (r2 : Int)) := cell_of_row _ _ _ _ _ (0, 0) HB2.out.r3
      have c3_2 : w2.cell? ⟨w.heap.size + 3, 2, none⟩ = some (.int .u32 0) := cell_of_row _ _ _ _ _ (0, 0) HB2.out.r3
      go_wp2_with (with_reducible show wpList _ _ _ (Oper.mk _ (.store 30 _ _) _ _ _ _ :: _) _ _; refine Hid.out ?_)
      refine Lib.hid ?_
      refine wpList_put rfl 30 _ _ rfl (w.heap.size + 2) #[.int .u32 (r1 : Int), .int .u32 (r2 : Int), .int .u32 0] _ 30 rfl rfl HB2.out.r2 (by kernel_rfl) rfl (by kernel_rfl) ?_
      intro w3 hr3 hg3
      have HB3 : Hid (Bx w [(w.heap.size, .cells #[.int .i64 d, .int .i64 (o : Int)] 23 (0, 0)), (w.heap.size + 1, .cells #[.int .u32 s1, .int .u32 s2, .int .u32 s3] 30 (0, 0)), (w.heap.size + 2, .cells #[.int .u32 (r1 : Int), .int .u32 (r2 : Int), .int .u32 0] 30 (0, 0)), (w.heap.size + 3, .cells #[.int .u32 (r1 : Int), .int .u32 (r2 : Int), .int .u32 0] 30 (0, 0))] w3) := Lib.hid (HB2.out.put (by omega) hg3.out hr3.out (by simp only [List.mem_cons, List.not_mem_nil, or_false]; rintro p (rfl | rfl | rfl | rfl) <;> simp <;> omega))
      clear c0_0 c0_1 c1_0 c1_1 c1_2 c3_0 c3_1 c3_2 hr3 hg3 HB2
      go_wp2_with fail
      exact bodyPost_ret (results_cell_row Tryd.results33 _ _ _ _ _ (0, 0) _ rfl (HB3.out.r2) Tryd.underlying30 rfl (by kernel_rfl)) rfl (⟨rfl, HB3.out.below⟩)
    · have hfin := True.intro
      clear hfin
      have HB0 := Lib.hid (bxs4 w (.cells #[.int .i64 d, .int .i64 (o : Int)] 23) (.cells #[.int .u32 s1, .int .u32 s2, .int .u32 s3] 30) (.cells #[.int .u32 0, .int .u32 0, .int .u32 0] 30) (.cells #[.int .u32 0, .int .u32 0, .int .u32 0] 30))
      go_enter Tryd.func33, Tryd.ntmps33
      go_wp2_with (with_reducible show wpList _ _ _ (Oper.mk _ (.store 26 _ _) _ _ _ _ :: _) _ _; refine Hid.out ?_)
      refine Lib.hid ?_
      refine wpList_putCell rfl 26 _ _ rfl (w.heap.size + 3) 0 (.int .u32 (r1 : Int)) _ _ 30 rfl rfl HB0.out.r3 (by kernel_rfl) (by simp) rfl rfl rfl ?_
      intro w1 hr1 hg1
      have HB1 : Hid (Bx w [(w.heap.size, .cells #[.int .i64 d, .int .i64 (o : Int)] 23 (0, 0)), (w.heap.size + 1, .cells #[.int .u32 s1, .int .u32 s2, .int .u32 s3] 30 (0, 0)), (w.heap.size + 2, .cells #[.int .u32 0, .int .u32 0, .int .u32 0] 30 (0, 0)), (w.heap.size + 3, .cells #[.int .u32 (r1 : Int), .int .u32 0, .int .u32 0] 30 (0, 0))] w1) := Lib.hid (HB0.out.put (by omega) hg1.out hr1.out (by simp only [List.mem_cons, List.not_mem_nil, or_false]; rintro p (rfl | rfl | rfl | rfl) <;> simp <;> omega))
      clear hr1 hg1 HB0
      have c0_0 : w1.cell? ⟨w.heap.size, 0, none⟩ = some (.int .i64 d) := cell_of_row _ _ _ _ _ (0, 0) HB1.out.r0
      have c0_1 : w1.cell? ⟨w.heap.size, 1, none⟩ = some (.int .i64 (o : Int)) := cell_of_row _ _ _ _ _ (0, 0) HB1.out.r0
      have c1_0 : w1.cell? ⟨w.heap.size + 1, 0, none⟩ = some (.int .u32 s1) := cell_of_row _ _ _ _ _ (0, 0) HB1.out.r1
      have c1_1 : w1.cell? ⟨w.heap.size + 1, 1, none⟩ = some (.int .u32 s2) := cell_of_row _ _ _ _ _ (0, 0) HB1.out.r1
      have c1_2 : w1.cell? ⟨w.heap.size + 1, 2, none⟩ = some (.int .u32 s3) := cell_of_row _ _ _ _ _ (0, 0) HB1.out.r1
      have c3_0 : w1.cell? ⟨w.heap.size + 3, 0, none⟩ = some (.int .u32 (r1 : Int)) := cell_of_row _ _ _ _ _ (0, 0) HB1.out.r3
      have c3_1 : w1.cell? ⟨w.heap.size + 3, 1, none⟩ = some (.int .u32 0) := cell_of_row _ _ _ _ _ (0, 0) HB1.out.r3
      have c3_2 : w1.cell? ⟨w.heap.size + 3, 2, none⟩ = some (.int .u32 0) := cell_of_row _ _ _ _ _ (0, 0) HB1.out.r3
      go_wp2_with (with_reducible show wpList _ _ _ (Oper.mk _ (.store 26 _ _) _ _ _ _ :: _) _ _; refine Hid.out ?_)
      refine Lib.hid ?_
      refine wpList_putCell rfl 26 _ _ rfl (w.heap.size + 3) 1 (.int .u32 (r2 : Int)) _ _ 30 rfl rfl HB1.out.r3 (by kernel_rfl) (by simp) rfl rfl rfl ?_
      intro w2 hr2 hg2
      have HB2 : Hid (Bx w [(w.heap.size, .cells #[.int .i64 d, .int .i64 (o : Int)] 23 (0, 0)), (w.heap.size + 1, .cells #[.int .u32 s1, .int .u32 s2, .int .u32 s3] 30 (0, 0)), (w.heap.size + 2, .cells #[.int .u32 0, .int .u32 0, .int .u32 0] 30 (0, 0)), (w.heap.size + 3, .cells #[.int .u32 (r1 : Int), .int .u32 (r2 : Int), .int .u32 0] 30 (0, 0))] w2) := Lib.hid (HB1.out.put (by omega) hg2.out hr2.out (by simp only [List.mem_cons, List.not_mem_nil, or_false]; rintro p (rfl | rfl | rfl | rfl) <;> simp <;> omega))
      clear c0_0 c0_1 c1_0 c1_1 c1_2 c3_0 c3_1 c3_2 hr2 hg2 HB1
      have c0_0 : w2.cell? ⟨w.heap.size, 0, none⟩ = some (.int .i64 d) := cell_of_row _ _ _ _ _ (0, 0) HB2.out.r0
      have c0_1 : w2.cell? ⟨w.heap.size, 1, none⟩ = some (.int .i64 (o : Int)) := cell_of_row _ _ _ _ _ (0, 0) HB2.out.r0
      have c1_0 : w2.cell? ⟨w.heap.size + 1, 0, none⟩ = some (.int .u32 s1) := cell_of_row _ _ _ _ _ (0, 0) HB2.out.r1
      have c1_1 : w2.cell? ⟨w.heap.size + 1, 1, none⟩ = some (.int .u32 s2) := cell_of_row _ _ _ _ _ (0, 0) HB2.out.r1
      have c1_2 : w2.cell? ⟨w.heap.size + 1, 2, none⟩ = some (.int .u32 s3) := cell_of_row _ _ _ _ _ (0, 0) HB2.out.r1
      have c3_0 : w2.cell? ⟨w.heap.size + 3, 0, none⟩ = some (.int .u32 (r1 : Int)) := cell_of_row _ _ _ _ _ (0, 0) HB2.out.r3
      have c3_1 : w2.cell? ⟨w.heap.size + 3, 1, none⟩ = some (.int .u32 (r2 : Int)) := cell_of_row _ _ _ _ _ (0, 0) HB2.out.r3
      have c3_2 : w2.cell? ⟨w.heap.size + 3, 2, none⟩ = some (.int .u32 0) := cell_of_row _ _ _ _ _ (0, 0) HB2.out.r3
      go_wp2_with (with_reducible show wpList _ _ _ (Oper.mk _ (.store 26 _ _) _ _ _ _ :: _) _ _; refine Hid.out ?_)
      refine Lib.hid ?_
      refine wpList_putCell rfl 26 _ _ rfl (w.heap.size + 3) 2 (.int .u32 (r3 : Int)) _ _ 30 rfl rfl HB2.out.r3 (by kernel_rfl) (by simp) rfl rfl rfl ?_
      intro w3 hr3 hg3
      have HB3 : Hid (Bx w [(w.heap.size, .cells #[.int .i64 d, .int .i64 (o : Int)] 23 (0, 0)), (w.heap.size + 1, .cells #[.int .u32 s1, .int .u32 s2, .int .u32 s3] 30 (0, 0)), (w.heap.size + 2, .cells #[.int .u32 0, .int .u32 0, .int .u32 0] 30 (0, 0)), (w.heap.size + 3, .cells #[.int .u32 (r1 : Int), .int .u32 (r2 : Int), .int .u32 (r3 : Int)] 30 (0, 0))] w3) := Lib.hid (HB2.out.put (by omega) hg3.out hr3.out (by simp only [List.mem_cons, List.not_mem_nil, or_false]; rintro p (rfl | rfl | rfl | rfl) <;> simp <;> omega))
      clear c0_0 c0_1 c1_0 c1_1 c1_2 c3_0 c3_1 c3_2 hr3 hg3 HB2
      have c0_0 : w3.cell? ⟨w.heap.size, 0, none⟩ = some (.int .i64 d) := cell_of_row _ _ _ _ _ (0, 0) HB3.out.r0
      have c0_1 : w3.cell? ⟨w.heap.size, 1, none⟩ = some (.int .i64 (o : Int)) := cell_of_row _ _ _ _ _ (0, 0) HB3.out.r0
      have c1_0 : w3.cell? ⟨w.heap.size + 1, 0, none⟩ = some (.int .u32 s1) := cell_of_row _ _ _ _ _ (0, 0) HB3.out.r1
      have c1_1 : w3.cell? ⟨w.heap.size + 1, 1, none⟩ = some (.int .u32 s2) := cell_of_row _ _ _ _ _ (0, 0) HB3.out.r1
      have c1_2 : w3.cell? ⟨w.heap.size + 1, 2, none⟩ = some (.int .u32 s3) := cell_of_row _ _ _ _ _ (0, 0) HB3.out.r1
      have c3_0 : w3.cell? ⟨w.heap.size + 3, 0, none⟩ = some (.int .u32 (r1 : Int)) := cell_of_row _ _ _ _ _ (0, 0) HB3.out.r3
      have c3_1 : w3.cell? ⟨w.heap.size + 3, 1, none⟩ = some (.int .u32 (r2 : Int)) := cell_of_row _ _ _ _ _ (0, 0) HB3.out.r3
      have c3_2 : w3.cell? ⟨w.heap.size + 3, 2, none⟩ = some (.int .u32 (r3 : Int)) := cell_of_row _ _ _ _ _ (0, 0) HB3.out.r3
      go_wp2_with (with_reducible show wpList _ _ _ (Oper.mk _ (.store 30 _ _) _ _ _ _ :: _) _ _; refine Hid.out ?_)
      refine Lib.hid ?_
      refine wpList_put rfl 30 _ _ rfl (w.heap.size + 2) #[.int .u32 (r1 : Int), .int .u32 (r2 : Int), .int .u32 (r3 : Int)] _ 30 rfl rfl HB3.out.r2 (by kernel_rfl) rfl (by kernel_rfl) ?_
      intro w4 hr4 hg4
      have HB4 : Hid (Bx w [(w.heap.size, .cells #[.int .i64 d, .int .i64 (o : Int)] 23 (0, 0)), (w.heap.size + 1, .cells #[.int .u32 s1, .int .u32 s2, .int .u32 s3] 30 (0, 0)), (w.heap.size + 2, .cells #[.int .u32 (r1 : Int), .int .u32 (r2 : Int), .int .u32 (r3 : Int)] 30 (0, 0)), (w.heap.size + 3, .cells #[.int .u32 (r1 : Int), .int .u32 (r2 : Int), .int .u32 (r3 : Int)] 30 (0, 0))] w4) := Lib.hid (HB3.out.put (by omega) hg4.out hr4.out (by simp only [List.mem_cons, List.not_mem_nil, or_false]; rintro p (rfl | rfl | rfl | rfl) <;> simp <;> omega))
      clear c0_0 c0_1 c1_0 c1_1 c1_2 c3_0 c3_1 c3_2 hr4 hg4 HB3
      go_wp2_with fail
      exact bodyPost_ret (results_cell_row Tryd.results33 _ _ _ _ _ (0, 0) _ rfl (HB4.out.r2) Tryd.underlying30 rfl (by kernel_rfl)) rfl (⟨rfl, HB4.out.below⟩)
set_option maxHeartbeats 2000000 in
theorem refCounted_any (d : Int) (o f : Nat) (s : Stp) (w : World) (ho : o ≤ 7) (hf : f < 32) (hs : s.ok) :
    Calls Tryd.prog 32 #[.agg #[.int .i64 d, .int .i64 (o : Int)], .int .i64 (f : Int), s.agg] w fun ee w' => ee = .returned (.int .i64 (Cv.cd o f s : Int)) ∧ Below w.heap.size w w' := by
  have FM := Lib.hid (fun wx => refMarked_any d o f s wx ho hf hs)
  have hcd : Cv.cd o f s = if Stp.eqB (Cv.mk o f s) s = true then 0 else o := rfl
  rw [hcd]
  clear hcd ho hs
  generalize Cv.mk o f s = M at *
  obtain ⟨m1, m2, m3⟩ := M
  obtain ⟨s1, s2, s3⟩ := s
  have eq := eqlSt (m1 : Int) m2 m3 s1 s2 s3
  rw [eqB_int m1 m2 m3 s1 s2 s3] at eq
  simp only [Stp.agg] at *
  generalize Stp.eqB ⟨m1, ⟨m2, m3⟩⟩ ⟨s1, ⟨s2, s3⟩⟩ = q at *
  cases q
  · have HB0 := Lib.hid (bxs2 w (.cells #[.int .i64 d, .int .i64 (o : Int)] 23) (.cells #[.int .u32 s1, .int .u32 s2, .int .u32 s3] 30))
    go_enter Tryd.func32, Tryd.ntmps32
    go_wp2_with fail
    generalize hWW : ((w.alloc (.cells #[.int .i64 d, .int .i64 (o : Int)] 23)).alloc (.cells #[.int .u32 s1, .int .u32 s2, .int .u32 s3] 30)) = W at *
    clear hWW
    go_wp2_with fail
    refine Bag.region (fun wx => Below W.heap.size W wx) (by kernel_rfl) (by kernel_rfl) (Below.refl _ _).drew ?_
    iterate 6 (first
        | (apply Bag.walk_yes (by rfl)
           (intro wx hx K hK
            have HXx := HB0.out.next hx
            have z0_0 : wx.cell? ⟨w.heap.size, 0, none⟩ = some (.int .i64 d) := cell_of_row _ _ _ _ _ (0, 0) HXx.r0
            have z0_1 : wx.cell? ⟨w.heap.size, 1, none⟩ = some (.int .i64 (o : Int)) := cell_of_row _ _ _ _ _ (0, 0) HXx.r0
            have z1_0 : wx.cell? ⟨w.heap.size + 1, 0, none⟩ = some (.int .u32 s1) := cell_of_row _ _ _ _ _ (0, 0) HXx.r1
            have z1_1 : wx.cell? ⟨w.heap.size + 1, 1, none⟩ = some (.int .u32 s2) := cell_of_row _ _ _ _ _ (0, 0) HXx.r1
            have z1_2 : wx.cell? ⟨w.heap.size + 1, 2, none⟩ = some (.int .u32 s3) := cell_of_row _ _ _ _ _ (0, 0) HXx.r1
            first
              | (go_simp
                 first
                  | (go_at_call 33; (with_reducible refine (FM.out _).mono ?_); rintro e x1 ⟨rfl, hb⟩; exact hK _ (hx.trans (hb.mono hx.size)))
                  | (go_at_K; exact hK _ hx)))
           rfl)
        | (refine Bag.walk_no (by rfl) ?_; simp only [Act.put, List.setIfInBounds_toArray, List.set_cons_succ, List.set_cons_zero]))
    refine Bag.walk_nil (fun w1 hb1 => ?_)
    have HB1 := Lib.hid (HB0.out.next hb1)
    clear hb1 HB0
    have c0_0 : w1.cell? ⟨w.heap.size, 0, none⟩ = some (.int .i64 d) := cell_of_row _ _ _ _ _ (0, 0) HB1.out.r0
    have c0_1 : w1.cell? ⟨w.heap.size, 1, none⟩ = some (.int .i64 (o : Int)) := cell_of_row _ _ _ _ _ (0, 0) HB1.out.r0
    have c1_0 : w1.cell? ⟨w.heap.size + 1, 0, none⟩ = some (.int .u32 s1) := cell_of_row _ _ _ _ _ (0, 0) HB1.out.r1
    have c1_1 : w1.cell? ⟨w.heap.size + 1, 1, none⟩ = some (.int .u32 s2) := cell_of_row _ _ _ _ _ (0, 0) HB1.out.r1
    have c1_2 : w1.cell? ⟨w.heap.size + 1, 2, none⟩ = some (.int .u32 s3) := cell_of_row _ _ _ _ _ (0, 0) HB1.out.r1
    go_wp2_with fail
    go_ret
    exact ⟨rfl, HB1.out.below⟩
  · have HB0 := Lib.hid (bxs2 w (.cells #[.int .i64 d, .int .i64 (o : Int)] 23) (.cells #[.int .u32 s1, .int .u32 s2, .int .u32 s3] 30))
    go_enter Tryd.func32, Tryd.ntmps32
    go_wp2_with fail
    generalize hWW : ((w.alloc (.cells #[.int .i64 d, .int .i64 (o : Int)] 23)).alloc (.cells #[.int .u32 s1, .int .u32 s2, .int .u32 s3] 30)) = W at *
    clear hWW
    go_wp2_with fail
    refine Bag.region (fun wx => Below W.heap.size W wx) (by kernel_rfl) (by kernel_rfl) (Below.refl _ _).drew ?_
    iterate 6 (first
        | (apply Bag.walk_yes (by rfl)
           (intro wx hx K hK
            have HXx := HB0.out.next hx
            have z0_0 : wx.cell? ⟨w.heap.size, 0, none⟩ = some (.int .i64 d) := cell_of_row _ _ _ _ _ (0, 0) HXx.r0
            have z0_1 : wx.cell? ⟨w.heap.size, 1, none⟩ = some (.int .i64 (o : Int)) := cell_of_row _ _ _ _ _ (0, 0) HXx.r0
            have z1_0 : wx.cell? ⟨w.heap.size + 1, 0, none⟩ = some (.int .u32 s1) := cell_of_row _ _ _ _ _ (0, 0) HXx.r1
            have z1_1 : wx.cell? ⟨w.heap.size + 1, 1, none⟩ = some (.int .u32 s2) := cell_of_row _ _ _ _ _ (0, 0) HXx.r1
            have z1_2 : wx.cell? ⟨w.heap.size + 1, 2, none⟩ = some (.int .u32 s3) := cell_of_row _ _ _ _ _ (0, 0) HXx.r1
            first
              | (go_simp
                 first
                  | (go_at_call 33; (with_reducible refine (FM.out _).mono ?_); rintro e x1 ⟨rfl, hb⟩; exact hK _ (hx.trans (hb.mono hx.size)))
                  | (go_at_K; exact hK _ hx)))
           rfl)
        | (refine Bag.walk_no (by rfl) ?_; simp only [Act.put, List.setIfInBounds_toArray, List.set_cons_succ, List.set_cons_zero]))
    refine Bag.walk_nil (fun w1 hb1 => ?_)
    have HB1 := Lib.hid (HB0.out.next hb1)
    clear hb1 HB0
    have c0_0 : w1.cell? ⟨w.heap.size, 0, none⟩ = some (.int .i64 d) := cell_of_row _ _ _ _ _ (0, 0) HB1.out.r0
    have c0_1 : w1.cell? ⟨w.heap.size, 1, none⟩ = some (.int .i64 (o : Int)) := cell_of_row _ _ _ _ _ (0, 0) HB1.out.r0
    have c1_0 : w1.cell? ⟨w.heap.size + 1, 0, none⟩ = some (.int .u32 s1) := cell_of_row _ _ _ _ _ (0, 0) HB1.out.r1
    have c1_1 : w1.cell? ⟨w.heap.size + 1, 1, none⟩ = some (.int .u32 s2) := cell_of_row _ _ _ _ _ (0, 0) HB1.out.r1
    have c1_2 : w1.cell? ⟨w.heap.size + 1, 2, none⟩ = some (.int .u32 s3) := cell_of_row _ _ _ _ _ (0, 0) HB1.out.r1
    go_wp2_with fail
    go_ret
    exact ⟨rfl, HB1.out.below⟩
end Go.Proofs.YteniimbcbjbegaaDoor
